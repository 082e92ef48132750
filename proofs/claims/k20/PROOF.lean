import PyProof.Rows.All
import Wide.All
import OpenK.AllK
import Wide.FinOn
import HandS.ForMost
import HandS.IsInst
import HandS.TupLe
import HandS.TupAny
import HandS.More
import HandS.Codes
import HandS.Conv
import HandS.Deep
import HandS.TupSets
import HandS.Style
import HandS.Strs
import HandS.AnyAll
import HandS.GenList
import HandS.JoinGen
import HandS.Zip
import HandS.Head0
import HandS.Head1
import HandS.Head2
import HandS.HeadEnd
import HandS.HeadHook1
import HandS.HeadHook2
import HandS.HeadHook3
import HandS.HeadHook4
import HandS.HeadWalk
import HandS.Defaults
import HandS.ReplaceLit
import KE.KUnpackStar
import PySem.Challenge.RW_glitchnet_k20_words_of_nets
set_option Elab.async false
set_option linter.all false
set_option maxRecDepth 100000
set_option maxHeartbeats 1000000
namespace Gk
open PySem PySem.Spec PyProof.Rows L2
/-! ### the text -/
def topS (i : Nat) : Stmt := PySem.Challenge.pw_glitchnet_k20_words_of_nets.main.body.getD i (.Pass ⟨0, 0, 0, 0⟩)
abbrev s_is_whole : Stmt := topS 1
abbrev s_is_signs : Stmt := topS 2
abbrev s_is_net : Stmt := topS 6
abbrev s_is_gate : Stmt := topS 7
abbrev s_choices_of : Stmt := topS 8
abbrev s_table_worth : Stmt := topS 9
abbrev s_pairs_of : Stmt := topS 11
abbrev s_gate_word : Stmt := topS 12
abbrev s_goes_fro : Stmt := topS 13
abbrev s_pair_by : Stmt := topS 14
abbrev s_words_of : Stmt := topS 16
abbrev s_read_net : Stmt := topS 22
abbrev s_read_head : Stmt := topS 23
abbrev s_read_gate : Stmt := topS 24
abbrev s_read_number : Stmt := topS 25
abbrev s_deck : Stmt := topS 27
abbrev s_draw : Stmt := topS 28
abbrev s_table : Stmt := topS 29
abbrev s_formula : Stmt := topS 30
abbrev s_chain : Stmt := topS 31
abbrev s_shared : Stmt := topS 32
abbrev s_net : Stmt := topS 33
abbrev s_change : Stmt := topS 34
abbrev s_worth : Stmt := topS 35
abbrev s_may : Stmt := topS 36
abbrev s_word : Stmt := topS 37
abbrev s_words : Stmt := topS 38
abbrev s_same : Stmt := topS 39
abbrev s_long : Stmt := topS 40
abbrev s_long_right : Stmt := topS 41
abbrev s_law : Stmt := topS 42
theorem sc_is_whole : FnScope ["thing"] ["thing"] (defScope s_is_whole) := ⟨rfl, rfl, rfl, by decide +kernel, rfl, by decide +kernel, by decide +kernel⟩
theorem sc_is_signs : FnScope ["many", "thing", "sign"] ["many", "thing"] (defScope s_is_signs) := ⟨rfl, rfl, rfl, by decide +kernel, rfl, by decide +kernel, by decide +kernel⟩
theorem sc_is_net : FnScope ["thing", "many", "gates", "number", "gate"] ["thing"] (defScope s_is_net) := ⟨rfl, rfl, rfl, by decide +kernel, rfl, by decide +kernel, by decide +kernel⟩
theorem sc_is_gate : FnScope ["wires", "thing", "table", "ins", "wire"] ["wires", "thing"] (defScope s_is_gate) := ⟨rfl, rfl, rfl, by decide +kernel, rfl, by decide +kernel, by decide +kernel⟩
theorem sc_choices_of : FnScope ["lists", "choices", "options", "choice", "option"] ["lists"] (defScope s_choices_of) := ⟨rfl, rfl, rfl, by decide +kernel, rfl, by decide +kernel, by decide +kernel⟩
theorem sc_table_worth : FnScope ["table", "worths", "place", "worth"] ["table", "worths"] (defScope s_table_worth) := ⟨rfl, rfl, rfl, by decide +kernel, rfl, by decide +kernel, by decide +kernel⟩
theorem sc_pairs_of : FnScope ["word", "first", "last", "fro"] ["word"] (defScope s_pairs_of) := ⟨rfl, rfl, rfl, by decide +kernel, rfl, by decide +kernel, by decide +kernel⟩
theorem sc_gate_word : FnScope ["table", "words", "first", "last", "word"] ["table", "words"] (defScope s_gate_word) := ⟨rfl, rfl, rfl, by decide +kernel, rfl, by decide +kernel, by decide +kernel⟩
theorem sc_goes_fro : FnScope ["table", "words", "first", "last", "pairs", "early", "late", "word"] ["table", "words", "first", "last"] (defScope s_goes_fro) := ⟨rfl, rfl, rfl, by decide +kernel, rfl, by decide +kernel, by decide +kernel⟩
theorem sc_pair_by : FnScope ["table", "pairs", "p", "q"] ["table", "pairs"] (defScope s_pair_by) := ⟨rfl, rfl, rfl, by decide +kernel, rfl, by decide +kernel, by decide +kernel⟩
theorem sc_words_of : FnScope ["net", "change", "a", "b", "words", "table", "ins", "before", "after", "wire"] ["net", "change"] (defScope s_words_of) := ⟨rfl, rfl, rfl, by decide +kernel, rfl, by decide +kernel, by decide +kernel⟩
theorem sc_read_net : FnScope ["text", "head", "lines", "net", "line"] ["text"] (defScope s_read_net) := ⟨rfl, rfl, rfl, by decide +kernel, rfl, by decide +kernel, by decide +kernel⟩
theorem sc_read_head : FnScope ["line", "words"] ["line"] (defScope s_read_head) := ⟨rfl, rfl, rfl, by decide +kernel, rfl, by decide +kernel, by decide +kernel⟩
theorem sc_read_gate : FnScope ["line", "table", "wires", "wire"] ["line"] (defScope s_read_gate) := ⟨rfl, rfl, rfl, by decide +kernel, rfl, by decide +kernel, by decide +kernel⟩
theorem sc_read_number : FnScope ["word", "sign"] ["word"] (defScope s_read_number) := ⟨rfl, rfl, rfl, by decide +kernel, rfl, by decide +kernel, by decide +kernel⟩
theorem sc_deck : FnScope ["_law_script", "_law_cells", "_law_k", "_law_cell"] ["_law_script"] (defScope s_deck) := ⟨rfl, rfl, rfl, by decide +kernel, rfl, by decide +kernel, by decide +kernel⟩
theorem sc_draw : FnScope ["_law_deck_here", "_law_most", "_law_cell", "_law_number"] ["_law_deck_here", "_law_most"] (defScope s_draw) := ⟨rfl, rfl, rfl, by decide +kernel, rfl, by decide +kernel, by decide +kernel⟩
theorem sc_table : FnScope ["_law_deck_here", "_law_ins", "_law_way", "_law_some", "_law_k"] ["_law_deck_here", "_law_ins"] (defScope s_table) := ⟨rfl, rfl, rfl, by decide +kernel, rfl, by decide +kernel, by decide +kernel⟩
theorem sc_formula : FnScope ["_law_deck_here", "_law_many", "_law_count", "_law_gates", "_law_free", "_law_k", "_law_ins", "_law_place", "_law_way"] ["_law_deck_here", "_law_many", "_law_count"] (defScope s_formula) := ⟨rfl, rfl, rfl, by decide +kernel, rfl, by decide +kernel, by decide +kernel⟩
theorem sc_chain : FnScope ["_law_deck_here", "_law_many", "_law_count", "_law_gates", "_law_k", "_law_ins", "_law_place"] ["_law_deck_here", "_law_many", "_law_count"] (defScope s_chain) := ⟨rfl, rfl, rfl, by decide +kernel, rfl, by decide +kernel, by decide +kernel⟩
theorem sc_shared : FnScope ["_law_deck_here", "_law_many", "_law_count", "_law_gates", "_law_k", "_law_ins", "_law_place", "_law_way"] ["_law_deck_here", "_law_many", "_law_count"] (defScope s_shared) := ⟨rfl, rfl, rfl, by decide +kernel, rfl, by decide +kernel, by decide +kernel⟩
theorem sc_net : FnScope ["_law_deck_here", "_law_way", "_law_many", "_law_count"] ["_law_deck_here", "_law_way", "_law_many", "_law_count"] (defScope s_net) := ⟨rfl, rfl, rfl, by decide +kernel, rfl, by decide +kernel, by decide +kernel⟩
theorem sc_change : FnScope ["_law_deck_here", "_law_many", "_law_way", "_law_one", "_law_other", "_law_at", "_law_k", "_law_worth_here"] ["_law_deck_here", "_law_many"] (defScope s_change) := ⟨rfl, rfl, rfl, by decide +kernel, rfl, by decide +kernel, by decide +kernel⟩
theorem sc_worth : FnScope ["_law_table_here", "_law_worths", "_law_number", "_law_worth_here"] ["_law_table_here", "_law_worths"] (defScope s_worth) := ⟨rfl, rfl, rfl, by decide +kernel, rfl, by decide +kernel, by decide +kernel⟩
theorem sc_may : FnScope ["_law_word_here", "_law_pair", "_law_old", "_law_new", "_law_fro"] ["_law_word_here", "_law_pair"] (defScope s_may) := ⟨rfl, rfl, rfl, by decide +kernel, rfl, by decide +kernel, by decide +kernel⟩
theorem sc_word : FnScope ["_law_table_here", "_law_words_here", "_law_first", "_law_last", "_law_fro", "_law_code", "_law_rest", "_law_pairs", "_law_word_here", "_law_pair", "_law_one", "_law_other"] ["_law_table_here", "_law_words_here"] (defScope s_word) := ⟨rfl, rfl, rfl, by decide +kernel, rfl, by decide +kernel, by decide +kernel⟩
theorem sc_words : FnScope ["_law_net_here", "_law_change_here", "_law_found", "_law_table_here", "_law_ins", "_law_one", "_law_other", "_law_wire"] ["_law_net_here", "_law_change_here"] (defScope s_words) := ⟨rfl, rfl, rfl, by decide +kernel, rfl, by decide +kernel, by decide +kernel⟩
theorem sc_same : FnScope ["_law_found", "_law_due", "_law_one", "_law_other"] ["_law_found", "_law_due"] (defScope s_same) := ⟨rfl, rfl, rfl, by decide +kernel, rfl, by decide +kernel, by decide +kernel⟩
theorem sc_long : FnScope ["_law_deck_here", "_law_many", "_law_gates", "_law_k", "_law_near", "_law_ins", "_law_rows", "_law_table_here", "_law_wire"] ["_law_deck_here", "_law_many"] (defScope s_long) := ⟨rfl, rfl, rfl, by decide +kernel, rfl, by decide +kernel, by decide +kernel⟩
theorem sc_long_right : FnScope ["_law_deck_here", "_law_many", "_law_net_here", "_law_text", "_law_change_here", "_law_found"] ["_law_deck_here"] (defScope s_long_right) := ⟨rfl, rfl, rfl, by decide +kernel, rfl, by decide +kernel, by decide +kernel⟩
theorem sc_law : FnScope ["_law_script", "_law_deck_here", "_law_turn", "_law_way", "_law_count", "_law_many", "_law_net_here", "_law_change_here", "_law_due"] ["_law_script"] (defScope s_law) := ⟨rfl, rfl, rfl, by decide +kernel, rfl, by decide +kernel, by decide +kernel⟩
structure Tx (K : PySem.W.Frag) (mg : Str → Option Value) where
  f_is_whole : Addr
  fd_is_whole : FuncData
  F_is_whole : Fun K "is_whole" "is_whole" s_is_whole f_is_whole fd_is_whole
  g_is_whole : mg "is_whole" = some (.ref f_is_whole)
  b_is_whole : Binds K fd_is_whole ["thing"] []
  f_is_signs : Addr
  fd_is_signs : FuncData
  F_is_signs : Fun K "is_signs" "is_signs" s_is_signs f_is_signs fd_is_signs
  g_is_signs : mg "is_signs" = some (.ref f_is_signs)
  b_is_signs : Binds K fd_is_signs ["many", "thing"] []
  c_is_signs : Addr
  P_is_signs : Addr
  cd_is_signs : fd_is_signs.code = .ref c_is_signs
  f_is_net : Addr
  fd_is_net : FuncData
  F_is_net : Fun K "is_net" "is_net" s_is_net f_is_net fd_is_net
  g_is_net : mg "is_net" = some (.ref f_is_net)
  b_is_net : Binds K fd_is_net ["thing"] []
  c_is_net : Addr
  P_is_net : Addr
  cd_is_net : fd_is_net.code = .ref c_is_net
  f_is_gate : Addr
  fd_is_gate : FuncData
  F_is_gate : Fun K "is_gate" "is_gate" s_is_gate f_is_gate fd_is_gate
  g_is_gate : mg "is_gate" = some (.ref f_is_gate)
  b_is_gate : Binds K fd_is_gate ["wires", "thing"] []
  c_is_gate : Addr
  P_is_gate : Addr
  cd_is_gate : fd_is_gate.code = .ref c_is_gate
  f_choices_of : Addr
  fd_choices_of : FuncData
  F_choices_of : Fun K "choices_of" "choices_of" s_choices_of f_choices_of fd_choices_of
  g_choices_of : mg "choices_of" = some (.ref f_choices_of)
  b_choices_of : Binds K fd_choices_of ["lists"] []
  f_table_worth : Addr
  fd_table_worth : FuncData
  F_table_worth : Fun K "table_worth" "table_worth" s_table_worth f_table_worth fd_table_worth
  g_table_worth : mg "table_worth" = some (.ref f_table_worth)
  b_table_worth : Binds K fd_table_worth ["table", "worths"] []
  f_pairs_of : Addr
  fd_pairs_of : FuncData
  F_pairs_of : Fun K "pairs_of" "pairs_of" s_pairs_of f_pairs_of fd_pairs_of
  g_pairs_of : mg "pairs_of" = some (.ref f_pairs_of)
  b_pairs_of : Binds K fd_pairs_of ["word"] []
  f_gate_word : Addr
  fd_gate_word : FuncData
  F_gate_word : Fun K "gate_word" "gate_word" s_gate_word f_gate_word fd_gate_word
  g_gate_word : mg "gate_word" = some (.ref f_gate_word)
  b_gate_word : Binds K fd_gate_word ["table", "words"] []
  f_goes_fro : Addr
  fd_goes_fro : FuncData
  F_goes_fro : Fun K "goes_fro" "goes_fro" s_goes_fro f_goes_fro fd_goes_fro
  g_goes_fro : mg "goes_fro" = some (.ref f_goes_fro)
  b_goes_fro : Binds K fd_goes_fro ["table", "words", "first", "last"] []
  f_pair_by : Addr
  fd_pair_by : FuncData
  F_pair_by : Fun K "pair_by" "pair_by" s_pair_by f_pair_by fd_pair_by
  g_pair_by : mg "pair_by" = some (.ref f_pair_by)
  b_pair_by : Binds K fd_pair_by ["table", "pairs"] []
  f_words_of : Addr
  fd_words_of : FuncData
  F_words_of : Fun K "words_of" "words_of" s_words_of f_words_of fd_words_of
  g_words_of : mg "words_of" = some (.ref f_words_of)
  b_words_of : Binds K fd_words_of ["net", "change"] []
  c_words_of : Addr
  P_words_of : Addr
  cd_words_of : fd_words_of.code = .ref c_words_of
  f_read_net : Addr
  fd_read_net : FuncData
  F_read_net : Fun K "read_net" "read_net" s_read_net f_read_net fd_read_net
  g_read_net : mg "read_net" = some (.ref f_read_net)
  b_read_net : Binds K fd_read_net ["text"] []
  f_read_head : Addr
  fd_read_head : FuncData
  F_read_head : Fun K "read_head" "read_head" s_read_head f_read_head fd_read_head
  g_read_head : mg "read_head" = some (.ref f_read_head)
  b_read_head : Binds K fd_read_head ["line"] []
  f_read_gate : Addr
  fd_read_gate : FuncData
  F_read_gate : Fun K "read_gate" "read_gate" s_read_gate f_read_gate fd_read_gate
  g_read_gate : mg "read_gate" = some (.ref f_read_gate)
  b_read_gate : Binds K fd_read_gate ["line"] []
  f_read_number : Addr
  fd_read_number : FuncData
  F_read_number : Fun K "read_number" "read_number" s_read_number f_read_number fd_read_number
  g_read_number : mg "read_number" = some (.ref f_read_number)
  b_read_number : Binds K fd_read_number ["word"] []
  c_read_number : Addr
  P_read_number : Addr
  cd_read_number : fd_read_number.code = .ref c_read_number
  f_deck : Addr
  fd_deck : FuncData
  F_deck : Fun K "_law_deck" "_law_deck" s_deck f_deck fd_deck
  g_deck : mg "_law_deck" = some (.ref f_deck)
  b_deck : Binds K fd_deck ["_law_script"] []
  f_draw : Addr
  fd_draw : FuncData
  F_draw : Fun K "_law_draw" "_law_draw" s_draw f_draw fd_draw
  g_draw : mg "_law_draw" = some (.ref f_draw)
  b_draw : Binds K fd_draw ["_law_deck_here", "_law_most"] []
  f_table : Addr
  fd_table : FuncData
  F_table : Fun K "_law_table" "_law_table" s_table f_table fd_table
  g_table : mg "_law_table" = some (.ref f_table)
  b_table : Binds K fd_table ["_law_deck_here", "_law_ins"] []
  f_formula : Addr
  fd_formula : FuncData
  F_formula : Fun K "_law_formula" "_law_formula" s_formula f_formula fd_formula
  g_formula : mg "_law_formula" = some (.ref f_formula)
  b_formula : Binds K fd_formula ["_law_deck_here", "_law_many", "_law_count"] []
  f_chain : Addr
  fd_chain : FuncData
  F_chain : Fun K "_law_chain" "_law_chain" s_chain f_chain fd_chain
  g_chain : mg "_law_chain" = some (.ref f_chain)
  b_chain : Binds K fd_chain ["_law_deck_here", "_law_many", "_law_count"] []
  f_shared : Addr
  fd_shared : FuncData
  F_shared : Fun K "_law_shared" "_law_shared" s_shared f_shared fd_shared
  g_shared : mg "_law_shared" = some (.ref f_shared)
  b_shared : Binds K fd_shared ["_law_deck_here", "_law_many", "_law_count"] []
  f_net : Addr
  fd_net : FuncData
  F_net : Fun K "_law_net" "_law_net" s_net f_net fd_net
  g_net : mg "_law_net" = some (.ref f_net)
  b_net : Binds K fd_net ["_law_deck_here", "_law_way", "_law_many", "_law_count"] []
  f_change : Addr
  fd_change : FuncData
  F_change : Fun K "_law_change" "_law_change" s_change f_change fd_change
  g_change : mg "_law_change" = some (.ref f_change)
  b_change : Binds K fd_change ["_law_deck_here", "_law_many"] []
  f_worth : Addr
  fd_worth : FuncData
  F_worth : Fun K "_law_worth" "_law_worth" s_worth f_worth fd_worth
  g_worth : mg "_law_worth" = some (.ref f_worth)
  b_worth : Binds K fd_worth ["_law_table_here", "_law_worths"] []
  f_may : Addr
  fd_may : FuncData
  F_may : Fun K "_law_may" "_law_may" s_may f_may fd_may
  g_may : mg "_law_may" = some (.ref f_may)
  b_may : Binds K fd_may ["_law_word_here", "_law_pair"] []
  f_word : Addr
  fd_word : FuncData
  F_word : Fun K "_law_word" "_law_word" s_word f_word fd_word
  g_word : mg "_law_word" = some (.ref f_word)
  b_word : Binds K fd_word ["_law_table_here", "_law_words_here"] []
  f_words : Addr
  fd_words : FuncData
  F_words : Fun K "_law_words" "_law_words" s_words f_words fd_words
  g_words : mg "_law_words" = some (.ref f_words)
  b_words : Binds K fd_words ["_law_net_here", "_law_change_here"] []
  f_same : Addr
  fd_same : FuncData
  F_same : Fun K "_law_same" "_law_same" s_same f_same fd_same
  g_same : mg "_law_same" = some (.ref f_same)
  b_same : Binds K fd_same ["_law_found", "_law_due"] []
  f_long : Addr
  fd_long : FuncData
  F_long : Fun K "_law_long" "_law_long" s_long f_long fd_long
  g_long : mg "_law_long" = some (.ref f_long)
  b_long : Binds K fd_long ["_law_deck_here", "_law_many"] []
  f_long_right : Addr
  fd_long_right : FuncData
  F_long_right : Fun K "_law_long_right" "_law_long_right" s_long_right f_long_right fd_long_right
  g_long_right : mg "_law_long_right" = some (.ref f_long_right)
  b_long_right : Binds K fd_long_right ["_law_deck_here"] []
  f_law : Addr
  fd_law : FuncData
  F_law : Fun K "law" "law" s_law f_law fd_law
  g_law : mg "law" = some (.ref f_law)
  b_law : Binds K fd_law ["_law_script"] []
  m_all : mg "all" = none
  m_bool : mg "bool" = none
  m_enumerate : mg "enumerate" = none
  m_int : mg "int" = none
  m_isinstance : mg "isinstance" = none
  m_len : mg "len" = none
  m_list : mg "list" = none
  m_max : mg "max" = none
  m_range : mg "range" = none
  m_set : mg "set" = none
  m_sorted : mg "sorted" = none
  m_str : mg "str" = none
  m_sum : mg "sum" = none
  m_tuple : mg "tuple" = none
  m_zip : mg "zip" = none
  k_MOST_INPUTS : ∃ t, mg "MOST_INPUTS" = some (.int 6 t)
  k_MOST_INS : ∃ t, mg "MOST_INS" = some (.int 3 t)
  k_MOST_FIGURES : ∃ t, mg "MOST_FIGURES" = some (.int 40 t)
structure Tb (base : Heap) {K : PySem.W.Frag} {mg : Str → Option Value} (T : Tx K mg) : Prop where
  TB_is_signs : GxR.TabB base mg T.c_is_signs T.P_is_signs
  TB_is_net : GxR.TabB base mg T.c_is_net T.P_is_net
  TB_is_gate : GxR.TabB base mg T.c_is_gate T.P_is_gate
  TB_words_of : GxR.TabB base mg T.c_words_of T.P_words_of
  TB_read_number : GxR.TabB base mg T.c_read_number T.P_read_number
def Tx.tabs {K : PySem.W.Frag} {mg : Str → Option Value} (T : Tx K mg) : List Addr := [T.P_is_signs, T.P_is_net, T.P_is_gate, T.P_words_of, T.P_read_number]
/-! ### generator expressions whose elements may call -/
theorem inv_moved {X : Cx} {cp : List (Addr × Obj)} {σ : L2.St} {H : Hp} {s s' : Shared} (I : Inv X cp σ H s) (os : s'.os = s.os) (bare : AllBare s'.gens) (k : ∀ b o, s.heap.get? b = some o → s'.heap.get? b = some o) : Inv X cp σ H s' :=
  I.call' (ch := []) os (Un.kept k) (I.hok.kept k) bare fun b hb => absurd hb (by simp)
/-- the context of a generator expression's frame: C its frame, s, H the entry, fp its iterator's objects -/
abbrev gblk (X : Cx) (A : Around) (s : Shared) (H : Hp) (cenv : Env) (fp : List Addr) : Cx :=
  { X with A := A, s_0 := s, H_0 := H, env := cenv, outer := X.stack, stack := cenv :: X.stack, ex := fp, fn := fun _ => false, pn := [], xe := fun _ _ => False }
section
variable {X : Cx} {pins : List (Addr × Obj)} {σ : L2.St} {H : Hp} {s : Shared}
theorem gen_start {scope : Scope} {own : List (Str × Nat)} {fp : List Addr} {A : Around} {code it : Value} {s5 : Shared} {cp : List (Addr × Obj)}
    (I : Inv X pins σ H s) (ok : BlkOk X.N X.env.scope scope own) (nocell : ∀ y ∈ scope.names, y.2 ≠ .cell) (hN : X.N.Nodup) (hfp : ∀ b ∈ fp, FpOk X pins H b ∧ b < s.heap.objs.size)
    (hh : A.handled = none) (hfr : A.frames = some (genEnv scope (cloFrom X.env.cells scope.names []) s.heap.objs.size code builtinsNs X.env :: X.stack))
    (os : s5.os = s.os) (bare : AllBare s5.gens) (kp : ∀ b o, s.heap.get? b = some o → s5.heap.get? b = some o)
    (hns : s5.heap.Ns s.heap.objs.size fun y => if y = ".0" then some it else none)
    (hcp : ∀ p ∈ cp, s.heap.objs.size < p.1 ∧ s5.heap.get? p.1 = some p.2 ∧ ∀ v, p.2.data ≠ .cell v) :
    Inv (gblk X A s H (genEnv scope (cloFrom X.env.cells scope.names []) s.heap.objs.size code builtinsNs X.env) fp) cp (wipe σ (own.map (·.2))) H s5 := by
  have hfree : ∀ y ∈ scope.names, y.2 = .free → ∃ c, X.env.cells.lookup y.1 = some c := fun y hy e => by
    rcases ok.free y hy e with k | k
    · exact I.ok.has _ (.inl k)
    · exact I.ok.has _ (.inr k)
  generalize hcenv : genEnv scope (cloFrom X.env.cells scope.names []) s.heap.objs.size code builtinsNs X.env = cenv at hfr ⊢
  have hL : cenv.locals = s.heap.objs.size := by rw [← hcenv]; rfl
  have hcl : cenv.cells = cloFrom X.env.cells scope.names [] := by rw [← hcenv]; rfl
  have hsc : cenv.scope = scope := by rw [← hcenv]; rfl
  have cm : ∀ {y c}, (y, c) ∈ cloFrom X.env.cells scope.names [] → X.env.cells.lookup y = some c ∧ c < s.heap.objs.size := fun {y c} hm => by
    rcases cloFrom_mem hm with hm | ⟨h1, rfl⟩
    · cases hm
    · obtain ⟨c, hc⟩ := hfree _ h1 rfl
      rw [hc]
      obtain ⟨w, z⟩ := I.cell _ _ hc
      exact ⟨rfl, z.lt⟩
  have mem : ∀ {y c}, cenv.cells.lookup y = some c → X.env.cells.lookup y = some c ∧ c < s.heap.objs.size := fun {y c} e => by
    rw [hcl] at e
    exact cm (PySem.mem_of_lookup e)
  have look : ∀ {y}, scope.names.lookup y = some .free → ∃ c, cenv.cells.lookup y = some c ∧ X.env.cells.lookup y = some c := fun {y} hl => by
    have hy : (y, NameKind.free) ∈ scope.names := PySem.mem_of_lookup hl
    obtain ⟨c', e'⟩ := mem_lookup (cloFrom_has (cells := X.env.cells) (acc := []) hy)
    rw [← hcl] at e'
    exact ⟨c', e', (mem e').1⟩
  have okB : (gblk X A s H cenv fp).Ok := by
    refine ⟨I.ok.mod, by show cenv.scope.kind = _; rw [hsc]; exact ok.kind, by show cenv.globals = _; rw [← hcenv]; exact I.ok.glob, by show cenv.builtins = _; rw [← hcenv]; rfl, by show s.heap.objs.size ≤ cenv.locals; rw [hL]; exact Nat.le_refl _,
      fun y z c e1 e2 => I.ok.inj y z c (mem e1).1 (mem e2).1, fun y hy => ?_, fun y c z e => (by cases z), fun _ => hh, hfr, .inr ⟨rfl, by show cenv.frame = some cenv.locals; rw [← hcenv]; rfl⟩, fun b hb => ⟨?_, fun y c e z => ?_⟩, I.bs, Nat.le_trans I.ok.bsz I.sz, fun b o e hb => ?_, fun b hb z => ?_, I.stack, I.stkFree⟩
    · have hy' : scope.names.lookup y = some .cell ∨ scope.names.lookup y = some .free := by
        rw [← hsc]
        exact hy
      rcases hy' with e | e
      · exact absurd rfl (nocell _ (PySem.mem_of_lookup e))
      · obtain ⟨c, h1, _⟩ := look e
        exact ⟨c, h1⟩
    · show b ≠ cenv.locals
      rw [hL]; exact Nat.ne_of_lt (hfp b hb).2
    · exact (hfp b hb).1.2.2.2.2.1 y c (mem e).1 z
    · rcases (hfp b hb).1.2.2.2.1 with z | z
      · exact I.ok.noex b o e z
      · exact absurd (Nat.lt_of_lt_of_le (Heap.lt_size e) (Nat.le_trans I.ok.bsz z)) (Nat.lt_irrefl _)
    · rcases List.mem_cons.mp (I.stkSub b z) with z | z
      · exact (hfp b hb).1.2.1 z
      · exact (hfp b hb).1.2.2.1 z
  refine ⟨okB, os, bare, Un.kept kp, ⟨_, (by show s5.heap.Ns cenv.locals _; rw [hL]; exact hns), fun i y av e1 e2 e3 => ?_⟩, fun y c e => ?_, ?_, fun y c e => I.freeC y c (mem e).1, fun p hp => ?_, I.hok.kept kp, by rw [wipe_length]; exact I.len⟩
  · obtain ⟨e2, hne⟩ := wipe_some e2
    have e3 : Vis scope y := by rw [← hsc]; exact e3
    have no : ∀ k, scope.names.lookup y = some k → ¬ (k = .local ∨ k = .cell) := fun k e hh => by
      rcases ok.own _ (PySem.mem_of_lookup e) hh with e' | e'
      · obtain ⟨p, hp, hpy⟩ := List.mem_map.mp e'
        have e3 := ok.ix p hp
        have : p.1 = y := hpy
        rw [this] at e3
        exact hne (List.mem_map.mpr ⟨p, hp, nodup_ix hN e3 e1⟩)
      · exact e' (List.mem_of_getElem? e1)
    have hfr2 : scope.names.lookup y = some .free := by
      rcases e3 with e | e | e
      · exact absurd (.inl rfl) (no _ e)
      · exact absurd (.inr rfl) (no _ e)
      · exact e
    obtain ⟨m, hn, hl⟩ := I.loc
    have hvis : Vis X.env.scope y := (ok.free _ (PySem.mem_of_lookup hfr2) rfl).elim (fun k => .inr (.inl k)) (fun k => .inr (.inr k))
    obtain ⟨w, r, q⟩ := hl i y av e1 e2 hvis
    refine ⟨w, r, .inr ⟨.inr (by show cenv.scope.names.lookup y = some .free; rw [hsc]; exact hfr2), ?_⟩⟩
    obtain ⟨c, h1, h2⟩ := look hfr2
    rcases q with ⟨k, _⟩ | ⟨_, c', e', z⟩
    · have k : X.env.scope.names.lookup y = some .local := k
      rcases ok.free _ (PySem.mem_of_lookup hfr2) rfl with k' | k' <;> rw [show X.env.scope.names.lookup y = _ from k'] at k <;> cases k
    · rw [h2] at e'; cases e'
      exact ⟨c, h1, z.keeps kp⟩
  · obtain ⟨w, z⟩ := I.cell y c (mem e).1
    exact ⟨w, z.keeps kp⟩
  · show H cenv.locals = none
    rw [hL]; exact I.hok.fresh (Nat.le_refl _)
  · have hp : p ∈ cp := by simpa using hp
    obtain ⟨h1, h2, h3⟩ := hcp p hp
    refine ⟨h2, I.hok.fresh (Nat.le_of_lt h1), by show p.1 ≠ cenv.locals; rw [hL]; exact Nat.ne_of_gt h1, fun z => ?_, h3⟩
    rcases List.mem_cons.mp (I.stkSub _ z) with z | z
    · exact absurd (Nat.lt_trans I.lt h1) (by rw [z]; exact Nat.lt_irrefl _)
    · exact I.nofs (Nat.le_of_lt h1) z
end
/-! ### the talk of a generator and who asks it -/
section
variable {α : Type}
/-- handed out: x; the asker's state a (laid down in the pins cp) goes to one with Nx -/
def YG (Xg : Cx) (fp : List Addr) (tn : Nat → Heap → Prop) (AC : α → List (Addr × Obj) → Prop) (Yd : α → V → Hp → (α → Hp → Prop) → Prop) : Protocol := fun _ _ v s kap =>
  ∃ (a : α) (x : V) (σ : L2.St) (H : Hp) (i : Nat) (cp : List (Addr × Obj)) (Nx : α → Hp → Prop), RelV x v ∧ AC a cp ∧ Inv Xg cp σ H s ∧ tn i s.heap ∧ (∀ b ∈ fp, H b = none) ∧ Yd a x H Nx ∧
    ∀ a' cp' s', Nx a' H → AC a' cp' → Inv Xg cp' σ H s' → tn i s'.heap → kap (.send .none) s'
def RG (Xg : Cx) (AC : α → List (Addr × Obj) → Prop) (End : α → Hp → Prop) : GenEnd := fun _ _ r s =>
  ((r = .ok (.ret .none) ∨ r = .ok .next) ∧ ∃ (a : α) (σ : L2.St) (H : Hp) (cp : List (Addr × Obj)), AC a cp ∧ Inv Xg cp σ H s ∧ End a H) ∨ ∃ e, r = .error e ∧ False
/-- a generator's turns -/
def tGx (J : It) (g : TG) (tt : TT) (te : TE) (σ0 : L2.St) (vs : List Nat) (End : α → Hp → Prop) (Yd : α → V → Hp → (α → Hp → Prop) → Prop) (W : Nat → Nat → α → Hp → Prop) : Prop :=
  ∀ i m a H, W i m a H → (J.stop i H ∧ End a H) ∨ (J.go i H ∧ ∃ Nx : α → Hp → Prop, (∀ a' H', Nx a' H' → ∃ m', m' < m ∧ W (i + 1) m' a' H') ∧
    ∀ x H', J.yld i H x H' → g x σ0 H' fun σ2 H2 => wipe σ2 vs = σ0 ∧ tt σ2 H2 fun b H3 => if b = true then te σ2 H3 fun y H4 => Yd a y H4 Nx else Nx a H3)
theorem wipe_wipe_some {σ σ2 : L2.St} {vs : List Nat} (h : wipe σ2 vs = σ) : ∀ (j : Nat) v, σ[j]? = some (some v) → σ2[j]? = some (some v) := fun j v e => by
  rw [← h] at e
  exact (wipe_some e).1
theorem seg_gx {X : Cx} {A A' : Around} {s_0 : Shared} {H_0 : Hp} {elt tg iter : Expr} {ifs : List Expr} {scope : Scope} {pos : Pos} {it : Addr} {fp : List Addr} {tn : Nat → Heap → Prop} {J : It} {cenv : Env} {g : TG} {tt : TT} {te : TE} {σ0 : L2.St} {vs : List Nat}
    {AC : α → List (Addr × Obj) → Prop} {End : α → Hp → Prop} {Yd : α → V → Hp → (α → Hp → Prop) → Prop} {W : Nat → Nat → α → Hp → Prop}
    (hA : A.over (.compLoop (.GeneratorExp elt [⟨tg, iter, ifs, 0⟩] scope pos) 0 (.ref it) .none cenv) [] = A') (hc : X.calm = true) (hco : cenv.scope.isCoroutine = false)
    (T : Turn X.prog X.w X.K tg J fp it tn) (pg : PG (gblk X A' s_0 H_0 cenv fp) tg g) (pt : PTs (gblk X A' s_0 H_0 cenv fp) ifs tt) (pe : PE (gblk X A' s_0 H_0 cenv fp) elt te)
    (hAC : ∀ a cp, AC a cp → ∀ p ∈ cp, ∀ b ∈ fp, p.1 ≠ b) (turn : tGx J g tt te σ0 vs End Yd W) :
    ∀ (m n i : Nat) (a : α) (H : Hp) (s₀ s : Shared) (cp : List (Addr × Obj)), m < n → W i m a H → AC a cp → Inv (gblk X A' s_0 H_0 cenv fp) cp σ0 H s → tn i s.heap → (∀ b ∈ fp, H b = none) →
      Seg (model X.prog X.w) A (RG (gblk X A' s_0 H_0 cenv fp) AC End) (YG (gblk X A' s_0 H_0 cenv fp) fp tn AC Yd) n s₀
        (.compLoop (.GeneratorExp elt [⟨tg, iter, ifs, 0⟩] scope pos) 0 (.ref it) .none cenv)
        ((model X.prog X.w).den (.compLoop (.GeneratorExp elt [⟨tg, iter, ifs, 0⟩] scope pos) 0 (.ref it) .none cenv)) [] s := by
  have stat : ∀ {a : α} {cp : List (Addr × Obj)} {σ' : L2.St} {H' : Hp} {s' : Shared}, AC a cp → Inv (gblk X A' s_0 H_0 cenv fp) cp σ' H' s' → (∀ b ∈ fp, H' b = none) → ∀ b ∈ fp, FpOk (gblk X A' s_0 H_0 cenv fp) cp H' b := fun {a cp σ' H' s'} hac I' hn b hb =>
    ⟨hn b hb, (I'.ok.exf b hb).1, I'.ok.exfs b hb, .inl hb, fun x c e => (I'.ok.exf b hb).2 x c e, fun p hp => hAC a cp hac p (by simpa using hp) b hb⟩
  intro m
  induction m using Nat.strongRecOn with
  | ind m ih =>
    intro n i a H s₀ s cp hmn w hac I st nf
    show Seg _ A _ _ _ s₀ _ ((compTurn (.GeneratorExp elt [⟨tg, iter, ifs, 0⟩] scope pos) 0 (.ref it) .none cenv).onRaise (leaving cenv)) [] s
    rw [compTurn_gen, Sem.onRaise_eq_wrap]
    refine seg_bind_wrap (wpAny_standAt ?_)
    rcases turn i m a H w with ⟨stop, hend⟩ | ⟨go, Nx, hNx, step⟩
    · refine seg_bind_wrap ?_
      rw [hA]
      refine thnF (T.done (gblk X A' s_0 H_0 cenv fp) rfl rfl rfl hc i cp s σ0 H (fun _ _ => False) I (stat hac I nf) st stop) fun r s1 ⟨hr, I1⟩ => ?_
      subst hr
      exact seg_end (.ok .next) (.inl ⟨.inr rfl, a, _, H, cp, hac, I1, hend⟩)
    · refine seg_bind_wrap ?_
      rw [hA]
      refine thnF (T.item (gblk X A' s_0 H_0 cenv fp) rfl rfl rfl hc i cp s σ0 H (fun _ _ => False) I (stat hac I nf) st go) fun r s1 ⟨u, hr, h1⟩ => ?_
      subst hr
      refine seg_bind_wrap ?_
      rw [hA]
      refine thnF h1 fun _ s2 ⟨x, H2, I2, r2, y2, st2, n2⟩ => ?_
      have I2' := I2.pinned (stat hac I2 n2) (T.obj _ _ st2)
      refine seg_bind_wrap ?_
      rw [hA]
      refine thnF (pg.run _ s2 _ H2 x u _ I2' r2 (step x H2 y2)) fun _ s3 ⟨σ3, H3, I3, hw3, q3⟩ => ?_
      refine seg_bind_wrap ?_
      rw [hA]
      refine thnF (pt.run _ s3 σ3 H3 _ I3 q3) fun b s4 ⟨H4, I4, q4⟩ => ?_
      have hl : σ0.length = σ3.length := by rw [← hw3, wipe_length]
      have fin : ∀ {s' : Shared} {H' : Hp}, Inv (gblk X A' s_0 H_0 cenv fp) (cp ++ pinsAt fp s2.heap) σ3 H' s' → Inv (gblk X A' s_0 H_0 cenv fp) cp σ0 H' s' ∧ tn (i + 1) s'.heap ∧ ∀ b ∈ fp, H' b = none := fun {s' H'} I' => by
        have pin' : ∀ b ∈ fp, ∀ o, s2.heap.get? b = some o → s'.heap.get? b = some o ∧ H' b = none := fun b hb o e =>
          let z := I'.pin (b, o) (List.mem_append_right _ (List.mem_append_right _ (mem_pinsAt hb e)))
          ⟨z.1, z.2.1⟩
        refine ⟨(I'.unpinned (pins := cp)).weak hl (wipe_wipe_some hw3), T.keep _ _ _ st2 fun b hb o e => (pin' b hb o e).1, fun b hb => ?_⟩
        obtain ⟨o, e, _⟩ := T.obj _ _ st2 b hb
        exact (pin' b hb o e).2
      cases b with
      | false =>
        simp only [Bool.false_eq_true, if_false] at q4 ⊢
        obtain ⟨m', hm, w'⟩ := hNx a H4 q4
        obtain ⟨J1, J2, J3⟩ := fin I4
        exact seg_again rfl (ih m' hm n (i + 1) a H4 s₀ s4 cp (by omega) w' hac J1 J2 J3)
      | true =>
        simp only [if_true] at q4 ⊢
        have hy : ∀ v, yieldOut cenv v = yieldValue v := fun v => by simp only [yieldOut, hco, Bool.false_eq_true, if_false]
        simp only [hy]
        rw [Sem.bind_eq_wrap', Sem.bind_eq_wrap', Sem.wrap_wrap, Sem.wrap_wrap]
        refine seg_wrap ?_
        rw [hA]
        refine thnF (pe.run _ s4 σ3 H4 _ I4 q4) fun yv s5 ⟨y, H5, I5, r5, q5⟩ => ?_
        obtain ⟨J1, J2, J3⟩ := fin I5
        -- at least one more
        cases n with
        | zero => exact absurd hmn (Nat.not_lt_zero _)
        | succ n =>
          refine seg_at (seg_yield rfl rfl rfl ⟨a, y, σ0, H5, i + 1, cp, Nx, r5, hac, J1, J2, J3, q5, fun a' cp' s' nx hac' I' st' => ?_⟩)
          obtain ⟨m', hm, w'⟩ := hNx a' H5 nx
          exact seg_again rfl (ih m' hm n (i + 1) a' H5 s' s' cp' (by omega) w' hac' I' st' J3)
end
/-! ### a generator that is made -/
section
variable {X : Cx} {pins : List (Addr × Obj)} {σ : L2.St} {H : Hp} {s : Shared}
def GenObj (o : Obj) (g : Nat) : Prop := ∃ nm qn, o.cls = .type "generator" ∧ o.data = .fields #[.int g 0, nm, qn] ∧ o.slots = #[]
theorem GenObj.isGen {o : Obj} {g : Nat} (h : GenObj o g) {a : Addr} {hp : Heap} (e : hp.get? a = some o) : hp.IsGen a g := by
  obtain ⟨nm, qn, h1, h2, h3⟩ := h
  exact ⟨o, nm, qn, e, h1, h2, h3⟩
/-- the generator u, made and not begun, in the state s5 -/
def Gx (X : Cx) (pins : List (Addr × Obj)) (σ : L2.St) (A : Around) (J : It) (g : TG) (tt : TT) (te : TE) (vs : List Nat) (H4 : Hp) (u : Value) (s5 : Shared) : Prop :=
  ∃ (A' : Around) (s_0 : Shared) (H_0 : Hp) (cenv : Env) (fp : List Addr) (ga : Addr) (gn : Nat) (go : Obj) (tn : Nat → Heap → Prop) (gs : GenState),
    u = .ref ga ∧ GenObj go gn ∧ s5.gens[gn]? = some gs ∧ gs.bare = true ∧ Inv (gblk X A' s_0 H_0 cenv fp) [(ga, go)] (wipe σ vs) H4 s5 ∧ tn 0 s5.heap ∧ (∀ b ∈ fp, H4 b = none) ∧ (∀ b ∈ fp, b < ga) ∧
    (∀ i h h', tn i h → (∀ b ∈ fp, ∀ o, h.get? b = some o → h'.get? b = some o) → tn i h') ∧ (∀ cp σ' H' s', Inv (gblk X A' s_0 H_0 cenv fp) cp σ' H' s' → Inv X pins σ H' s') ∧
    ∀ (α : Type) (AC : α → List (Addr × Obj) → Prop) (End : α → Hp → Prop) (Yd : α → V → Hp → (α → Hp → Prop) → Prop) (W : Nat → Nat → α → Hp → Prop) (m n : Nat) (a : α) (cp : List (Addr × Obj)) (s' : Shared),
      tGx J g tt te (wipe σ vs) vs End Yd W → W 0 m a H4 → m < n → (∀ a cp, AC a cp → ∀ p ∈ cp, ∀ b ∈ fp, p.1 ≠ b) → AC a cp → Inv (gblk X A' s_0 H_0 cenv fp) cp (wipe σ vs) H4 s' → tn 0 s'.heap →
      gs.Goes (model X.prog X.w) A (RG (gblk X A' s_0 H_0 cenv fp) AC End) (YG (gblk X A' s_0 H_0 cenv fp) fp tn AC Yd) n (.send .none) s'
/-- what stands about an asker -/
structure Near (A B : Around) : Prop where
  hd : B.handled = A.handled
  fr : B.frames = A.frames
  gd : B.guards = A.guards
  dp : B.depth = A.depth
  un : B.units ≤ A.units + 8
theorem gx_make {c P : Addr} {elt tg iter : Expr} {ifs : List Expr} {gpos : Pos} {scope : Scope} {own : List (Str × Nat)} {wi : TI} {g : TG} {tt : TT} {te : TE} {k : Nat} {Q' : Value → Shared → Prop} {R : It → Hp → Prop} {A : Around}
    (hr : Room (k + 1) X.A) (near : Near X.A A) (hc : X.calm = true) (hN : X.N.Nodup) (TB : GxR.TabB X.base X.mg c P) (hcode : X.env.code = .ref c) (hco : scope.isCoroutine = false) (hdot : scope.names.lookup (".0" : Str) = some NameKind.local)
    (nocell : ∀ y ∈ scope.names, y.2 ≠ .cell) (ok : BlkOk X.N X.env.scope scope own) (hi : PI X tg iter wi)
    (hg : ∀ (A' : Around) (s : Shared) (H : Hp) (C : Addr) (cl : List (Str × Addr)) (code : Value) (fp : List Addr), Room k A' → A'.guards = X.A.guards → PG (gblk X A' s H (genEnv scope cl C code builtinsNs X.env) fp) tg g)
    (ht : ∀ (A' : Around) (s : Shared) (H : Hp) (C : Addr) (cl : List (Str × Addr)) (code : Value) (fp : List Addr), Room k A' → A'.guards = X.A.guards → PTs (gblk X A' s H (genEnv scope cl C code builtinsNs X.env) fp) ifs tt)
    (he : ∀ (A' : Around) (s : Shared) (H : Hp) (C : Addr) (cl : List (Str × Addr)) (code : Value) (fp : List Addr), Room k A' → A'.guards = X.A.guards → PE (gblk X A' s H (genEnv scope cl C code builtinsNs X.env) fp) elt te)
    (hs : ∀ v, genFold iter X.env v = pure v) (I : Inv X pins σ H s) (h : wi σ H fun J H1 => GxR.TabG H1 P ∧ R J H1)
    (hQ : ∀ J H1 H2 u s5, R J H1 → GxR.Tabbed P H1 H2 → Gx X pins σ A J g tt te (own.map (·.2)) H2 u s5 → Q' u s5) :
    wpAny (model X.prog X.w) X.A (eval (.GeneratorExp elt [⟨tg, iter, ifs, 0⟩] scope gpos) X.env) Q' X.xe s := by
  have hfree : ∀ y ∈ scope.names, y.2 = .free → ∃ c, X.env.cells.lookup y.1 = some c := fun y hy e => by
    rcases ok.free y hy e with k | k
    · exact I.ok.has _ (.inl k)
    · exact I.ok.has _ (.inr k)
  refine wpAny_GeneratorExp_make hco (closure_ok hfree) nocell hdot ok.kind (by have := hr.dp; omega) ?_ hs
  refine thn (hi.run pins s σ H _ I h) fun xv s1 hx => thn hx fun itv s2 h2 => ?_
  obtain ⟨it, fp, tn, J, H2, rfl, I2, T, st2, f2, ⟨ps, hP, ht3⟩, q⟩ := h2
  refine ⟨I2.nolimit, ?_⟩
  have hPs : s2.heap.get? P = some { cls := .none, data := .fields ps } := I2.hok P _ hP
  have cd : PySem.W.CodeHd s2.heap c P := TB.code.keeps fun b u e => I2.bk b u e
  have nP : ∀ b, H2 b = none → b ≠ P := fun b e z => by
    rw [z, hP] at e
    cases e
  have cont : ∀ (code : Value) (h3 : Heap) (tk : Nat) (ps' : Array Value), Heap.ExtBut P s2.heap h3 → s2.heap.objs.size ≤ h3.objs.size → h3.get? P = some { cls := .none, data := .fields ps' } → (∃ more, ps' = ps ++ more) → TriplesOk ps'.toList →
      wpAny (model X.prog X.w) X.A (builtinsFor X.env.globals X.env.builtins) (fun bi s₄ =>
        ∀ h', h'.Ns s₄.heap.objs.size (fun y => if y = ".0" then some (Value.ref it) else none) → Heap.SameBut s₄.heap.objs.size (s₄.heap.push { cls := .type "frame", data := .dict #[] }) h' →
          Q' (.ref h'.objs.size) { s₄ with
            gens := s₄.gens.push (.fresh (.compStart (.GeneratorExp elt [⟨tg, iter, ifs, 0⟩] scope gpos) 0 (.ref it) .none (genEnv scope (cloFrom X.env.cells scope.names []) s₄.heap.objs.size code bi X.env))),
            toks := s₄.toks + 1 + 1 + 1,
            heap := h'.push { cls := .type "generator", data := .fields #[.int s₄.gens.size 0, .str "<genexpr>" (s₄.toks + 1), .str (X.env.qual ++ "<genexpr>") (s₄.toks + 1 + 1)] } }) X.xe { s2 with heap := h3, toks := tk } := by
    rintro code h3 tk ps' hx hsz hP3 ⟨more, rfl⟩ ht4
    obtain ⟨bm, ob, e1, e2, e3, e4, e5, e6, e7, e8⟩ := TB.bm
    refine wpAny_builtinsFor (m := X.mg) (by rw [I2.ok.glob]; exact (I2.mod.glob.keeps I2.bk).extBut hx TB.gP) e1 e2 (hx _ _ e4 (I2.bk _ _ e5)) e6 e7 e8 ?_
    intro h' hns hsb
    have I3 : Inv X pins σ (upd H2 P (.tbl (ps ++ more))) { s2 with heap := h3, toks := tk } := GxR.inv_tab (g' := s2.gens) (d' := s2.drawn) I2 hP (fun b o hb e => hx b o hb e) hP3 I2.bare
    have lt2 : ∀ b ∈ fp, b < s2.heap.objs.size := fun b hb => by
      obtain ⟨o, e, _⟩ := T.obj _ _ st2 b hb
      exact Heap.lt_size e
    have f3 : ∀ b ∈ fp, FpOk X pins (upd H2 P (.tbl (ps ++ more))) b ∧ b < ({ s2 with heap := h3, toks := tk } : Shared).heap.objs.size := fun b hb => by
      refine ⟨⟨?_, (f2 b hb).2⟩, Nat.lt_of_lt_of_le (lt2 b hb) hsz⟩
      rw [upd_ne (nP b (f2 b hb).1)]
      exact (f2 b hb).1
    have st3 : tn 0 h3 := T.keep _ _ _ st2 fun b hb o e => hx b o (nP b (f2 b hb).1) e
    generalize hs4 : ({ s2 with heap := h3, toks := tk } : Shared) = s4 at I3 f3 hns hsb ⊢
    have h4 : s4.heap = h3 := by rw [← hs4]
    have hsz4 : h'.objs.size = s4.heap.objs.size + 1 := by rw [hsb.1, Heap.size_push]
    have keep' : ∀ b o, s4.heap.get? b = some o → h'.get? b = some o := fun b o e => hsb.extBut b o (Nat.ne_of_lt (Heap.lt_size e)) (Heap.get?_push_of_some _ e)
    generalize hgo : ({ cls := .type "generator", data := .fields #[.int s4.gens.size 0, .str "<genexpr>" (s4.toks + 1), .str (X.env.qual ++ "<genexpr>") (s4.toks + 1 + 1)] } : Obj) = go
    have hGO : GenObj go s4.gens.size := by rw [← hgo]; exact ⟨_, _, rfl, rfl, rfl⟩
    have k5 : ∀ b o, s4.heap.get? b = some o → (h'.push go).get? b = some o := fun b o e => Heap.get?_push_of_some _ (keep' b o e)
    have pg := fun A' => hg A' s4 (upd H2 P (.tbl (ps ++ more))) s4.heap.objs.size (cloFrom X.env.cells scope.names []) code fp
    have pt := fun A' => ht A' s4 (upd H2 P (.tbl (ps ++ more))) s4.heap.objs.size (cloFrom X.env.cells scope.names []) code fp
    have pe := fun A' => he A' s4 (upd H2 P (.tbl (ps ++ more))) s4.heap.objs.size (cloFrom X.env.cells scope.names []) code fp
    generalize hce : genEnv scope (cloFrom X.env.cells scope.names []) s4.heap.objs.size code builtinsNs X.env = cenv at pg pt pe ⊢
    have hscn : cenv.scope = scope := by rw [← hce]; rfl
    generalize hA' : A.over (.compLoop (.GeneratorExp elt [⟨tg, iter, ifs, 0⟩] scope gpos) 0 (.ref it) .none cenv) [] = A'
    have hfrA : A'.frames = some (cenv :: X.stack) := by
      rw [← hA']
      show pushEnvs [cenv] A.frames = _
      rw [near.fr, I2.ok.frames]
      rfl
    have hhd : A'.handled = none := by
      rw [← hA']
      show A.handled = none
      rw [near.hd]
      exact hr.hd
    have rm : Room k A' := by
      refine ⟨hhd, ?_, ?_⟩
      · have := hr.dp
        have := near.dp
        rw [← hA']
        show A.depth + 0 + 1 + 3 * k + 5 < _
        omega
      · have := hr.un
        have := near.un
        rw [← hA']
        show A.units + 0 + 3 + 16 * k + 200 < _
        omega
    have gdA : A'.guards = X.A.guards := by
      rw [← hA']
      show pushGuards [] A.guards = _
      rw [near.gd]
      rfl
    have I5 : Inv (gblk X A' s4 (upd H2 P (.tbl (ps ++ more))) cenv fp) [(h'.objs.size, go)] (wipe σ (own.map (·.2))) (upd H2 P (.tbl (ps ++ more)))
        { s4 with gens := s4.gens.push (.fresh (.compStart (.GeneratorExp elt [⟨tg, iter, ifs, 0⟩] scope gpos) 0 (.ref it) .none cenv)), toks := s4.toks + 1 + 1 + 1, heap := h'.push go } := by
      subst hce
      refine gen_start (it := .ref it) I3 ok nocell hN f3 hhd hfrA rfl (I3.bare.push rfl) k5 (hns.push _) fun p hp => ?_
      have e : p = (h'.objs.size, go) := by simpa using hp
      subst e
      refine ⟨by show s4.heap.objs.size < h'.objs.size; omega, Heap.get?_push_size _ (by rw [← hgo]; rfl), fun v z => ?_⟩
      rw [← hgo] at z
      cases z
    refine hQ J H2 _ _ _ q ⟨⟨_, upd_same, ht4⟩, fun b hb => upd_ne hb⟩ ⟨A', s4, _, cenv, fp, h'.objs.size, s4.gens.size, go, tn, _, rfl, hGO, Array.getElem?_push_size .., rfl, I5, ?_, fun b hb => (f3 b hb).1.1, fun b hb => ?_, T.keep, fun cp σ' H' s' I' => ?_, ?_⟩
    · exact T.keep _ _ _ st3 fun b _ o e => k5 b o (by rw [h4]; exact e)
    · have := (f3 b hb).2
      rw [hsz4]
      exact Nat.lt_succ_of_lt this
    · exact I3.call' (ch := fp) I'.os I'.base I'.hok I'.bare fun b hb => ⟨(f3 b hb).1.2.2.2.1, (f3 b hb).1.2.1, (f3 b hb).1.2.2.2.2.1, (f3 b hb).1.2.2.2.2.2⟩
    · intro α AC End Yd W m n a cp s' turn w hmn hAC hac I' st'
      refine ⟨rfl, ?_⟩
      have loop := seg_gx (A := A) (pos := gpos) (iter := iter) (scope := scope) hA' hc (by rw [hscn]; exact hco) T (pg A' rm gdA) (pt A' rm gdA) (pe A' rm gdA) hAC turn m n 0 a _ s' s' cp hmn w hac I' st' fun b hb => (f3 b hb).1.1
      show Seg _ A _ _ _ s' _ ((compStart (.GeneratorExp elt [⟨tg, iter, ifs, 0⟩] scope gpos) 0 (.ref it) .none cenv).onRaise (leaving cenv)) [] s'
      unfold compStart
      rw [Sem.onRaise_eq_wrap]
      show Seg _ A _ _ _ s' _ ((ask >>= _).wrap _ _ _ _) [] s'
      refine seg_bind_wrap (wpAny_askSetting ?_)
      split
      · exact seg_again rfl loop
      · first
          | exact seg_bind_wrap (wpAny_rule (seg_bind_wrap (wpAny_standAt (seg_bind_wrap (T.self _ 0 s' _ _ st' (seg_again rfl loop))))))
          | (refine seg_bind_wrap (wpAny_rule ?_); show Seg _ A _ _ _ s' _ ((standAt iter.pos >>= _).wrap _ _ _ _) [] s'; exact seg_bind_wrap (wpAny_standAt (seg_bind_wrap (T.self _ 0 s' _ _ st' (seg_again rfl loop)))))
  cases hf : codeAmong gpos ps.toList with
  | none =>
    refine wpAny_genexprCodeX hcode (cd.code hPs ht3) (cd.tab hPs) hf fun c' h' tk hx hge hlt hco' _ htab' _ => ?_
    obtain ⟨o1, vs, f1, tf, fl, tg, inF, tx, tt, op, _, _, _, _, _, _, _, _, _, htr, _⟩ := hco'
    exact cont _ h' tk _ hx (Nat.le_trans hge (Nat.le_of_lt hlt)) htab'.2 ⟨_, rfl⟩ htr
  | some cv =>
    refine wpAny_genexprCode_hit hcode (cd.code hPs ht3) hf ?_
    exact cont cv s2.heap s2.toks ps (Heap.ExtBut.refl _ _) (Nat.le_refl _) hPs ⟨#[], by simp⟩ ht3
end
/-! ### asking -/
section
variable {α : Type} {X : Cx} {A A' : Around} {s_0 : Shared} {H_0 : Hp} {cenv : Env} {fp : List Addr} {tn : Nat → Heap → Prop} {AC : α → List (Addr × Obj) → Prop} {End : α → Hp → Prop} {Yd : α → V → Hp → (α → Hp → Prop) → Prop} {ga : Addr} {gn n : Nat} {go : Obj}
theorem next_gx {gs : GenState} {s : Shared} {Q : Option Value → Shared → Prop} {E : Value → Shared → Prop} (hh : A.handled = none) (hroom : A.depth < recursionLimit) (hl : s.heap.NoLimit) (hG : GenObj go gn) (e : s.heap.get? ga = some go) (hgs : s.gens[gn]? = some gs)
    (hgo : gs.Goes (model X.prog X.w) A.in1 (RG (gblk X A' s_0 H_0 cenv fp) AC End) (YG (gblk X A' s_0 H_0 cenv fp) fp tn AC Yd) n (.send .none) (s.setGen gn .running))
    (item : ∀ (a : α) (x : V) (σ : L2.St) (H : Hp) (i : Nat) (cp : List (Addr × Obj)) (Nx : α → Hp → Prop) (v : Value) (s1 : Shared) (gs' : GenState), RelV x v → AC a cp → Inv (gblk X A' s_0 H_0 cenv fp) cp σ H s1 → tn i s1.heap → Yd a x H Nx → s1.gens[gn]? = some gs' →
      (∀ a' cp' s', Nx a' H → AC a' cp' → Inv (gblk X A' s_0 H_0 cenv fp) cp' σ H s' → tn i s'.heap → ∃ m, n = m + 1 ∧ gs'.Goes (model X.prog X.w) A.in1 (RG (gblk X A' s_0 H_0 cenv fp) AC End) (YG (gblk X A' s_0 H_0 cenv fp) fp tn AC Yd) m (.send .none) s') → Q (some v) s1)
    (done : ∀ (a : α) (σ : L2.St) (H : Hp) (cp : List (Addr × Obj)) (s1 : Shared), AC a cp → Inv (gblk X A' s_0 H_0 cenv fp) cp σ H s1 → End a H → Q none s1) :
    wpAny (model X.prog X.w) A (pyNext (.ref ga)) Q E s := by
  have hgl : gn < s.gens.size := (Array.getElem?_eq_some_iff.mp hgs).1
  refine GenW.wpAny_gsz (n := gn + 1) hgl (next_genG (Er := fun _ _ => False) hh hl hroom (hG.isGen e) hgs hgo (fun v s₁ gs' hbare hv => ?_) (fun s₁ hp h' hk => ?_) fun e s₁ he => he.elim)
  · intro hsz
    obtain ⟨a, x, σ, H, i, cp, Nx, r, hac, I, st, nf, hy, kap⟩ := hv
    have hsz1 : gn < s₁.gens.size := by
      have q : (s₁.setGen gn gs').gens.size = s₁.gens.size := GenW.setGen_size _ _ _
      have hsz' : gn + 1 ≤ (s₁.setGen gn gs').gens.size := hsz
      omega
    refine item a x σ H i cp Nx v (s₁.setGen gn gs') gs' r hac (inv_moved I rfl (allBare_setGen I.bare hbare) fun _ _ q => q) st hy (setGen_at hsz1) fun a' cp' s' nx hac' I' st' => ?_
    have z := kap a' cp' s' nx hac' I' st'
    cases n with
    | zero => exact z.elim
    | succ m => exact ⟨m, rfl, z⟩
  · intro _
    obtain ⟨a, σ, H, cp, hac, I, q⟩ := hp
    exact done a σ H cp _ hac (inv_moved I rfl (allBare_setGen I.bare rfl) hk) q
/-- all(..) asks on -/
theorem all_gx {R : Result → Shared → Prop} {Stop : Hp → Prop} {End : Unit → Hp → Prop} (hh : A.handled = none) (hroom : A.depth < recursionLimit) (hG : GenObj go gn)
    (yes : ∀ (σ : L2.St) (H : Hp) (cp : List (Addr × Obj)) (s1 : Shared), Inv (gblk X A' s_0 H_0 cenv fp) cp σ H s1 → End () H → R (.ok (.ret (.bool true))) s1)
    (no : ∀ (σ : L2.St) (H : Hp) (cp : List (Addr × Obj)) (s1 : Shared), Inv (gblk X A' s_0 H_0 cenv fp) cp σ H s1 → Stop H → R (.ok (.ret (.bool false))) s1) :
    ∀ (n : Nat) (s : Shared), s.heap.NoLimit → s.heap.get? ga = some go → (∃ gs, s.gens[gn]? = some gs ∧ gs.Goes (model X.prog X.w) A.in1.in1 (RG (gblk X A' s_0 H_0 cenv fp) (fun _ cp => cp = [(ga, go)]) End)
      (YG (gblk X A' s_0 H_0 cenv fp) fp tn (fun _ cp => cp = [(ga, go)]) (fun _ y H Nx => ∃ b : Bool, y = .bl b ∧ if b = true then Nx () H else Stop H)) n (.send .none) (s.setGen gn .running)) →
      codeAny (model X.prog X.w) A (.builtin "all.loop" ⟨[.ref ga], []⟩) R s := by
  intro n
  induction n with
  | zero =>
    rintro s hl e ⟨gs, hgs, hgo⟩
    refine codeAny_builtin F.entry_all_loop ?_
    rw [Around.under_plainId F.plain_all_loop _]
    show wpAny _ A.in1 (pyNext (.ref ga) >>= _) _ _ s
    refine wpAny_bind (next_gx (A := A.in1) hh hroom hl hG e hgs hgo (fun a x σ H i cp Nx v s1 gs' r hac I st hy at_ kap => ?_) fun a σ H cp s1 hac I q => ?_)
    · obtain ⟨b, rfl, hb⟩ := hy
      cases (show v = Value.bool b from r)
      refine wpAny_bind (wpAny_holding (wpAny_truthy_bool ?_))
      refine wpAny_bind (wpAny_letGo ?_)
      cases b with
      | true =>
        obtain ⟨m, hm, _⟩ := kap () cp s1 hb hac I st
        cases hm
      | false =>
        simp only [Bool.false_eq_true, if_false] at hb ⊢
        exact wpAny_bind (wpAny_rule (wpAny_pure (no σ H cp s1 I hb)))
    · exact wpAny_bind (wpAny_rule (wpAny_pure (yes σ H cp s1 I q)))
  | succ n ih =>
    rintro s hl e ⟨gs, hgs, hgo⟩
    refine codeAny_builtin F.entry_all_loop ?_
    rw [Around.under_plainId F.plain_all_loop _]
    show wpAny _ A.in1 (pyNext (.ref ga) >>= _) _ _ s
    refine wpAny_bind (next_gx (A := A.in1) hh hroom hl hG e hgs hgo (fun a x σ H i cp Nx v s1 gs' r hac I st hy at_ kap => ?_) fun a σ H cp s1 hac I q => ?_)
    · obtain ⟨b, rfl, hb⟩ := hy
      cases (show v = Value.bool b from r)
      refine wpAny_bind (wpAny_holding (wpAny_truthy_bool ?_))
      refine wpAny_bind (wpAny_letGo ?_)
      cases b with
      | true =>
        simp only [if_true] at hb ⊢
        subst hac
        refine wpAny_pure ⟨plainId_quiet F.plain_all_loop _, ih s1 I.nolimit (I.pin (ga, go) (List.mem_append_right _ List.mem_cons_self)).1 ⟨gs', at_, ?_⟩⟩
        obtain ⟨m, hm, z⟩ := kap () [(ga, go)] (s1.setGen gn .running) hb rfl (inv_moved I rfl (allBare_setGen I.bare rfl) fun _ _ q => q) st
        cases hm
        exact z
      | false =>
        simp only [Bool.false_eq_true, if_false] at hb ⊢
        exact wpAny_bind (wpAny_rule (wpAny_pure (no σ H cp s1 I hb)))
    · exact wpAny_bind (wpAny_rule (wpAny_pure (yes σ H cp s1 I q)))
end
section
variable {X : Cx}
/-- all(elt for tg in iter ..) -/
def tAllX (P : Addr) (wi : TI) (g : TG) (tt : TT) (te : TE) (vs : List Nat) : TE := fun σ H Q => wi σ H fun J H1 => GxR.TabG H1 P ∧ ∀ H2, GxR.Tabbed P H1 H2 → ∃ W : Nat → Nat → Unit → Hp → Prop, (∃ m, W 0 m () H2) ∧
  tGx J g tt te (wipe σ vs) vs (fun _ H => Q (.bl true) H) (fun _ y H Nx => ∃ b : Bool, y = .bl b ∧ if b = true then Nx () H else Q (.bl false) H) W
theorem pe_allX {c P : Addr} {elt tg iter : Expr} {ifs : List Expr} {p pos gpos : Pos} {scope : Scope} {own : List (Str × Nat)} {wi : TI} {g : TG} {tt : TT} {te : TE} {k : Nat}
    (hr : Room (k + 1) X.A) (hc : X.calm = true) (hN : X.N.Nodup) (hgl : Gl X "all") (hm : X.mg "all" = none) (hb : bootBuiltins "all" = some (.builtin "all")) (TB : GxR.TabB X.base X.mg c P) (hcode : X.env.code = .ref c)
    (hco : scope.isCoroutine = false) (hdot : scope.names.lookup (".0" : Str) = some NameKind.local) (nocell : ∀ y ∈ scope.names, y.2 ≠ .cell) (ok : BlkOk X.N X.env.scope scope own) (hi : PI X tg iter wi)
    (hg : ∀ (A' : Around) (s : Shared) (H : Hp) (C : Addr) (cl : List (Str × Addr)) (code : Value) (fp : List Addr), Room k A' → A'.guards = X.A.guards → PG (gblk X A' s H (genEnv scope cl C code builtinsNs X.env) fp) tg g)
    (ht : ∀ (A' : Around) (s : Shared) (H : Hp) (C : Addr) (cl : List (Str × Addr)) (code : Value) (fp : List Addr), Room k A' → A'.guards = X.A.guards → PTs (gblk X A' s H (genEnv scope cl C code builtinsNs X.env) fp) ifs tt)
    (he : ∀ (A' : Around) (s : Shared) (H : Hp) (C : Addr) (cl : List (Str × Addr)) (code : Value) (fp : List Addr), Room k A' → A'.guards = X.A.guards → PE (gblk X A' s H (genEnv scope cl C code builtinsNs X.env) fp) elt te)
    (hs : ∀ v, genFold iter X.env v = pure v)
    (hst : starEach [.GeneratorExp elt [⟨tg, iter, ifs, 0⟩] scope gpos] X.env = (false, eval (.GeneratorExp elt [⟨tg, iter, ifs, 0⟩] scope gpos) X.env) :: starEach [] X.env := by rfl) :
    PE X (.Call (.Name "all" p) [.GeneratorExp elt [⟨tg, iter, ifs, 0⟩] scope gpos] [] pos) (tAllX P wi g tt te (own.map (·.2))) := by
  refine ⟨fun pins s σ H Q I h => ?_⟩
  refine wpAny_Call_Name_kw (ld_blt I hgl hm hb ?_)
  refine PyProof.Rows.callWith_builtin1 ?_ hst (by rfl)
  rw [hst]
  show wpAny _ _ (spliced ((false, eval (.GeneratorExp elt [⟨tg, iter, ifs, 0⟩] scope gpos) X.env) :: backTo pos (starEach [] X.env))) _ _ s
  refine Calls.spliced_cons (gx_make (A := X.A.in1.in1) hr ⟨rfl, rfl, rfl, rfl, (by show X.A.units + 1 + 1 ≤ _; omega)⟩ hc hN TB hcode hco hdot nocell ok hi hg ht he hs I h fun J H1 H2 u s5 hR hT hG => ?_)
  obtain ⟨A', s_0, H_0, cenv, fp, ga, gn, go, tn, gs, rfl, hGO, hgs, hbare, I5, st5, nf, hlt, keep, back, goes⟩ := hG
  obtain ⟨W, ⟨m, w0⟩, turn⟩ := hR H2 hT
  refine Calls.spliced_nil ?_
  have pin5 := (I5.pin (ga, go) (List.mem_append_right _ List.mem_cons_self)).1
  refine call_function_tree F.kind_all F.plain_all F.entry_all (F.args_all1 _) ?_
  unfold Builtin.«all»
  refine wpAny_bind (m := oneArg "all" _) (wpAny_pure ?_)
  refine wpAny_bind (wpAny_pyIter_gen (hGO.isGen pin5) ?_)
  refine wpAny_pure ⟨plainId_quiet F.plain_all_loop _, all_gx (A' := A') (s_0 := s_0) (H_0 := H_0) (cenv := cenv) (fp := fp) (tn := tn) (go := go) (gn := gn) (Stop := fun H => Q (.bl false) H) (End := fun _ H => Q (.bl true) H) hr.hd hr.depth hGO
    (fun σ' H' cp s1 I1 q => ⟨.bl true, H', back _ _ _ _ I1, rfl, q⟩) (fun σ' H' cp s1 I1 q => ⟨.bl false, H', back _ _ _ _ I1, rfl, q⟩) (m + 1) s5 I5.nolimit pin5 ⟨gs, hgs, ?_⟩⟩
  refine goes Unit _ _ _ W m (m + 1) () [(ga, go)] _ turn w0 (Nat.lt_succ_self _) (fun a cp hac p hp b hb z => ?_) rfl (inv_moved I5 rfl (allBare_setGen I5.bare rfl) fun _ _ q => q) st5
  subst hac
  have e : p = (ga, go) := by simpa using hp
  subst e
  exact absurd (hlt b hb) (by rw [← z]; exact Nat.lt_irrefl _)
end
/-! ### tuple(..) -/
section
variable {X : Cx} {A A' : Around} {s_0 : Shared} {H_0 : Hp} {cenv : Env} {fp : List Addr} {tn : Nat → Heap → Prop} {ga S : Addr} {gn n : Nat} {go : Obj}
/-- the asker's list S holds what is out -/
def ACl (ga : Addr) (go : Obj) (S : Addr) (ys : List V) (cp : List (Addr × Obj)) : Prop := ∃ (acc : Array Value) (c : Nat), cp = [(ga, go), (S, lstObj acc c)] ∧ Vals ys acc.toList
def YdL (ys : List V) (y : V) (H : Hp) (Nx : List V → Hp → Prop) : Prop := ys.length < sizeLine ∧ Nx (ys ++ [y]) H
theorem ext_gx {R : Result → Shared → Prop} {End : List V → Hp → Prop} {res : Value} (hh : A.handled = none) (hroom : A.depth < recursionLimit) (hG : GenObj go gn) (hSa : S ≠ ga) (far : (gblk X A' s_0 H_0 cenv fp).s_0.heap.objs.size ≤ S) (hSc : ∀ x c, cenv.cells.lookup x = some c → c ≠ S)
    (keep : ∀ i h h', tn i h → (∀ b ∈ fp, ∀ o, h.get? b = some o → h'.get? b = some o) → tn i h') (hSf : ∀ b ∈ fp, b ≠ S)
    (yes : ∀ (σ : L2.St) (H : Hp) (ys : List V) (acc : Array Value) (c : Nat) (s1 : Shared), Inv (gblk X A' s_0 H_0 cenv fp) [(ga, go), (S, lstObj acc c)] σ H s1 → Vals ys acc.toList → End ys H → R (.ok (.ret res)) s1) :
    ∀ (n : Nat) (s : Shared), s.heap.NoLimit → s.heap.get? ga = some go → (∃ gs, s.gens[gn]? = some gs ∧ gs.Goes (model X.prog X.w) A.in1.in1 (RG (gblk X A' s_0 H_0 cenv fp) (ACl ga go S) End)
      (YG (gblk X A' s_0 H_0 cenv fp) fp tn (ACl ga go S) YdL) n (.send .none) (s.setGen gn .running)) →
      codeAny (model X.prog X.w) A (.builtin "list.extend.loop" ⟨[.ref S, .ref ga, res], []⟩) R s := by
  intro n
  induction n with
  | zero =>
    rintro s hl e ⟨gs, hgs, hgo⟩
    refine codeAny_builtin F.entry_extend_loop ?_
    rw [Around.under_plainId F.plain_extend_loop _]
    show wpAny _ A.in1 (pyNext (.ref ga) >>= _) _ _ s
    refine wpAny_bind (next_gx (A := A.in1) hh hroom hl hG e hgs hgo (fun ys x σ H i cp Nx v s1 gs' r hac I st hy at_ kap => ?_) fun ys σ H cp s1 hac I q => ?_)
    · obtain ⟨acc, c, rfl, rv⟩ := hac
      have pS := I.pin (S, lstObj acc c) (List.mem_append_right _ (List.mem_cons_of_mem _ List.mem_cons_self))
      have I0 : Inv (gblk X A' s_0 H_0 cenv fp) [(ga, go)] σ H s1 := I.pins_of fun p hp => I.pin p (List.mem_append_right _ (by rw [List.mem_singleton.mp hp]; exact List.mem_cons_self))
      have I1 := I0.turned (t' := s1.toks) (h' := s1.heap.update S (Obj.mapSeq (·.push v))) (it := S) (fun b o hb q => (Heap.get?_update_other _ _ (Ne.symm hb)).trans q) pS.2.1 pS.2.2.1 (.inr far) hSc (fun p hp => by rw [List.mem_singleton.mp (show p ∈ [(ga, go)] by simpa using hp)]; exact Ne.symm hSa)
      have e2 := Heap.get?_update_self (Obj.mapSeq (·.push v)) pS.1 rfl
      obtain ⟨m, hm, _⟩ := kap (ys ++ [x]) [(ga, go), (S, _)] _ hy.2 ⟨acc.push v, _, rfl, by rw [Array.toList_push]; exact rv.append (.cons r .nil)⟩ (I1.pins_of fun p hp => by
        rcases List.mem_cons.mp hp with z | z
        · rw [z]; exact I1.pin (ga, go) (List.mem_append_right _ List.mem_cons_self)
        · rw [List.mem_singleton.mp z]; exact ⟨e2, pS.2.1, pS.2.2.1, pS.2.2.2.1, fun v q => by cases q⟩) (keep _ _ _ st fun b hb o q => (Heap.get?_update_other _ _ (Ne.symm (hSf b hb))).trans q)
      cases hm
    · obtain ⟨acc, c, rfl, rv⟩ := hac
      exact wpAny_pure (yes σ H ys acc c s1 I rv q)
  | succ n ih =>
    rintro s hl e ⟨gs, hgs, hgo⟩
    refine codeAny_builtin F.entry_extend_loop ?_
    rw [Around.under_plainId F.plain_extend_loop _]
    show wpAny _ A.in1 (pyNext (.ref ga) >>= _) _ _ s
    refine wpAny_bind (next_gx (A := A.in1) hh hroom hl hG e hgs hgo (fun ys x σ H i cp Nx v s1 gs' r hac I st hy at_ kap => ?_) fun ys σ H cp s1 hac I q => ?_)
    · obtain ⟨acc, c, rfl, rv⟩ := hac
      have pS := I.pin (S, lstObj acc c) (List.mem_append_right _ (List.mem_cons_of_mem _ List.mem_cons_self))
      have I0 : Inv (gblk X A' s_0 H_0 cenv fp) [(ga, go)] σ H s1 := I.pins_of fun p hp => I.pin p (List.mem_append_right _ (by rw [List.mem_singleton.mp hp]; exact List.mem_cons_self))
      have I1 := I0.turned (t' := s1.toks) (h' := s1.heap.update S (Obj.mapSeq (·.push v))) (it := S) (fun b o hb q => (Heap.get?_update_other _ _ (Ne.symm hb)).trans q) pS.2.1 pS.2.2.1 (.inr far) hSc (fun p hp => by rw [List.mem_singleton.mp (show p ∈ [(ga, go)] by simpa using hp)]; exact Ne.symm hSa)
      have e2 := Heap.get?_update_self (Obj.mapSeq (·.push v)) pS.1 rfl
      have hln := rv.length
      have hlt : acc.size < sizeLine := by
        have := hy.1
        rw [hln] at this
        simpa using this
      have pG := I1.pin (ga, go) (List.mem_append_right _ List.mem_cons_self)
      show wpAny _ A.in1 (updateSeq S (·.push v) >>= _) _ _ _
      refine wpAny_bind ?_
      refine wpAny_updateSeq pS.1 rfl (wpAny_pure ⟨plainId_quiet F.plain_extend_loop _, ih _ I1.nolimit pG.1 ⟨gs', at_, ?_⟩⟩) (Nat.le_of_lt hlt) (by show (acc.push v).size ≤ sizeLine + 1; rw [Array.size_push]; omega)
      obtain ⟨m, hm, z⟩ := kap (ys ++ [x]) [(ga, go), (S, _)] (({ s1 with heap := s1.heap.update S (Obj.mapSeq (·.push v)) } : Shared).setGen gn .running) hy.2 ⟨acc.push v, _, rfl, by rw [Array.toList_push]; exact rv.append (.cons r .nil)⟩ (inv_moved (I1.pins_of fun p hp => by
        rcases List.mem_cons.mp hp with z | z
        · rw [z]; exact pG
        · rw [List.mem_singleton.mp z]; exact ⟨e2, pS.2.1, pS.2.2.1, pS.2.2.2.1, fun v q => by cases q⟩) rfl (allBare_setGen (s := { s1 with heap := s1.heap.update S (Obj.mapSeq (·.push v)) }) I1.bare rfl) fun _ _ q => q) (keep _ _ _ st fun b hb o q => (Heap.get?_update_other _ _ (Ne.symm (hSf b hb))).trans q)
      cases hm
      exact z
    · obtain ⟨acc, c, rfl, rv⟩ := hac
      exact wpAny_pure (yes σ H ys acc c s1 I rv q)
end
section
variable {X : Cx} {pins : List (Addr × Obj)} {σ : L2.St} {s5 : Shared} {J : It} {g : TG} {tt : TT} {te : TE} {vs : List Nat} {H4 : Hp} {u : Value}
/-- all that a generator hands out, in a list of the asker's own -/
theorem collect_gx {A : Around} {E : Value → Shared → Prop} {Q : List Value → Shared → Prop} {End : List V → Hp → Prop} {W : Nat → Nat → List V → Hp → Prop} {m : Nat} (hh : A.handled = none) (hroom : A.depth < recursionLimit) (G : Gx X pins σ A.in1.in1 J g tt te vs H4 u s5)
    (w0 : W 0 m [] H4) (turn : tGx J g tt te (wipe σ vs) vs End YdL W)
    (hQ : ∀ (s' : Shared) (acc : Array Value) (ys : List V) (H' : Hp), Inv X pins σ H' s' → Vals ys acc.toList → End ys H' → Q acc.toList s') : wpAny (model X.prog X.w) A (collect u) Q E s5 := by
  obtain ⟨A', s_0, H_0, cenv, fp, ga, gn, go, tn, gs, rfl, hGO, hgs, hbare, I5, st5, nf, hlt, keep, back, goes⟩ := G
  have pin5 := I5.pin (ga, go) (List.mem_append_right _ List.mem_cons_self)
  have glt : ga < s5.heap.objs.size := Heap.lt_size pin5.1
  have hSI : s5.heap.objs.size ≠ ga := Nat.ne_of_gt glt
  unfold collect
  refine wpAny_bind (wpAny_runValue (codeAny_builtin F.entry_proto_collect ?_))
  rw [Around.under_plainId F.plain_proto_collect _]
  show wpAny _ A.in1 (newList [] >>= fun l => again (.builtin "list.__iadd__" ⟨[l, .ref ga], []⟩)) _ _ s5
  refine wpAny_bind (wpAny_newObj_type ?_)
  refine wpAny_pure ⟨plainId_quiet F.plain_list_iadd _, codeAny_builtin F.entry_list_iadd ?_⟩
  rw [Around.under_plainId F.plain_list_iadd _]
  show wpAny _ A.in1 (Builtin.List.listExtendWith (.ref s5.heap.objs.size) (.ref ga) (.ref s5.heap.objs.size)) _ _ _
  unfold Builtin.List.listExtendWith
  have k1 : ∀ b o, s5.heap.get? b = some o → (s5.heap.push { cls := .type "list", data := .seq ([] : List Value).toArray }).get? b = some o := fun b o e => Heap.get?_push_of_some _ e
  have hT : Shared.TypeIs { s5 with heap := s5.heap.push { cls := .type "list", data := .seq ([] : List Value).toArray } } (.ref ga) "generator" := Heap.IsGen.typeIs (s := { s5 with heap := _ }) (hGO.isGen (k1 _ _ pin5.1))
  refine wpAny_bind (wpAny_typeOf hT ?_)
  have h1 : Builtin.List.listSameRef (.ref s5.heap.objs.size) (.ref ga) = false := by simp [Builtin.List.listSameRef, hSI]
  have h2 : (Value.type "generator" == Value.type "list") = false := by decide
  have h3 : (Value.type "generator" == Value.type "tuple") = false := by decide
  simp only [h1, h2, h3, Bool.or_false, Bool.false_eq_true, if_false]
  refine wpAny_bind (wpAny_pyIter_gen (s := { s5 with heap := _ }) (hGO.isGen (k1 _ _ pin5.1)) ?_)
  refine wpAny_bind (wpAny_holding ?_)
  unfold Builtin.List.listLengthHint
  refine wpAny_bind (wpAny_specialOf hT F.gen_no_len ?_)
  show wpAny _ A.in1 (specialOf (Value.ref ga) (Str.ofString "__length_hint__") >>= _) _ _ _
  refine wpAny_bind (wpAny_specialOf hT F.gen_no_hint ?_)
  refine wpAny_pure ?_
  show wpAny _ A.in1 (rule "list.extend.makes-room" >>= fun _ => Builtin.List.listTouch (.ref s5.heap.objs.size) >>= fun _ =>
    again (.builtin "list.extend.loop" ⟨[.ref s5.heap.objs.size, .ref ga, .ref s5.heap.objs.size], []⟩)) _ _ _
  refine wpAny_bind (wpAny_rule ?_)
  have hS₁ : (s5.heap.push { cls := .type "list", data := .seq ([] : List Value).toArray }).get? s5.heap.objs.size = some { cls := .type "list", data := .seq ([] : List Value).toArray } := Heap.get?_push_size _ rfl
  refine wpAny_bind ?_
  show wpAny _ A.in1 (updateSeq s5.heap.objs.size (·.push .none) >>= fun _ => updateSeq s5.heap.objs.size (·.pop)) _ _ _
  refine wpAny_bind (wpAny_updateSeq hS₁ rfl ?_)
  have hS₂ := Heap.get?_update_self (Obj.mapSeq (·.push Value.none)) hS₁ rfl
  refine wpAny_updateSeq hS₂ rfl ?_
  have hS₃ := Heap.get?_update_self (Obj.mapSeq (·.pop)) hS₂ rfl
  obtain ⟨c3, hS₄⟩ : ∃ c, (((s5.heap.push { cls := .type "list", data := .seq ([] : List Value).toArray }).update s5.heap.objs.size (Obj.mapSeq (·.push Value.none))).update s5.heap.objs.size (Obj.mapSeq (·.pop))).get? s5.heap.objs.size = some (lstObj #[] c) := ⟨_, hS₃⟩
  have k3 : ∀ b o, s5.heap.get? b = some o → (((s5.heap.push { cls := .type "list", data := .seq ([] : List Value).toArray }).update s5.heap.objs.size (Obj.mapSeq (·.push Value.none))).update s5.heap.objs.size (Obj.mapSeq (·.pop))).get? b = some o :=
    fun b o e => (Heap.get?_update_other _ _ (Ne.symm (Nat.ne_of_lt (Heap.lt_size e)))).trans ((Heap.get?_update_other _ _ (Ne.symm (Nat.ne_of_lt (Heap.lt_size e)))).trans (k1 b o e))
  have fS : FpOk (gblk X A' s_0 H_0 cenv fp) [(ga, go)] H4 s5.heap.objs.size := I5.fpOk (Nat.le_refl _) (I5.hok.fresh (Nat.le_refl _))
  have hfS : ∀ b ∈ fp, b ≠ s5.heap.objs.size := fun b hb => Nat.ne_of_lt (Nat.lt_trans (hlt b hb) glt)
  have I6 := inv_moved (s' := { s5 with heap := ((s5.heap.push { cls := .type "list", data := .seq ([] : List Value).toArray }).update s5.heap.objs.size (Obj.mapSeq (·.push Value.none))).update s5.heap.objs.size (Obj.mapSeq (·.pop)) }) I5 rfl I5.bare k3
  refine wpAny_pure ⟨plainId_quiet F.plain_extend_loop _, ext_gx (A := A) (A' := A') (s_0 := s_0) (H_0 := H_0) (cenv := cenv) (fp := fp) (tn := tn) (go := go) (gn := gn) (End := End) hh hroom hGO hSI ?_ fS.2.2.2.2.1 keep hfS
    (fun σ' H' ys acc c s1 I1 rv q => ?_) (m + 1) _ I6.nolimit (k3 _ _ pin5.1) ⟨gs, hgs, ?_⟩⟩
  · exact Nat.le_trans I5.sz (Nat.le_refl _)
  · show wpAny _ A (load s5.heap.objs.size >>= _) _ _ s1
    have pS := (I1.pin (s5.heap.objs.size, lstObj acc c) (List.mem_append_right _ (List.mem_cons_of_mem _ List.mem_cons_self))).1
    refine wpAny_bind (wpAny_load pS ?_)
    exact wpAny_pure (hQ s1 acc ys H' (back _ _ _ _ I1) rv q)
  · refine goes (List V) (ACl ga go s5.heap.objs.size) End YdL W m (m + 1) [] [(ga, go), (s5.heap.objs.size, lstObj #[] c3)] _ turn w0 (Nat.lt_succ_self _) (fun ys cp hac p hp b hb z => ?_) ⟨#[], c3, rfl, .nil⟩
      (inv_moved (I6.pins_of fun p hp => ?_) rfl (allBare_setGen (s := { s5 with heap := _ }) I5.bare rfl) fun _ _ q => q) (keep _ _ _ st5 fun b hb o q => k3 b o q)
    · obtain ⟨acc, c, rfl, _⟩ := hac
      rcases List.mem_cons.mp hp with e | e
      · rw [e] at z
        exact absurd (hlt b hb) (by rw [← z]; exact Nat.lt_irrefl _)
      · rw [List.mem_singleton.mp e] at z
        exact hfS b hb z.symm
    · rcases List.mem_cons.mp hp with e | e
      · rw [e]
        exact I6.pin (ga, go) (List.mem_append_right _ List.mem_cons_self)
      · rw [List.mem_singleton.mp e]
        exact ⟨hS₄, fS.1, fS.2.1, fS.2.2.1, fun v q => by cases q⟩
end
section
variable {X : Cx}
/-- tuple(elt for tg in iter ..) -/
def tTupX (P : Addr) (wi : TI) (g : TG) (tt : TT) (te : TE) (vs : List Nat) : TE := fun σ H Q => wi σ H fun J H1 => GxR.TabG H1 P ∧ ∀ H2, GxR.Tabbed P H1 H2 → ∃ W : Nat → Nat → List V → Hp → Prop, (∃ m, W 0 m [] H2) ∧
  tGx J g tt te (wipe σ vs) vs (fun ys H => ys.length ≤ sizeLine ∧ ∀ p, H p = none → Q (.ref p) (upd H p (.tup ys))) YdL W
theorem pe_tupX {c P : Addr} {elt tg iter : Expr} {ifs : List Expr} {p pos gpos : Pos} {scope : Scope} {own : List (Str × Nat)} {wi : TI} {g : TG} {tt : TT} {te : TE} {k : Nat}
    (hr : Room (k + 1) X.A) (hc : X.calm = true) (hN : X.N.Nodup) (hgl : Gl X "tuple") (hm : X.mg "tuple" = none) (hb : bootBuiltins "tuple" = some (.type "tuple")) (TB : GxR.TabB X.base X.mg c P) (hcode : X.env.code = .ref c)
    (hco : scope.isCoroutine = false) (hdot : scope.names.lookup (".0" : Str) = some NameKind.local) (nocell : ∀ y ∈ scope.names, y.2 ≠ .cell) (ok : BlkOk X.N X.env.scope scope own) (hi : PI X tg iter wi)
    (hg : ∀ (A' : Around) (s : Shared) (H : Hp) (C : Addr) (cl : List (Str × Addr)) (code : Value) (fp : List Addr), Room k A' → A'.guards = X.A.guards → PG (gblk X A' s H (genEnv scope cl C code builtinsNs X.env) fp) tg g)
    (ht : ∀ (A' : Around) (s : Shared) (H : Hp) (C : Addr) (cl : List (Str × Addr)) (code : Value) (fp : List Addr), Room k A' → A'.guards = X.A.guards → PTs (gblk X A' s H (genEnv scope cl C code builtinsNs X.env) fp) ifs tt)
    (he : ∀ (A' : Around) (s : Shared) (H : Hp) (C : Addr) (cl : List (Str × Addr)) (code : Value) (fp : List Addr), Room k A' → A'.guards = X.A.guards → PE (gblk X A' s H (genEnv scope cl C code builtinsNs X.env) fp) elt te)
    (hs : ∀ v, genFold iter X.env v = pure v)
    (hst : starEach [.GeneratorExp elt [⟨tg, iter, ifs, 0⟩] scope gpos] X.env = (false, eval (.GeneratorExp elt [⟨tg, iter, ifs, 0⟩] scope gpos) X.env) :: starEach [] X.env := by rfl) :
    PE X (.Call (.Name "tuple" p) [.GeneratorExp elt [⟨tg, iter, ifs, 0⟩] scope gpos] [] pos) (tTupX P wi g tt te (own.map (·.2))) := by
  refine ⟨fun pins s σ H Q I h => ?_⟩
  refine wpAny_Call_Name_kw (ld_blt I hgl hm hb ?_)
  refine PyProof.Rows.callWith_type1 ?_ hst (by rfl)
  rw [hst]
  show wpAny _ _ (spliced ((false, eval (.GeneratorExp elt [⟨tg, iter, ifs, 0⟩] scope gpos) X.env) :: backTo pos (starEach [] X.env))) _ _ s
  refine Calls.spliced_cons (gx_make (A := X.A.in1.in1.in1.in1) hr ⟨rfl, rfl, rfl, rfl, (by show X.A.units + 1 + 1 + 1 + 1 ≤ _; omega)⟩ hc hN TB hcode hco hdot nocell ok hi hg ht he hs I h fun J H1 H2 u s5 hR hT hG => ?_)
  obtain ⟨W, ⟨m, w0⟩, turn⟩ := hR H2 hT
  refine Calls.spliced_nil ?_
  have ⟨A', s_0, H_0, cenv, fp, ga, gn, go, tn, gs, eu, hGO, hgs, hbare, I5, st5, nf, hlt, keep, back, goes⟩ := hG
  have pin5 := (I5.pin (ga, go) (List.mem_append_right _ List.mem_cons_self)).1
  rw [eu] at hG ⊢
  refine callType_codes (Q₁ := fun obj s₁ => s₁.TypeIs obj "tuple" ∧ EP X pins σ Q obj s₁) F.called_tuple (F.typeCall_tuple_1 _) F.entry_object_init ?_ fun obj s₁ h₁ =>
    ⟨h₁.1, F.args_object_init_2 obj _, object_init_meets F.called_tuple.init.lookup F.called_tuple.made (by decide) X.prog X.w X.A.in1 _ s₁ ⟨h₁.1, rfl, h₁.2⟩⟩
  refine codeAny_of_tree ?_
  show wpAny _ X.A.in1.in1 (do checkBuiltinCall "tuple.__new__" ⟨[.type "tuple", .ref ga], []⟩; again (.builtin "tuple.__new__" ⟨[.type "tuple", .ref ga], []⟩)) _ _ s5
  refine wpAny_bind (wpAny_of_eq (F.newCall_tuple_1 _) (wpAny_pure ⟨plainId_quiet F.plain_tuple_new _, codeAny_builtin F.entry_tuple_new ?_⟩))
  rw [Around.under_plainId F.plain_tuple_new _]
  have hsub := sub_tuple_self
  have hinit := init_tuple_lookup
  have hmh := madeHere_tuple
  have hTI : s5.TypeIs (.ref ga) "generator" := (hGO.isGen pin5).typeIs
  have col : ∀ {Q0 : List Value → Shared → Prop} {E0 : Value → Shared → Prop}, (∀ (s' : Shared) (acc : Array Value), (∃ (ys : List V) (H' : Hp), Inv X pins σ H' s' ∧ Vals ys acc.toList ∧ ys.length ≤ sizeLine ∧ ∀ p, H' p = none → Q (.ref p) (upd H' p (.tup ys))) → Q0 acc.toList s') →
      wpAny (model X.prog X.w) X.A.in1.in1 (collect (.ref ga)) Q0 E0 s5 := fun hq => collect_gx hr.hd hr.depth hG w0 turn (fun s' acc ys H' I' rv q => hq s' acc ⟨ys, H', I', rv, q.1, q.2⟩)
  wp_walk using wpAny_typeOf hTI, col
  rintro s' acc ⟨ys, H', I', rv, small, q⟩
  show wpAny _ _ (Builtin.Tuple.tupleExact acc.toList.toArray >>= fun v => ret v) _ _ _
  unfold Builtin.Tuple.tupleExact
  refine wpAny_bind (wpAny_newObj_type ?_ (by show acc.toList.toArray.size ≤ sizeLine; rw [List.size_toArray, ← rv.length]; exact small))
  refine wpAny_pure ?_
  have free : H' s'.heap.objs.size = none := I'.hok.fresh (Nat.le_refl _)
  refine ⟨⟨_, Heap.get?_push_size _ rfl, rfl⟩, .ref s'.heap.objs.size, upd H' s'.heap.objs.size (.tup ys), I'.laid (t' := s'.toks) (fun b u z => Heap.get?_push_of_some _ z) (Nat.le_refl _) ⟨small, acc.toList, rv, ?_⟩, rfl, q _ free⟩
  exact ⟨_, Heap.get?_push_size _ rfl, rfl, 0, rfl⟩
end
/-! ### a def by its body, its code object known -/
theorem okC {P : Program} {w : World} {K : PySem.W.Frag} {mg : Str → Option Value} {base : Heap} {x qual : Str} {st : Stmt} {f : Addr} {fd : FuncData} {N ps : List Str} {k : Nat} {sp : Sp} (F : Fun K x qual st f fd) (S : FnScope N ps (defScope st)) (len : ∀ vs H Q E, sp vs H Q E → vs.length = ps.length)
    (body : ∀ (A : Around) (outer : List Env) (s : Shared) (H : Hp) (vs : List V) (Q : VK) (E : XK), Room k (A.deeper (envOfC qual (defScope st) s.heap.objs.size f fd.code)) → sp vs H Q E →
      ∃ t, PSs (cxOf CX0 P w K mg base N qual (defScope st) f fd.code A outer s H E).nox (defBody st) t ∧ t { nx := fun _ H' => Q .non H', rt := Q } (start N vs) H) : FnOk P w K mg base CX0 (k + 1) f fd ps sp := by
  obtain ⟨oc, od, kV, doc, pm, an, cdv, ct, osl, rfl, lk, hcd⟩ := F.ex
  refine fn_of lk hcd S len fun A outer s H vs Q E hr hsp => ?_
  obtain ⟨t, h, q⟩ := body A outer s H vs Q E hr hsp
  exact ⟨t, h.nox, q⟩
/-! ### from the head's facts -/
theorem fun_of {K : PySem.W.Frag} {x qual : Str} {st : Stmt} {f : Addr} {fd : FuncData} (F : FunD K x qual (defArgs st) (defBody st) (defScope st) [] [] f fd) : Fun K x qual st f fd := by
  obtain ⟨oc, od, dV, kV, doc, pm, an, cdv, ct, osl, rfl, lk, hcd, hd, _⟩ := F.ex
  rcases hd with ⟨_, rfl⟩ | ⟨z, _⟩
  · exact ⟨⟨oc, od, kV, doc, pm, an, cdv, ct, osl, rfl, lk, hcd⟩, F.kp⟩
  · exact absurd rfl z
theorem code_of {K : PySem.W.Frag} {x qual : Str} {st : Stmt} {p : He.Defn} {fd : FuncData} (F : Fun K x qual st (He.fAd K p) fd) : fd.code = .ref (He.cT K p).1 := by
  obtain ⟨oc, od, kV, doc, pm, an, cdv, ct, osl, rfl, lk, hcd⟩ := F.ex
  obtain ⟨c, rfl⟩ := He.codeIn_ref hcd
  show Value.ref c = Value.ref (He.codeOf K p)
  rw [He.codeOf_eq lk rfl]
theorem tab_of {base : Heap} {mg : Str → Option Value} {c P : Addr} (h : LamX.TabB base mg c P) : GxR.TabB base mg c P := ⟨h.code, h.bm, h.gP⟩
/-! ### heaps whose tables grow -/
def Tabs (H : Hp) (Ps : List Addr) : Prop := ∀ P ∈ Ps, GxR.TabG H P
/-- what is no table stays; tables stay tables -/
def Gr (H H' : Hp) : Prop := (∀ b o, (∀ ps, o ≠ HO.tbl ps) → H b = some o → H' b = some o) ∧ ∀ b, GxR.TabG H b → GxR.TabG H' b
theorem Gr.refl {H : Hp} : Gr H H := ⟨fun _ _ _ e => e, fun _ e => e⟩
theorem Gr.trans {H H1 H2 : Hp} (a : Gr H H1) (b : Gr H1 H2) : Gr H H2 := ⟨fun c o n e => b.1 c o n (a.1 c o n e), fun c e => b.2 c (a.2 c e)⟩
theorem Gr.of {H H' : Hp} (h : ∀ b o, H b = some o → H' b = some o) : Gr H H' := ⟨fun b o _ e => h b o e, fun b ⟨ps, e, t⟩ => ⟨ps, h _ _ e, t⟩⟩
theorem Gr.tab {P : Addr} {H H' : Hp} (t : GxR.TabG H P) (h : GxR.Tabbed P H H') : Gr H H' := by
  obtain ⟨ps, e, _⟩ := t
  refine ⟨fun b o n q => ?_, fun b q => ?_⟩
  · by_cases hb : b = P
    · rw [hb, e] at q
      exact absurd (Option.some.inj q).symm (n ps)
    · rw [h.2 b hb]; exact q
  · by_cases hb : b = P
    · rw [hb]; exact h.1
    · obtain ⟨ps', e', t'⟩ := q
      exact ⟨ps', by rw [h.2 b hb]; exact e', t'⟩
theorem Gr.tup {H H' : Hp} (g : Gr H H') {a : Addr} {xs : List V} (h : H a = some (.tup xs)) : H' a = some (.tup xs) := g.1 a _ (fun _ z => by cases z) h
theorem Gr.lst {H H' : Hp} (g : Gr H H') {a : Addr} {xs : List V} (h : H a = some (.lst xs)) : H' a = some (.lst xs) := g.1 a _ (fun _ z => by cases z) h
theorem Gr.tabs {H H' : Hp} (g : Gr H H') {Ps : List Addr} (h : Tabs H Ps) : Tabs H' Ps := fun P hP => g.2 P (h P hP)
theorem Gr.none {H : Hp} {a : Addr} {o : HO} (n : H a = Option.none) : Gr H (upd H a o) := Gr.of fun b u e => by
  rw [upd_ne (ne_of_none e n)]
  exact e
namespace CwR
/-- behind it a token is out -/
def PEp (X : Cx) (e : Expr) (t : TE) : Prop := ∀ (pins : List (Addr × Obj)) (s : Shared) (σ : L2.St) (H : Hp) (Q : VK), Inv X pins σ H s → t σ H Q → wpAny (model X.prog X.w) X.A (eval e X.env) (fun u s' => 1 ≤ s'.toks ∧ EP X pins σ Q u s') X.xe s
theorem pep_ix {X : Cx} {a : Expr} {i : Int} {j : Nat} {p pos : Pos} {ta : TE} {r : R2} (hr : IxR X r) (ha : PE X a ta) (hs : PlainIx (.Constant (.int i) j p)) : PEp X (.Subscript a (.Constant (.int i) j p) pos) (tOp r ta (tC (.int i))) := by
  intro pins s σ H Q I h
  refine Subscript_ (thn (ha.run pins s σ H _ I h) fun v s1 ⟨x, H1, I1, r1, q1⟩ => wpAny_Constant_int ?_)
  refine wpAny_mono (PySem.wpAny_toks (hr a _ pins { s1 with toks := s1.toks + 1 } σ H1 x (.int i) v (.int i s1.toks) Q (I1.tok _) r1 ⟨_, rfl⟩ q1 (hs _ _))) (fun u s2 q => ⟨?_, q.2⟩) fun _ _ z => z.2
  have h1 : s1.toks + 1 ≤ s2.toks := q.1
  omega
theorem pep_repl {X : Cx} {o : Expr} {to : TE} {y z : Str} {j k : Nat} {c0 c1 apos pos : Pos} (ho : PEp X o to) (hyz : (y == z) = false := by decide)
    (hst : starEach [.Constant (.str y) j c0, .Constant (.str z) k c1] X.env = [(false, eval (.Constant (.str y) j c0) X.env), (false, eval (.Constant (.str z) k c1) X.env)] := by rfl)
    (hbase : attributeBase o "replace" X.env (eval o X.env) = eval o X.env := by rfl) (hline : (apos.endLine == pos.line) = true := by rfl) :
    PEp X (.Call (.Attribute o "replace" apos) [.Constant (.str y) j c0, .Constant (.str z) k c1] [] pos) (CwR.tReplC to y z) := by
  intro pins s σ H Q I h
  refine PySem.Call_method2 hbase hst hline (wpAny_mono (ho pins s σ H _ I h) (fun v s1 q => ?_) fun _ _ z => z)
  obtain ⟨hk, v', H1, I1, r1, x, e1, hb, q⟩ := q
  subst e1
  obtain ⟨tx, e2⟩ := r1
  subst e2
  refine ⟨"str", _, PySem.F.plainAttrs_str, PySem.F.slot_str_replace, PySem.F.type_str_replace, typeIs_str _ _ _, (fun _ e => nomatch e), Calls.callWith_builtin rfl (Calls.evalArgs_plain (Calls.spliced_cons ?_))⟩
  refine Calls.Constant_str (Calls.spliced_cons (Calls.Constant_str (Calls.spliced_nil ?_)))
  refine wpAny_mono (PySem.wpAny_toks (PySem.SC.replace (Q := fun u s' => EP X pins σ Q u s') (by show s1.toks ≠ 0; omega) (by show s1.toks + 1 ≠ 0; omega) (by show s1.toks ≠ s1.toks + 1; omega) hyz hb fun t' k => ⟨.str (Txt.replace x y z), H1, I1.tok k, ⟨t', rfl⟩, q⟩)) (fun u s2 q => ⟨?_, q.2⟩) fun _ _ z => z.2
  have h1 : s1.toks + 1 + 1 ≤ s2.toks := q.1
  omega
theorem pe_replP {X : Cx} {e : Expr} {t : TE} (h : PEp X e t) : PE X e t := ⟨fun pins s σ H Q I q => wpAny_mono (h pins s σ H Q I q) (fun _ _ z => z.2) fun _ _ z => z⟩
end CwR

/-! ### x, *y = a list -/
namespace StarR
section
open PySem.W
variable {X : Cx}
theorem pgs_star {e : Expr} {p : Pos} {es : List Expr} {t : TG} {u : TGs} (h1 : PG X e t) (h2 : PGs X es u) : PGs X (.Starred e p :: es) (gCons t u) := by
  refine ⟨fun pins s σ H vs us Q I r h => ?_⟩
  obtain ⟨v, vr, e1, h⟩ := h
  subst e1
  cases r with
  | cons r rr =>
    show wpAny _ _ (assignInOrder (assign e X.env :: (assignEach es X.env).map (·.2)) _) _ _ _
    refine assignInOrder_cons (thn (h1.run pins s σ H _ _ _ I r h) fun _ s1 ⟨σ1, H1, I1, q1⟩ => ?_)
    exact h2.run pins s1 σ1 H1 _ _ Q I1 rr q1
theorem star_list {prog : Program} {w : World} {A : Around} {E : Value → Shared → Prop} {s : Shared} {l : Addr} {items : Array Value} {Q : List Value → Shared → Prop} (hl : s.heap.IsList l items) (hh : A.handled = none) (hn : 1 ≤ items.size) (hz : items.size ≤ sizeLine)
    (h : ∀ (h' : Heap) (tk : Nat), (∀ b o, s.heap.get? b = some o → h'.get? b = some o) → Q (items.toList.take 1 ++ [.ref h'.objs.size] ++ []) { s with heap := h'.push { cls := .type "list", data := .seq (items.toList.drop 1).toArray }, toks := tk }) : wpAny (model prog w) A (unpackItems (.ref l) 2 (some 1)) Q E s := by
  have hlt : l ≠ s.heap.objs.size := by obtain ⟨o, ho, _⟩ := hl; exact Nat.ne_of_lt (Heap.lt_size ho)
  unfold unpackItems
  refine wpAny_bind ?_
  unfold notIterableAtAll
  refine wpAny_bind (wpAny_specialOf hl.typeIs slot_list_iter.lookup ?_)
  refine wpAny_pure ?_
  simp only [Bool.false_eq_true, if_false]
  refine wpAny_bind (wpAny_holding (wpAny_pyIter_list hl ?_))
  refine wpAny_bind (wpAny_holding (kun_draw hlt 1 0 _ _ ⟨_, Heap.get?_push_size _ rfl, rfl, rfl⟩ (hl.push _) (by omega) fun h₁ hit₁ hs₁ => ?_))
  have hl₁ : h₁.IsList l items := (hl.push _).extBut hs₁.extBut hlt
  rw [Nat.zero_add] at hit₁
  have hit₁' := hit₁
  obtain ⟨oi, hoi, _⟩ := hit₁'
  have hl₁' := hl₁
  obtain ⟨ol, hol, _⟩ := hl₁'
  rw [List.drop_zero]
  have hfl : (items.toList.take 1).length = 1 := by rw [List.length_take, Array.length_toList]; omega
  rw [if_neg (show ¬ ((items.toList.take 1).length < 1) by rw [hfl]; omega)]
  refine wpAny_bind (wpAny_holding (kun_collect (s := { s with heap := h₁ }) (T := "list_iterator") (.inr (.inr (.inl rfl))) (Walks.list (A := A.in1) hh s.heap.objs.size l hlt items) (fun j u st => st.1.typeIs) (k := 1) (by omega) ⟨hit₁, hl₁⟩ (Heap.lt_size hoi) (Heap.lt_size hol) (fun h₂ tk hk => ?_) hz))
  have hrl : (items.toList.drop 1).length = items.size - 1 := by rw [List.length_drop, Array.length_toList]
  show wpAny _ _ (if (items.toList.drop 1).length < 0 then _ else _) _ _ _
  rw [if_neg (by omega)]
  show wpAny _ _ (newList ((items.toList.drop 1).take ((items.toList.drop 1).length - 0)) >>= fun d => pure (items.toList.take 1 ++ [d] ++ (items.toList.drop 1).drop ((items.toList.drop 1).length - 0))) _ _ _
  rw [Nat.sub_zero, List.take_length, List.drop_length]
  have he : ∀ b o, s.heap.get? b = some o → h₂.get? b = some o := fun b o e => by
    have hb : b ≠ s.heap.objs.size := Nat.ne_of_lt (Heap.lt_size e)
    exact hk b o hb (hs₁.extBut b o hb (Heap.get?_push_of_some _ e))
  exact wpAny_bind (wpAny_newList (wpAny_pure (h h₂ tk he)) (by rw [hrl]; omega))
/-- x, *y = a list that has an x -/
def gStar (K : PySem.W.Frag) (t : TGs) : TG := fun v σ H Q => ∃ a x xs, v = .ref a ∧ SqL K H a (x :: xs) ∧ ∀ D, H D = none → t [x, .ref D] σ (upd H D (.lst xs)) Q
theorem pg_star {es : List Expr} {k : Nat} {pos : Pos} {t : TGs} (hc : X.calm = true) (h : PGs X es t)
    (hn : (assignEach es X.env).length = 2 := by rfl) (hst : (assignEach es X.env).findIdx? (·.1) = some 1 := by rfl) : PG X (.Tuple es k pos) (gStar X.K t) := by
  refine ⟨fun pins s σ H v u Q I r hw => ?_⟩
  obtain ⟨a, x, xs, e1, hq, hw⟩ := hw
  subst e1
  cases r
  obtain ⟨its, rv, pl, hz⟩ := I.list hq
  have hl' : s.heap.IsList a its.toArray := by
    obtain ⟨o, m, e, c, d, q⟩ := pl
    exact ⟨o, e, c, m, q⟩
  cases rv with
  | cons r1 rr =>
    rename_i y ys
    have lz : ys.length + 1 ≤ sizeLine := by
      have := rr.length
      rw [← this]
      exact hz
    rw [PyProof.Rows.assign_Tuple]
    refine wpAny_bind (wpAny_standAt ?_)
    unfold unpack
    rw [hn, hst]
    refine wpAny_bind (wpAny_holding (star_list hl' (I.ok.hd hc) (by simp) (by simpa using lz) fun h' tk hx => ?_))
    have I1 : Inv X pins σ H { s with heap := h', toks := tk } := I.kept hx
    have hf : H h'.objs.size = none := I1.hok.fresh (Nat.le_refl _)
    have I2 : Inv X pins σ (upd H h'.objs.size (.lst xs)) { s with heap := h'.push { cls := .type "list", data := .seq ys.toArray }, toks := tk } :=
      I1.laid (t' := tk) (fun b u e => Heap.get?_push_of_some _ e) (Nat.le_refl _) ⟨by have : xs.length + 1 ≤ sizeLine := hz; omega, ys, 0, rr, Heap.get?_push_size _ rfl⟩
    have e2 : ((y :: ys).toArray.toList.take 1 ++ [Value.ref h'.objs.size] ++ []) = [y, .ref h'.objs.size] := by simp
    have e3 : ((y :: ys).toArray.toList.drop 1).toArray = ys.toArray := by simp
    rw [e2, e3]
    exact h.run pins _ σ _ _ _ Q I2 (.cons r1 (.cons (show L2.RelV (V.ref h'.objs.size) (Value.ref h'.objs.size) from rfl) .nil)) (hw _ hf)
end
end StarR

/-! ### heaps -/
theorem same_upd {H : Hp} {p : Addr} {o : HO} (h : H p = none) : Same H (upd H p o) := fun b x e => by
  rw [upd_ne (ne_of_none e h)]
  exact e
def Fr (d l : Addr) (H H' : Hp) : Prop := ∀ b o, b ≠ d → b ≠ l → H b = some o → H' b = some o
theorem Fr.trans {d l : Addr} {H H1 H2 : Hp} (a : Fr d l H H1) (b : Fr d l H1 H2) : Fr d l H H2 := fun c o h1 h2 h => b c o h1 h2 (a c o h1 h2 h)
theorem Fr.refl {d l : Addr} {H : Hp} : Fr d l H H := fun _ _ _ _ h => h
theorem Fr.new {d l p : Addr} {H : Hp} {o : HO} (h : H p = none) : Fr d l H (upd H p o) := fun b x _ _ e => same_upd h b x e
theorem Fr.of {d l : Addr} {H H' : Hp} (h : Same H H') : Fr d l H H' := fun b x _ _ e => h b x e
theorem Fr.d {d l : Addr} {H : Hp} {o : HO} : Fr d l H (upd H d o) := fun b x h1 _ e => by rw [upd_ne h1]; exact e
theorem Fr.l {d l : Addr} {H : Hp} {o : HO} : Fr d l H (upd H l o) := fun b x _ h2 e => by rw [upd_ne h2]; exact e
def Deck (H : Hp) (d l : Addr) : Prop := d ≠ l ∧ ∃ (cs : List Int) (z : Int), H d = some (.lst [.ref l, .int z]) ∧ H l = some (.lst (cs.map V.int)) ∧ cs.length ≤ 63 ∧ 0 ≤ z ∧ z < 4294967296
theorem Deck.same {H H' : Hp} {d l : Addr} (D : Deck H d l) (s : Same H H') : Deck H' d l := by
  obtain ⟨ne, cs, z, hd, hl, r⟩ := D
  exact ⟨ne, cs, z, s _ _ hd, s _ _ hl, r⟩
theorem Deck.new {H : Hp} {d l p : Addr} {o : HO} (D : Deck H d l) (h : H p = none) : Deck (upd H p o) d l := D.same (same_upd h)
theorem Deck.ne_new {H : Hp} {d l p : Addr} (D : Deck H d l) (h : H p = none) : p ≠ d ∧ p ≠ l := by
  obtain ⟨ne, cs, z, hd, hl, r⟩ := D
  exact ⟨(ne_of_none hd h).symm, (ne_of_none hl h).symm⟩
theorem p29 : (0 : Int) < 2147483629 := by decide
theorem p47 : (0 : Int) < 2147483647 := by decide
theorem p87 : (0 : Int) < 2147483587 := by decide
theorem sl1 : 1 ≤ sizeLine := by decide
theorem sl2 : 2 ≤ sizeLine := by decide
theorem sl3 : 3 ≤ sizeLine := by decide
theorem sl4 : 4 ≤ sizeLine := by decide
theorem seqIx0 {α : Type} (x : α) (xs : List α) : seqIndex? 0 (x :: xs).length = some 0 := by
  refine (ixN_seq (n := (x :: xs).length) (i := 0) (j := 0) ?_).1
  unfold ixN
  rw [if_pos (by decide), if_pos (by rw [List.length_cons]; omega)]
  rfl
theorem dpInts {K : PySem.W.Frag} {H : Hp} : ∀ cs : List Int, DpAll K H (cs.map V.int) (cs.map PyData.int)
  | [] => .nil
  | c :: r => .cons (.int c) (dpInts r)
theorem shInts (ns : List Int) : SeqAt.shaped (.list (ns.map PyData.int)) = true := by
  unfold SeqAt.shaped
  rw [Bool.and_eq_true]
  refine ⟨?_, ?_⟩
  · simp only [PyData.canLay0, canLayAll_ints]
  · simp only [PyData.depth, depthAll_ints]
    decide
theorem at_pick {xs : List V} {j : Int} (h0 : 0 ≤ j) (h1 : j < xs.length) : ∃ x, atI xs j = some x ∧ x ∈ xs := by
  obtain ⟨k, rfl⟩ : ∃ k : Nat, j = (k : Int) := ⟨j.toNat, (Int.toNat_of_nonneg h0).symm⟩
  have hk : k < xs.length := by omega
  exact ⟨xs[k], atI_nat (List.getElem?_eq_getElem hk), List.getElem_mem hk⟩
theorem units65 {k : Nat} {A : Around} (r : Room k A) : A.units + 65 < cLine := by have := r.un; omega
def rLenK (K : PySem.W.Frag) : List V → Hp → VK → Prop := fun xs H Q => ∃ p ys, xs = [.ref p] ∧ (SqL K H p ys ∨ SqT K H p ys) ∧ Q (.int ys.length) H
def rTupK (K : PySem.W.Frag) : List V → Hp → VK → Prop := fun xs H Q => ∃ p ys, xs = [.ref p] ∧ ((SqL K H p ys ∧ ∀ l, H l = none → Q (.ref l) (upd H l (.tup ys))) ∨ (SqT K H p ys ∧ Q (.ref p) H))
def rLstK (K : PySem.W.Frag) : List V → Hp → VK → Prop := fun xs H Q => ∃ p ys, xs = [.ref p] ∧ (SqL K H p ys ∨ SqT K H p ys) ∧ ∀ l, H l = none → Q (.ref l) (upd H l (.lst ys))
/-- joining ways behind a test, behind an expression -/
def tCutT (t : TT) : TT := fun σ H Q => ∃ Mid : Bool → Hp → Prop, t σ H Mid ∧ ∀ b H1, Mid b H1 → Q b H1
theorem pt_cut {X : Cx} {e : Expr} {t : TT} (h : PT X e t) : PT X e (tCutT t) := ⟨fun pins s σ H Q I hw => by
  obtain ⟨Mid, h1, q⟩ := hw
  exact thn (h.run pins s σ H _ I h1) fun c s1 ⟨H1, I1, m⟩ => ⟨H1, I1, q _ _ m⟩⟩
def tCutE (t : TE) : TE := fun σ H Q => ∃ Mid : VK, t σ H Mid ∧ ∀ v H1, Mid v H1 → Q v H1
theorem pe_cut {X : Cx} {e : Expr} {t : TE} (h : PE X e t) : PE X e (tCutE t) := ⟨fun pins s σ H Q I hw => by
  obtain ⟨Mid, h1, q⟩ := hw
  exact thn (h.run pins s σ H _ I h1) fun u s1 ⟨v, H1, I1, r, m⟩ => ⟨v, H1, I1, r, q _ _ m⟩⟩

/-! ### data made by the law or the program: numbers, truths, texts, lists and tuples of these -/
mutual
inductive Tk (H : Hp) : V → PyData → Prop
  | bl (b : Bool) : Tk H (.bl b) (.bool b)
  | int (i : Int) : Tk H (.int i) (.int i)
  | str (x : Str) : Tk H (.str x) (.str x)
  | lst {a : Addr} {xs : List V} {ds : List PyData} : H a = some (.lst xs) → TkAll H xs ds → Tk H (.ref a) (.list ds)
  | tup {a : Addr} {xs : List V} {ds : List PyData} : H a = some (.tup xs) → TkAll H xs ds → Tk H (.ref a) (.tuple ds)
inductive TkAll (H : Hp) : List V → List PyData → Prop
  | nil : TkAll H [] []
  | cons {v : V} {vs : List V} {d : PyData} {ds : List PyData} : Tk H v d → TkAll H vs ds → TkAll H (v :: vs) (d :: ds)
end
theorem TkAll.length {H : Hp} : ∀ {vs : List V} {ds : List PyData}, TkAll H vs ds → vs.length = ds.length
  | _, _, .nil => rfl
  | _, _, .cons _ t => by rw [List.length_cons, List.length_cons, t.length]
mutual
theorem Tk.same {H H' : Hp} (s : Same H H') : ∀ {v : V} {d : PyData}, Tk H v d → Tk H' v d
  | _, _, .bl b => .bl b
  | _, _, .int i => .int i
  | _, _, .str x => .str x
  | _, _, .lst h t => .lst (s _ _ h) (t.same s)
  | _, _, .tup h t => .tup (s _ _ h) (t.same s)
theorem TkAll.same {H H' : Hp} (s : Same H H') : ∀ {vs : List V} {ds : List PyData}, TkAll H vs ds → TkAll H' vs ds
  | _, _, .nil => .nil
  | _, _, .cons h t => .cons (h.same s) (t.same s)
end
theorem TkAll.get {H : Hp} : ∀ {xs : List V} {ds : List PyData} {j : Nat} {x : V}, TkAll H xs ds → xs[j]? = some x → ∃ d, ds[j]? = some d ∧ Tk H x d
  | _, _, _, _, .nil, h => by simp at h
  | _, _, 0, _, .cons (d := d) a _, h => by
    cases (Option.some.inj h)
    exact ⟨d, rfl, a⟩
  | _, _, j + 1, _, .cons _ t, h => t.get h
theorem TkAll.append {H : Hp} : ∀ {xs ys : List V} {ds es : List PyData}, TkAll H xs ds → TkAll H ys es → TkAll H (xs ++ ys) (ds ++ es)
  | _, _, _, _, .nil, t => t
  | _, _, _, _, .cons a r, t => .cons a (r.append t)
theorem TkAll.ints {H : Hp} : ∀ ns : List Int, TkAll H (ns.map V.int) (ns.map PyData.int)
  | [] => .nil
  | n :: r => .cons (.int n) (TkAll.ints r)
theorem Tk.int_inv {H : Hp} {v : V} {i : Int} (h : Tk H v (.int i)) : v = .int i := by cases h; rfl
theorem Tk.tup_inv {H : Hp} {v : V} {ds : List PyData} (h : Tk H v (.tuple ds)) : ∃ a xs, v = .ref a ∧ H a = some (.tup xs) ∧ TkAll H xs ds := by
  cases h with
  | tup h t => exact ⟨_, _, rfl, h, t⟩
theorem Tk.lst_inv {H : Hp} {v : V} {ds : List PyData} (h : Tk H v (.list ds)) : ∃ a xs, v = .ref a ∧ H a = some (.lst xs) ∧ TkAll H xs ds := by
  cases h with
  | lst h t => exact ⟨_, _, rfl, h, t⟩
theorem TkAll.int_inv {H : Hp} : ∀ {vs : List V} {ns : List Int}, TkAll H vs (ns.map PyData.int) → vs = ns.map V.int
  | _, [], .nil => rfl
  | _, n :: r, .cons h t => by rw [List.map_cons, h.int_inv, t.int_inv]
/-- heaps without one place -/
def hd1 (p : Addr) (H : Hp) : Hp := fun b => if b = p then none else H b
theorem hd1_le {p : Addr} {H : Hp} : Same (hd1 p H) H := fun b o e => by
  unfold hd1 at e
  by_cases h : b = p
  · rw [if_pos h] at e; cases e
  · rw [if_neg h] at e; exact e
theorem hd1_same {p : Addr} {H H' : Hp} (s : Same H H') : Same (hd1 p H) (hd1 p H') := fun b o e => by
  unfold hd1 at e ⊢
  by_cases h : b = p
  · rw [if_pos h] at e; cases e
  · rw [if_neg h] at e ⊢; exact s _ _ e
theorem hd1_upd {p : Addr} {H : Hp} {o : HO} : Same (hd1 p H) (hd1 p (upd H p o)) := fun b x e => by
  unfold hd1 at e ⊢
  by_cases h : b = p
  · rw [if_pos h] at e; cases e
  · rw [if_neg h] at e ⊢; rw [upd_ne h]; exact e
theorem hd1_at {p b : Addr} {H : Hp} (h : b ≠ p) : hd1 p H b = H b := if_neg h
theorem hd1_of {p : Addr} {H H' : Hp} (s : Same H H') (n : H p = none) : Same H (hd1 p H') := fun b o e => by
  rw [hd1_at (ne_of_none e n)]
  exact s _ _ e
theorem same_of_hd1 {p : Addr} {H H' : Hp} {o : HO} (s : Same H (hd1 p H')) : Same H (upd H' p o) := fun b x e => by
  have z := s b x e
  unfold hd1 at z
  by_cases h : b = p
  · rw [if_pos h] at z; cases z
  · rw [if_neg h] at z; rw [upd_ne h]; exact z

/-! ### tables and gates -/
def tabOf (bs : List Bool) : Str := ⟨(bs.map fun b => if b = true then 49 else 48).toArray⟩
def plc (ws : List Int) : Int := ws.foldl (fun p w => 2 * p + w) 0
def gateM (bs : List Bool) (ws : List Int) : Int := if bs.getD (plc ws).toNat false = true then 1 else 0
theorem plc_snoc (ws : List Int) (w : Int) : plc (ws ++ [w]) = 2 * plc ws + w := by
  unfold plc
  rw [List.foldl_append]
  rfl
theorem plc_take {ws : List Int} {i : Nat} {u : Int} (h : ws[i]? = some u) : plc (ws.take (i + 1)) = 2 * plc (ws.take i) + u := by
  rw [List.take_add_one, h]
  exact plc_snoc _ _
theorem plc_bd : ∀ (n : Nat) (ws : List Int), ws.length = n → (∀ w ∈ ws, w = 0 ∨ w = 1) → 0 ≤ plc ws ∧ plc ws < 2 ^ n := by
  intro n
  induction n with
  | zero =>
    intro ws h _
    cases List.eq_nil_of_length_eq_zero h
    decide
  | succ n ih =>
    intro ws h hw
    have hne : ws ≠ [] := fun z => by rw [z] at h; cases h
    obtain ⟨r, x, rfl⟩ : ∃ r x, ws = r ++ [x] := ⟨ws.dropLast, ws.getLast hne, (List.dropLast_concat_getLast hne).symm⟩
    have hr := ih r (by rw [List.length_append] at h; simpa using h) fun w h' => hw w (List.mem_append_left _ h')
    have hx := hw x (by simp)
    rw [plc_snoc, Int.pow_succ]
    omega
theorem gate01 (bs : List Bool) (ws : List Int) : gateM bs ws = 0 ∨ gateM bs ws = 1 := by
  unfold gateM
  split
  · exact .inr rfl
  · exact .inl rfl
theorem int_sign (b : Bool) : PySem.intText? ⟨#[if b = true then 49 else 48]⟩ = some (if b = true then 1 else 0) := by
  cases b <;> decide +kernel
def spGate (K : PySem.W.Frag) : Sp := fun vs H Q _ => ∃ (bs : List Bool) (la : Addr) (ws : List Int), vs = [.str (tabOf bs), .ref la] ∧ SqL K H la (ws.map V.int) ∧ (∀ w ∈ ws, w = 0 ∨ w = 1) ∧ bs.length = 2 ^ ws.length ∧ ws.length ≤ 3 ∧ Q (.int (gateM bs ws)) H
theorem gate_read {bs : List Bool} {ws : List Int} (hw : ∀ w ∈ ws, w = 0 ∨ w = 1) (hb : bs.length = 2 ^ ws.length) (h3 : ws.length ≤ 3) : ∃ b : Bool, 0 ≤ plc ws ∧ plc ws < 2 ^ 63 ∧ plc ws < (tabOf bs).length ∧ (tabOf bs).cps[(plc ws).toNat]? = some (if b = true then 49 else 48) ∧ gateM bs ws = if b = true then 1 else 0 := by
  obtain ⟨p0, p1⟩ := plc_bd _ ws rfl hw
  have p8 : plc ws < 8 := by
    have : (2 : Int) ^ ws.length ≤ 8 := by
      have : ws.length = 0 ∨ ws.length = 1 ∨ ws.length = 2 ∨ ws.length = 3 := by omega
      rcases this with h | h | h | h <;> rw [h] <;> decide
    omega
  have hlt : (plc ws).toNat < bs.length := by
    have : ((2 ^ ws.length : Nat) : Int) = (2 : Int) ^ ws.length := by simp
    omega
  refine ⟨bs[(plc ws).toNat], p0, by omega, ?_, ?_, ?_⟩
  · have : (tabOf bs).length = bs.length := by simp [tabOf, Str.length]
    rw [this]
    omega
  · simp [tabOf, List.getElem?_eq_getElem hlt]
  · unfold gateM
    rw [List.getD_eq_getElem?_getD, List.getElem?_eq_getElem hlt]
    rfl

/-! ### walks -/
theorem gx_tup {α : Type} {K : PySem.W.Frag} {a : Addr} {xs : List V} {g : TG} {tt : TT} {te : TE} {vs : List Nat} {σ0 : L2.St} {End : α → Hp → Prop} {Yd : α → V → Hp → (α → Hp → Prop) → Prop} {a0 : α} {H0 : Hp} (Pv : Nat → α → Hp → Prop) (h0 : Pv 0 a0 H0)
    (hl : ∀ i c H, i ≤ xs.length → Pv i c H → SqT K H a xs)
    (hs : ∀ i x c H, xs[i]? = some x → Pv i c H → g x σ0 H fun σ2 H2 => wipe σ2 vs = σ0 ∧ tt σ2 H2 fun b H3 => if b = true then te σ2 H3 fun y H4 => Yd c y H4 (Pv (i + 1)) else Pv (i + 1) c H3) (hd : ∀ c H, Pv xs.length c H → End c H) :
    ∃ W : Nat → Nat → α → Hp → Prop, (∃ m, W 0 m a0 H0) ∧ tGx (Itt K a) g tt te σ0 vs End Yd W := by
  refine ⟨fun i m c H => m = xs.length - i ∧ i ≤ xs.length ∧ Pv i c H, ⟨xs.length, rfl, Nat.zero_le _, h0⟩, ?_⟩
  rintro i m c H ⟨rfl, hi, p⟩
  by_cases hlt : i < xs.length
  · have hx : xs[i]? = some xs[i] := List.getElem?_eq_getElem hlt
    refine .inr ⟨⟨xs, xs[i], hl i c H hi p, hx⟩, Pv (i + 1), fun c' H' p' => ⟨xs.length - (i + 1), by omega, rfl, hlt, p'⟩, fun x H' y => ?_⟩
    obtain ⟨rfl, y⟩ := y
    exact hs i x c _ (y xs (hl i c _ hi p)) p
  · have e : i = xs.length := by omega
    subst e
    exact .inl ⟨⟨xs, hl _ c H hi p, Nat.le_refl _⟩, hd c H p⟩
theorem lc_zipT {K : PySem.W.Frag} {a b : Addr} {xs ys : List V} {g : TG} {tt : TT} {te : TE} {vs : List Nat} {σ : L2.St} {H1 : Hp} {D : Addr} {Qd : Hp → Prop} (el : xs.length = ys.length) (Pv : Nat → Hp → Prop) (h0 : Pv 0 (upd H1 D (.lst []))) (hl : ∀ i H, i ≤ xs.length → Pv i H → SqT K H a xs ∧ SqT K H b ys)
    (hs : ∀ i x y T H, xs[i]? = some x → ys[i]? = some y → H T = none → Pv i H → g (.ref T) (wipe σ vs) (upd H T (.tup [x, y])) fun σ2 H2 => wipe σ2 vs = wipe σ vs ∧ tt σ2 H2 fun b H3 =>
      if b = true then te σ2 H3 fun y H4 => ∃ acc, H4 D = some (.lst acc) ∧ acc.length < sizeLine ∧ Pv (i + 1) (upd H4 D (.lst (acc ++ [y]))) else Pv (i + 1) H3) (hd : ∀ H, Pv xs.length H → Qd H) :
    ∃ W : Nat → Nat → Hp → Prop, (∃ m, W 0 m (upd H1 D (.lst []))) ∧ ∀ i m H, W i m H →
      ((RZ.ItzT K a b).stop i H ∧ Qd H) ∨ ((RZ.ItzT K a b).go i H ∧ ∃ Nx : Hp → Prop, (∀ H', Nx H' → ∃ m', m' < m ∧ W (i + 1) m' H') ∧ ∀ x H', (RZ.ItzT K a b).yld i H x H' → g x (wipe σ vs) H' fun σ2 H2 => wipe σ2 vs = wipe σ vs ∧ tt σ2 H2 fun b H3 =>
        if b = true then te σ2 H3 fun y H4 => ∃ acc, H4 D = some (.lst acc) ∧ acc.length < sizeLine ∧ Nx (upd H4 D (.lst (acc ++ [y]))) else Nx H3) := by
  refine ⟨fun i m H => m = xs.length - i ∧ i ≤ xs.length ∧ Pv i H, ⟨xs.length, by simp, Nat.zero_le _, h0⟩, ?_⟩
  rintro i m H ⟨rfl, hi, p⟩
  obtain ⟨qx, qy⟩ := hl i H hi p
  by_cases hlt : i < xs.length
  · have hx : xs[i]? = some xs[i] := List.getElem?_eq_getElem hlt
    have hy : ys[i]? = some (ys[i]'(by omega)) := List.getElem?_eq_getElem _
    refine .inr ⟨⟨xs, ys, _, _, qx, qy, hx, hy⟩, Pv (i + 1), fun H' p' => ⟨xs.length - (i + 1), by omega, rfl, hlt, p'⟩, fun x H' y => ?_⟩
    obtain ⟨T, x1, y1, rfl, nT, rfl, e1, e2⟩ := y
    exact hs i x1 y1 T H (e1 xs qx) (e2 ys qy) nT p
  · have e : i = xs.length := by omega
    subst e
    exact .inl ⟨⟨xs, ys, qx, qy, .inl (Nat.le_refl _)⟩, hd H p⟩

/-! ### enumerate(tuple) -/
theorem draws_tuple {P : Program} {w : World} {A : Around} (hA : A.handled = none) (it a : Addr) (items : Array Value) (hne : a ≠ it) : Draws P w A it [it, a] items.size (fun i v => items[i]? = some v) (fun i h => h.IsTupleIter it a i ∧ h.IsTuple a items) where
  live := fun _ _ st => let ⟨o, ho, _⟩ := st.1; ⟨o, ho⟩
  frame := fun _ _ _ st hk => ⟨st.1.at fun o e => hk it (by simp) o e, by
    obtain ⟨o, ho, r⟩ := st.2
    exact ⟨o, hk a (by simp) o ho, r⟩⟩
  item := fun i s Q E hi st hQ => by
    refine RZ.nextOf_tuple_item st.1 st.2 (x := items[i]) (by simp [hi]) fun h' hit' hs' => ?_
    refine hQ _ h' s.toks (by simp [hi]) ⟨hit', ?_⟩ hs'
    obtain ⟨o, ho, r⟩ := st.2
    exact ⟨o, hs'.extBut a o hne ho, r⟩
  done := fun s Q E st hE => RZ.nextOf_tuple_end hA st.1 st.2 (by simp) hE
open PySem.AutoSeq1 in
set_option maxHeartbeats 1000000 in
theorem meets_enumerate_newT (l : Addr) (items : Array Value) (o : Obj) (hc : o.cls = .type "tuple") (n : Nat) (hd : o.data = .seq items n) :
    Meets (Builtin.«enumerate.__new__» ⟨[.type "enumerate", .ref l], []⟩) (fun _ R s => s.heap.get? l = some o ∧
      R (.ok (.ret (.ref (s.heap.push { cls := .type "tuple_iterator", data := .fields #[.ref l, .int 0 0] }).objs.size)))
        { s with heap := (s.heap.push { cls := .type "tuple_iterator", data := .fields #[.ref l, .int 0 0] }).push { cls := .type "enumerate", data := .fields #[.none, .bool false, .ref s.heap.objs.size, rawInt 0, .none, .none] } }) :=
  .of_wp fun prog w A R s h => by
    obtain ⟨hp, g, d, tk, os⟩ := s; obtain ⟨hl, h⟩ := h
    have hsub := sub_enumerate
    have hL : Heap.IsTuple (Shared.heap ⟨hp, g, d, tk, os⟩) l items := ⟨_, hl, hc, n, hd⟩
    wp_walk using wpAny_loadPart' hl
    refine wpAny_stack_any fun st => wpAny_pure ?_
    split
    · rename_i c _ _ _ _ _
      cases (c == Value.type "enumerate")
      · wp_walk using wpAny_loadPart' hl, wpAny_pyIter_tuple hL
        exact ⟨_, rfl, h⟩
      · wp_walk using wpAny_loadPart' hl, wpAny_pyIter_tuple hL
        exact ⟨_, rfl, h⟩
    · wp_walk using wpAny_loadPart' hl, wpAny_pyIter_tuple hL
      exact ⟨_, rfl, h⟩
theorem call_enumerate_tuple {prog : Program} {w : World} {A : Around} {E : Value → Shared → Prop} {s : Shared} {l : Addr} {items : Array Value} {Q : Value → Shared → Prop} (hL : s.heap.IsTuple l items)
    (h : ∀ h', IsEnum h' (s.heap.objs.size + 1) s.heap.objs.size 0 .none → h'.IsTupleIter s.heap.objs.size l 0 → h'.objs.size = s.heap.objs.size + 2 →
      (∀ b o, s.heap.get? b = some o → h'.get? b = some o) → Q (.ref (s.heap.objs.size + 1)) { s with heap := h' }) :
    wpAny (model prog w) A (call (.type "enumerate") [.ref l]) Q E s := by
  obtain ⟨o, hl, hc, n, hd⟩ := hL
  refine callType_new F.called_enumerate (by decide) (F.typeCall_enumerate_1 _) (F.newCall_enumerate_1 _) (fun obj => F.args_object_init_2 obj _) F.entry_enumerate_new
    (meets_enumerate_newT l items o hc n hd) ⟨hl, ?_⟩
  have hz : (s.heap.push { cls := .type "tuple_iterator", data := .fields #[.ref l, .int 0 0] }).objs.size = s.heap.objs.size + 1 := Heap.size_push ..
  show _ ∧ _
  rw [hz]
  have he : IsEnum ((s.heap.push { cls := .type "tuple_iterator", data := .fields #[.ref l, .int 0 0] }).push
      { cls := .type "enumerate", data := .fields #[.none, .bool false, .ref s.heap.objs.size, rawInt 0, .none, .none] }) (s.heap.objs.size + 1) s.heap.objs.size 0 .none := by
    have := Heap.get?_push_size (s.heap.push { cls := .type "tuple_iterator", data := .fields #[.ref l, .int 0 0] })
      (o := { cls := .type "enumerate", data := .fields #[.none, .bool false, .ref s.heap.objs.size, rawInt 0, .none, .none] }) rfl
    rw [hz] at this; exact this
  refine ⟨⟨_, he, rfl⟩, h _ he ⟨_, Heap.get?_push_of_some _ (Heap.get?_push_size _ rfl), rfl, rfl⟩ (by rw [Heap.size_push, hz]) fun b o x => Heap.get?_push_of_some _ (Heap.get?_push_of_some _ x)⟩
/-- the tuple at a, each item in a new pair -/
def IteT (K : PySem.W.Frag) (a : Addr) : It :=
  ⟨fun i H => ∃ (xs : List V) (x : V), SqT K H a xs ∧ xs[i]? = some x, fun i H v H' => ∃ T x, v = .ref T ∧ H T = none ∧ H' = upd H T (.tup [.int (i : Nat), x]) ∧ ∀ xs, SqT K H a xs → xs[i]? = some x, fun i H => ∃ xs : List V, SqT K H a xs ∧ xs.length = i⟩
theorem turn_enumT {P : Program} {w : World} {K : PySem.W.Frag} {elts : List Expr} {kk : Nat} {tpos : Pos} (a e it : Addr) :
    Turn P w K (.Tuple elts kk tpos) (IteT K a) [e, it] e (fun i h => (∃ old, IsEnum h e it ((i : Nat) : Int) old) ∧ h.IsTupleIter it a i ∧ e ≠ it) where
  mem := by simp
  obj := fun i h st b hb => by
    obtain ⟨⟨old, he⟩, ⟨o, ho, hc, hd⟩, _⟩ := st
    have e' : b = e ∨ b = it := by simpa using hb
    rcases e' with z | z
    · rw [z]; exact ⟨_, he, fun v q => nomatch q⟩
    · rw [z]; exact ⟨o, ho, fun v q => by rw [hd] at q; cases q⟩
  keep := fun i h h' st k => let ⟨⟨old, he⟩, hi, hne⟩ := st; ⟨⟨old, k e (by simp) _ he⟩, hi.at fun o q => k it (by simp) o q, hne⟩
  item := by
    intro X hP hw hK hc i pins s σ H E I hf st hg
    subst hP hw hK
    obtain ⟨⟨old, he⟩, hit, hne⟩ := st
    obtain ⟨xs, x, hq, hx⟩ := hg
    obtain ⟨its, rv, p, hz⟩ := I.tuple hq
    obtain ⟨u, hu, ru⟩ := rv.get hx
    have hel : e < s.heap.objs.size := Heap.lt_size he
    have hil : it < s.heap.objs.size := by obtain ⟨_, q, _⟩ := hit; exact Heap.lt_size q
    have hpt : s.heap.IsTuple a its.toArray := p
    have hai : a ≠ it := fun z => by
      obtain ⟨o1, h1, c1, _⟩ := hpt
      obtain ⟨o2, h2, c2, _⟩ := hit
      rw [z, h2] at h1
      cases h1
      rw [c2] at c1
      exact absurd (Value.type.inj c1) (by decide)
    have hae : e ≠ a := fun z => by
      obtain ⟨o1, h1, c1, _⟩ := hpt
      rw [← z, he] at h1
      cases h1
      exact absurd (Value.type.inj c1) (by decide)
    have hil2 : i < its.toArray.size := by
      rw [List.size_toArray]
      exact (List.getElem?_eq_some_iff.mp hu).1
    refine wpAny_pyNext_enum_itemD (draws_tuple (A := X.A.in1) (I.ok.hd hc) it a its.toArray hai) he ⟨hit, hpt⟩ hil2 hne (by simp only [List.mem_cons, List.not_mem_nil, or_false, not_or]; exact ⟨hne, hae⟩) fun y h' tk hy ho hst hT hsz hk => ?_
    have hyu : y = u := by
      have : its[i]? = some y := by simpa using hy
      rw [hu] at this
      exact (Option.some.inj this).symm
    subst hyu
    have hit' := hst.1
    refine ⟨_, rfl, wpAny_letOwnedTupleGo_enum (s := { s with heap := h', toks := tk + 1 }) ho fun h'' he' sb => ?_⟩
    have hT2 : h''.get? s.heap.objs.size = some { cls := .type "tuple", data := .seq #[.int i tk, y] } := (sb.2 _ (Nat.ne_of_gt hel)).trans hT
    have new : ObjOk X.prog X.w (upd H s.heap.objs.size (.tup [.int (i : Nat), x])) h'' s.heap.objs.size (.tup [.int (i : Nat), x]) :=
      ⟨by show 2 ≤ sizeLine; decide, [.int i tk, y], .cons ⟨_, rfl⟩ (.cons ru .nil), ⟨_, hT2, rfl, _, rfl⟩⟩
    have I1 : Inv X pins σ (upd H s.heap.objs.size (.tup [.int (i : Nat), x])) { s with heap := h'', toks := tk + 1 } :=
      I.turnedNew (ch := [e, it]) (fun b ob hb q => (sb.2 b (fun z => hb (by simp [z]))).trans (hk b ob (fun z => hb (by simp [z])) (fun z => hb (by simp [z])) q)) hf (Nat.le_refl _) new
    refine ⟨.ref s.heap.objs.size, _, I1, rfl, ⟨_, x, rfl, I.hok.fresh (Nat.le_refl _), rfl, fun ys hy => by rw [I.tuple_inj hy hq]; exact hx⟩, ⟨⟨y, ?_⟩, hit'.at fun o q => (sb.2 it (Ne.symm hne)).trans q, hne⟩, fun b hb => ?_⟩
    · have e1 : ((i + 1 : Nat) : Int) = (i : Int) + 1 := by omega
      rw [e1]; exact he'
    · have hb' : b < s.heap.objs.size := by
        have e' : b = e ∨ b = it := by simpa using hb
        rcases e' with z | z
        · rw [z]; exact hel
        · rw [z]; exact hil
      rw [upd_ne (Nat.ne_of_lt hb')]
      exact (hf b hb).1
  done := by
    intro X hP hw hK hc i pins s σ H E I hf st hg
    subst hP hw hK
    obtain ⟨⟨old, he⟩, hit, hne⟩ := st
    obtain ⟨xs, hq, hx⟩ := hg
    obtain ⟨its, rv, p, hz⟩ := I.tuple hq
    obtain ⟨f0, f1, f2, f3, f4, f5⟩ := hf it (by simp)
    have hl := rv.length
    have hpt : s.heap.IsTuple a its.toArray := p
    have hai : a ≠ it := fun z => by
      obtain ⟨o1, h1, c1, _⟩ := hpt
      obtain ⟨o2, h2, c2, _⟩ := hit
      rw [z, h2] at h1
      cases h1
      rw [c2] at c1
      exact absurd (Value.type.inj c1) (by decide)
    have hn : i = its.toArray.size := by rw [List.size_toArray]; omega
    exact wpAny_pyNext_enum_endD (draws_tuple (A := X.A.in1) (I.ok.hd hc) it a its.toArray hai) he (by rw [← hn]; exact ⟨hit, hpt⟩) fun h' eb => ⟨rfl, I.turned (t' := s.toks) (fun b o hb q => eb b o hb q) f0 f1 f3 f4 f5⟩
  self := fun A i s Q E st h => let ⟨⟨_, he⟩, _⟩ := st; wpAny_pyIter_enum he h
def iEnumT (K : PySem.W.Frag) (ta : TA) : TI := fun σ H R => ta σ H fun vs H1 => ∃ a xs, vs = [.ref a] ∧ SqT K H1 a xs ∧ R (IteT K a) H1
theorem pi_enumT {X : Cx} {e : Expr} {ta : TA} {p pos tpos : Pos} {elts : List Expr} {kk : Nat} (hg : Gl X "enumerate") (hm : X.mg "enumerate" = none) (ha : PA X [e] ta) (hs : starEach [e] X.env = [(false, eval e X.env)] := by rfl) :
    PI X (.Tuple elts kk tpos) (.Call (.Name "enumerate" p) [e] [] pos) (iEnumT X.K ta) := by
  refine ⟨fun pins s σ H R I h => ?_⟩
  refine Call_ (ld_blt I hg hm boot_enumerate (PyProof.Rows.callWith_type1 (thn (ha.run pos pins s σ H _ I h) fun us s1 ⟨vs, H1, I1, r1, q1⟩ => ?_) hs rfl))
  obtain ⟨a, xs, ex, hq, q⟩ := q1
  subst ex
  cases r1 with
  | cons r rr =>
    cases rr
    cases r
    obtain ⟨its, rv, p', hz⟩ := I1.tuple hq
    refine call_enumerate_tuple p' fun h' he hit hsz hk => wpAny_pyIter_enum he ?_
    have I2 : Inv X pins σ H1 { s1 with heap := h' } := I1.kept (t' := s1.toks) hk
    refine ⟨s1.heap.objs.size + 1, [s1.heap.objs.size + 1, s1.heap.objs.size], _, _, H1, rfl, I2, turn_enumT a (s1.heap.objs.size + 1) s1.heap.objs.size, ⟨⟨.none, he⟩, hit, Nat.succ_ne_self _⟩, fun b hb => ?_, q⟩
    have e' : b = s1.heap.objs.size + 1 ∨ b = s1.heap.objs.size := by simpa using hb
    have hle : s1.heap.objs.size ≤ b := by
      rcases e' with z | z
      · rw [z]; exact Nat.le_add_right _ _
      · rw [z]; exact Nat.le_refl _
    exact I1.fpOk hle (I1.hok.fresh hle)
theorem gx_enum {α : Type} {K : PySem.W.Frag} {a : Addr} {xs : List V} {g : TG} {tt : TT} {te : TE} {vs : List Nat} {σ0 : L2.St} {End : α → Hp → Prop} {Yd : α → V → Hp → (α → Hp → Prop) → Prop} {a0 : α} {H0 : Hp} (Pv : Nat → α → Hp → Prop) (h0 : Pv 0 a0 H0)
    (hl : ∀ i c H, i ≤ xs.length → Pv i c H → SqT K H a xs)
    (hs : ∀ i x T c H, xs[i]? = some x → H T = none → Pv i c H → g (.ref T) σ0 (upd H T (.tup [.int (i : Nat), x])) fun σ2 H2 => wipe σ2 vs = σ0 ∧ tt σ2 H2 fun b H3 => if b = true then te σ2 H3 fun y H4 => Yd c y H4 (Pv (i + 1)) else Pv (i + 1) c H3) (hd : ∀ c H, Pv xs.length c H → End c H) :
    ∃ W : Nat → Nat → α → Hp → Prop, (∃ m, W 0 m a0 H0) ∧ tGx (IteT K a) g tt te σ0 vs End Yd W := by
  refine ⟨fun i m c H => m = xs.length - i ∧ i ≤ xs.length ∧ Pv i c H, ⟨xs.length, rfl, Nat.zero_le _, h0⟩, ?_⟩
  rintro i m c H ⟨rfl, hi, p⟩
  by_cases hlt : i < xs.length
  · have hx : xs[i]? = some xs[i] := List.getElem?_eq_getElem hlt
    refine .inr ⟨⟨xs, xs[i], hl i c H hi p, hx⟩, Pv (i + 1), fun c' H' p' => ⟨xs.length - (i + 1), by omega, rfl, hlt, p'⟩, fun x H' y => ?_⟩
    obtain ⟨T, x1, rfl, nT, rfl, e1⟩ := y
    exact hs i x1 T c H (e1 xs (hl i c _ hi p)) nT p
  · have e : i = xs.length := by omega
    subst e
    exact .inl ⟨⟨xs, hl _ c H hi p, rfl⟩, hd c H p⟩
theorem gx_str {α : Type} {z : Str} {g : TG} {tt : TT} {te : TE} {vs : List Nat} {σ0 : L2.St} {End : α → Hp → Prop} {Yd : α → V → Hp → (α → Hp → Prop) → Prop} {a0 : α} {H0 : Hp} (Pv : Nat → α → Hp → Prop) (h0 : Pv 0 a0 H0)
    (hs : ∀ i x c H, z.cps[i]? = some x → Pv i c H → g (.str ⟨#[x]⟩) σ0 H fun σ2 H2 => wipe σ2 vs = σ0 ∧ tt σ2 H2 fun b H3 => if b = true then te σ2 H3 fun y H4 => Yd c y H4 (Pv (i + 1)) else Pv (i + 1) c H3) (hd : ∀ c H, Pv z.cps.size c H → End c H) :
    ∃ W : Nat → Nat → α → Hp → Prop, (∃ m, W 0 m a0 H0) ∧ tGx (Its z) g tt te σ0 vs End Yd W := by
  refine ⟨fun i m c H => m = z.cps.size - i ∧ i ≤ z.cps.size ∧ Pv i c H, ⟨z.cps.size, rfl, Nat.zero_le _, h0⟩, ?_⟩
  rintro i m c H ⟨rfl, hi, p⟩
  by_cases hlt : i < z.cps.size
  · refine .inr ⟨hlt, Pv (i + 1), fun c' H' p' => ⟨z.cps.size - (i + 1), by omega, rfl, hlt, p'⟩, fun x H' y => ?_⟩
    obtain ⟨rfl, ch, hc, rfl⟩ := y
    exact hs i ch c _ hc p
  · have e : i = z.cps.size := by omega
    subst e
    exact .inl ⟨Nat.le_refl _, hd c H p⟩

/-! ### nets, and the words of nets -/
abbrev Gt := List Bool × List Nat
def gD (g : Gt) : PyData := .tuple [.str (tabOf g.1), .tuple ((g.2.map Int.ofNat).map PyData.int)]
def netD (many : Int) (gs : List Gt) : PyData := .tuple [.int many, .tuple (gs.map gD)]
def rowD (r : List Int) : PyData := .tuple (r.map PyData.int)
def chD (a b : List Int) : PyData := .tuple [rowD a, rowD b]
def GtOk (n : Nat) (g : Gt) : Prop := g.1.length = 2 ^ g.2.length ∧ 1 ≤ g.2.length ∧ g.2.length ≤ 3 ∧ ∀ i ∈ g.2, i < n
def NetOk (n : Nat) (gs : List Gt) : Prop := ∀ k g, gs[k]? = some g → GtOk (n + k) g
def Row01 (r : List Int) : Prop := ∀ x ∈ r, x = 0 ∨ x = 1
mutual
theorem Tk.gr {H H' : Hp} (s : Gr H H') : ∀ {v : V} {d : PyData}, Tk H v d → Tk H' v d
  | _, _, .bl b => .bl b
  | _, _, .int i => .int i
  | _, _, .str x => .str x
  | _, _, .lst h t => .lst (s.lst h) (t.gr s)
  | _, _, .tup h t => .tup (s.tup h) (t.gr s)
theorem TkAll.gr {H H' : Hp} (s : Gr H H') : ∀ {vs : List V} {ds : List PyData}, TkAll H vs ds → TkAll H' vs ds
  | _, _, .nil => .nil
  | _, _, .cons h t => .cons (h.gr s) (t.gr s)
end
theorem Tk.row_inv {H : Hp} {v : V} {r : List Int} (h : Tk H v (rowD r)) : ∃ a, v = .ref a ∧ H a = some (.tup (r.map V.int)) := by
  obtain ⟨a, xs, rfl, ha, t⟩ := h.tup_inv
  rw [t.int_inv] at ha
  exact ⟨a, rfl, ha⟩
theorem Tk.ch_inv {H : Hp} {v : V} {a b : List Int} (h : Tk H v (chD a b)) : ∃ c ra rb, v = .ref c ∧ H c = some (.tup [.ref ra, .ref rb]) ∧ H ra = some (.tup (a.map V.int)) ∧ H rb = some (.tup (b.map V.int)) := by
  obtain ⟨c, xs, rfl, hc, t⟩ := h.tup_inv
  cases t with
  | cons h1 t => cases t with
    | cons h2 t =>
      cases t
      obtain ⟨ra, rfl, ha⟩ := h1.row_inv
      obtain ⟨rb, rfl, hb⟩ := h2.row_inv
      exact ⟨c, ra, rb, rfl, hc, ha, hb⟩
theorem Tk.net_inv {H : Hp} {v : V} {m : Int} {gs : List Gt} (h : Tk H v (netD m gs)) : ∃ n g xs, v = .ref n ∧ H n = some (.tup [.int m, .ref g]) ∧ H g = some (.tup xs) ∧ TkAll H xs (gs.map gD) := by
  obtain ⟨n, xs, rfl, hn, t⟩ := h.tup_inv
  cases t with
  | cons h1 t => cases t with
    | cons h2 t =>
      cases t
      cases h1
      obtain ⟨g, ys, rfl, hg, t2⟩ := h2.tup_inv
      exact ⟨n, g, ys, rfl, hn, hg, t2⟩
theorem Tk.gt_inv {H : Hp} {v : V} {g : Gt} (h : Tk H v (gD g)) : ∃ a i, v = .ref a ∧ H a = some (.tup [.str (tabOf g.1), .ref i]) ∧ H i = some (.tup ((g.2.map Int.ofNat).map V.int)) := by
  obtain ⟨a, xs, rfl, ha, t⟩ := h.tup_inv
  cases t with
  | cons h1 t => cases t with
    | cons h2 t =>
      cases t
      cases h1
      obtain ⟨i, rfl, hi⟩ := (show Tk H _ (rowD (g.2.map Int.ofNat)) from h2).row_inv
      exact ⟨a, i, rfl, ha, hi⟩
theorem TkAll.at {H : Hp} {α : Type} {f : α → PyData} {xs : List V} {ds : List α} (t : TkAll H xs (ds.map f)) {j : Nat} {v : V} (h : xs[j]? = some v) : ∃ x, ds[j]? = some x ∧ Tk H v (f x) := by
  obtain ⟨dx, hdx, tx⟩ := t.get h
  rw [List.getElem?_map] at hdx
  cases hz : ds[j]? with
  | none => rw [hz] at hdx; cases hdx
  | some x =>
    rw [hz] at hdx
    cases Option.some.inj hdx
    exact ⟨x, rfl, tx⟩
theorem TkAll.at' {H : Hp} {α : Type} {f : α → PyData} {xs : List V} {ds : List α} (t : TkAll H xs (ds.map f)) {j : Nat} {x : α} (h : ds[j]? = some x) : ∃ v, xs[j]? = some v ∧ Tk H v (f x) := by
  have hl := t.length
  rw [List.length_map] at hl
  have hj := (List.getElem?_eq_some_iff.mp h).1
  obtain ⟨y, hy, ty⟩ := t.at (List.getElem?_eq_getElem (l := xs) (i := j) (by omega))
  cases Option.some.inj (h.symm.trans hy)
  exact ⟨_, List.getElem?_eq_getElem _, ty⟩
theorem grow_upd {H H' : Hp} {p : Addr} {o : HO} (g : Gr H H') (n : H' p = none) : Gr H (upd H' p o) := g.trans (Gr.none n)
/-- no table, no older list: only the list at D is written -/
def GrD (D : Addr) (H H' : Hp) : Prop := Gr H (hd1 D H')
theorem GrD.gr {D : Addr} {H H' : Hp} (g : GrD D H H') : Gr H H' := g.trans (Gr.of hd1_le)
theorem TabG_hd1 {D P : Addr} {H : Hp} (h : GxR.TabG H P) (n : D ≠ P) : GxR.TabG (hd1 D H) P := by
  obtain ⟨ps, e, t⟩ := h
  exact ⟨ps, by rw [hd1_at (Ne.symm n)]; exact e, t⟩
theorem GrD.new {D : Addr} {H : Hp} {o : HO} (n : H D = none) : GrD D H (upd H D o) := Gr.of (hd1_of (same_upd n) n)
theorem hd1_gr {D : Addr} {H H' : Hp} (g : Gr H H') (hD : ∀ P, GxR.TabG H P → D ≠ P) : Gr (hd1 D H) (hd1 D H') := by
  refine ⟨fun b o n e => ?_, fun b t => ?_⟩
  · have hb : b ≠ D := fun z => by
      unfold hd1 at e
      rw [if_pos z] at e; cases e
    rw [hd1_at hb] at e ⊢
    exact g.1 b o n e
  · obtain ⟨ps, e, t⟩ := t
    have e' := hd1_le _ _ e
    exact TabG_hd1 (g.2 b ⟨ps, e', t⟩) (hD b ⟨ps, e', t⟩)
theorem GrD.then {D : Addr} {H H1 H2 : Hp} {xs : List V} (a : GrD D H H1) (hD : H1 D = some (.lst xs)) (b : Gr H1 H2) : GrD D H H2 := a.trans (hd1_gr b fun P ⟨ps, e, _⟩ z => by
  rw [← z, hD] at e
  cases e)
theorem GrD.set {D : Addr} {H H1 : Hp} {o : HO} (a : GrD D H H1) : GrD D H (upd H1 D o) := a.trans (Gr.of hd1_upd)

section
variable {P : Program} {w : World} {K : PySem.W.Frag} {mg : Str → Option Value} {base : Heap}
/-! ### pairs of words -/
def WordAt (H : Hp) (p : Addr) (a b : Int) (c : Bool) : Prop := H p = some (.tup [.int a, .int b, .bl c])
def pairsM (f l : Int) (c : Bool) : List (Int × Int) := if c = true then [(0, 0), (0, 1), (1, 0), (1, 1)] else if f = l then [(f, f)] else if f = 0 then [(0, 0), (0, 1), (1, 1)] else [(0, 0), (1, 0), (1, 1)]
def PairAt (H : Hp) (k : Addr × Int × Int) : Prop := H k.1 = some (.tup [.int k.2.1, .int k.2.2])
def PairsAt (H : Hp) (r : Addr) (ps : List (Int × Int)) : Prop := ∃ ks : List (Addr × Int × Int), H r = some (.tup (ks.map fun k => V.ref k.1)) ∧ (∀ k ∈ ks, PairAt H k) ∧ ks.map (·.2) = ps
theorem PairsAt.same {H H' : Hp} {r : Addr} {ps : List (Int × Int)} (h : PairsAt H r ps) (s : Same H H') : PairsAt H' r ps := by
  obtain ⟨ks, h1, h2, h3⟩ := h
  exact ⟨ks, s _ _ h1, fun k hk => s _ _ (h2 k hk), h3⟩
theorem sorted_one {α : Type} (c : α → Int) : ∀ (T M : List α), T.Pairwise (fun x y => c x < c y) → M.Nodup → M.Pairwise (fun x y => c x ≤ c y) → (∀ x, x ∈ M ↔ x ∈ T) → M = T
  | [], M, _, _, _, hm => by
    cases M with
    | nil => rfl
    | cons m r => cases (hm m).mp (List.mem_cons_self ..)
  | t :: T, M, hT, hn, hp, hm => by
    cases M with
    | nil => cases (hm t).mpr (List.mem_cons_self ..)
    | cons m r =>
      have hT' := List.pairwise_cons.mp hT
      have hn' := List.nodup_cons.mp hn
      have hp' := List.pairwise_cons.mp hp
      have e : m = t := by
        rcases List.mem_cons.mp ((hm m).mp (List.mem_cons_self ..)) with h | h
        · exact h
        · have h1 := hT'.1 m h
          rcases List.mem_cons.mp ((hm t).mpr (List.mem_cons_self ..)) with h2 | h2
          · exact h2.symm
          · have h3 := hp'.1 t h2
            omega
      subst e
      rw [sorted_one c T r hT'.2 hn'.2 hp'.2 fun x => ⟨fun h => ?_, fun h => ?_⟩]
      · rcases List.mem_cons.mp ((hm x).mp (List.mem_cons_of_mem _ h)) with h2 | h2
        · subst h2
          exact absurd h hn'.1
        · exact h2
      · rcases List.mem_cons.mp ((hm x).mpr (List.mem_cons_of_mem _ h)) with h2 | h2
        · subst h2
          have := hT'.1 x h
          omega
        · exact h2
def sp_pairs_of (K : PySem.W.Frag) : Sp := fun vs H Q _ => ∃ (wd : Addr) (f l : Int) (c : Bool), vs = [.ref wd] ∧ WordAt H wd f l c ∧ (f = 0 ∨ f = 1) ∧ (l = 0 ∨ l = 1) ∧ ∀ r H', Same H H' → PairsAt H' r (pairsM f l c) → Q (.ref r) H'
theorem code2 (x y : Int) : TS.code 64 [x, y] = x * 64 + y := code_pair x y
theorem pairs_sorted {f l : Int} (hf : f = 0 ∨ f = 1) (hl : l = 0 ∨ l = 1) {M : List (List Int)} (hn : M.Nodup) (hp : M.Pairwise fun x y => TS.code 64 x ≤ TS.code 64 y) (h1 : ∀ x ∈ M, x ∈ [[f, f], [f, l], [l, l]]) (h2 : ∀ x ∈ [[f, f], [f, l], [l, l]], x ∈ M) : M.map (fun x => (x.getD 0 0, x.getD 1 0)) = pairsM f l false := by
  have key : ∀ T : List (List Int), T.Pairwise (fun x y => TS.code 64 x < TS.code 64 y) → (∀ x ∈ [[f, f], [f, l], [l, l]], x ∈ T) → (∀ x ∈ T, x ∈ [[f, f], [f, l], [l, l]]) → M = T := fun T hT a b =>
    sorted_one (TS.code 64) T M hT hn hp fun x => ⟨fun h => a x (h1 x h), fun h => h2 x (b x h)⟩
  rcases hf with rfl | rfl <;> rcases hl with rfl | rfl
  · rw [key [[0, 0]] (by decide) (by decide) (by decide)]; rfl
  · rw [key [[0, 0], [0, 1], [1, 1]] (by decide) (by decide) (by decide)]; rfl
  · rw [key [[0, 0], [1, 0], [1, 1]] (by decide) (by decide) (by decide)]; rfl
  · rw [key [[1, 1]] (by decide) (by decide) (by decide)]; rfl
theorem ok_pairs_of (T : Tx K mg) : FnOk P w K mg base CX0 1 T.f_pairs_of T.fd_pairs_of ["word"] (sp_pairs_of K) := by
  refine T.F_pairs_of.ok sc_pairs_of (fun vs H Q E h => ?_) (fun cdv A outer s H vs Q E hr h => ?_)
  · obtain ⟨wd, f, l, c, rfl, _⟩ := h
    rfl
  · obtain ⟨wd, f, l, c, rfl, hw, hf, hl, q⟩ := h
    refine ⟨_, (pss_cons (ps_asg (pv 0) (pg_tup rfl (pgs_cons (pg_name (i := 1) sc_pairs_of.nd rfl (by first | exact .inl rfl | exact .inr rfl)) (pgs_cons (pg_name (i := 2) sc_pairs_of.nd rfl (by first | exact .inl rfl | exact .inr rfl)) (pgs_cons (pg_name (i := 3) sc_pairs_of.nd rfl (by first | exact .inl rfl | exact .inr rfl)) pgs_nil))))) (pss_cons (ps_if (pt_val (pv 3)) (pss_one (ps_ret (pe_tup (pa_cons (pe_tup (pa_cons pe_int (pa_cons pe_int pa_nil))) (pa_cons (pe_tup (pa_cons pe_int (pa_cons pe_int pa_nil))) (pa_cons (pe_tup (pa_cons pe_int (pa_cons pe_int pa_nil))) (pa_cons (pe_tup (pa_cons pe_int (pa_cons pe_int pa_nil))) pa_nil))))))) pss_nil) (pss_one (ps_ret (pe_callTy call_tuple_of (by rfl) T.m_tuple (by decide +kernel) (pa_cons (pe_callB (cr_sortedT rfl) (by rfl) T.m_sorted (by decide +kernel) (pa_cons (pe_callTy (cr_setOfT rfl hr.units) (by rfl) T.m_set (by decide +kernel) (pa_cons (pe_lst (pa_cons (pe_tup (pa_cons (pv 1) (pa_cons (pv 1) pa_nil))) (pa_cons (pe_tup (pa_cons (pv 1) (pa_cons (pv 2) pa_nil))) (pa_cons (pe_tup (pa_cons (pv 2) (pa_cons (pv 2) pa_nil))) pa_nil)))) pa_nil)) pa_nil)) pa_nil)))))), ?_⟩
    refine ⟨.ref wd, rfl, wd, _, rfl, SqT.of hw, rfl, _, _, rfl, _, _, rfl, _, _, rfl, rfl, ?_⟩
    refine ⟨.bl c, rfl, c, rfl, ?_⟩
    cases c with
    | true =>
      refine iteT ?_
      refine ⟨sl2, fun t1 n1 => ⟨sl2, fun t2 n2 => ⟨sl2, fun t3 n3 => ⟨sl2, fun t4 n4 => ⟨sl4, fun r nr => ?_⟩⟩⟩⟩⟩
      have e1 := same_upd (o := .tup [.int 0, .int 0]) n1
      have e2 := same_upd (o := .tup [.int 0, .int 1]) n2
      have e3 := same_upd (o := .tup [.int 1, .int 0]) n3
      have e4 := same_upd (o := .tup [.int 1, .int 1]) n4
      have e5 := same_upd (o := .tup [.ref t1, .ref t2, .ref t3, .ref t4]) nr
      refine q r _ ((((e1.trans e2).trans e3).trans e4).trans e5) ⟨[(t1, 0, 0), (t2, 0, 1), (t3, 1, 0), (t4, 1, 1)], upd_same, fun k hk => ?_, rfl⟩
      rcases List.mem_cons.mp hk with rfl | hk
      · exact e5 _ _ (e4 _ _ (e3 _ _ (e2 _ _ upd_same)))
      · rcases List.mem_cons.mp hk with rfl | hk
        · exact e5 _ _ (e4 _ _ (e3 _ _ upd_same))
        · rcases List.mem_cons.mp hk with rfl | hk
          · exact e5 _ _ (e4 _ _ upd_same)
          · rcases List.mem_cons.mp hk with rfl | hk
            · exact e5 _ _ upd_same
            · cases hk
    | false =>
      refine iteF ?_
      refine ⟨.int f, rfl, .int f, rfl, sl2, fun t1 n1 => ⟨.int f, rfl, .int l, rfl, sl2, fun t2 n2 => ⟨.int l, rfl, .int l, rfl, sl2, fun t3 n3 => ⟨sl3, fun li nli => ?_⟩⟩⟩⟩
      have e1 := same_upd (o := .tup [.int f, .int f]) n1
      have e2 := same_upd (o := .tup [.int f, .int l]) n2
      have e3 := same_upd (o := .tup [.int l, .int l]) n3
      have e4 := same_upd (o := .lst [.ref t1, .ref t2, .ref t3]) nli
      have eA := ((e1.trans e2).trans e3).trans e4
      have g1 := e4 _ _ (e3 _ _ (e2 _ _ (upd_same (H := H) (a := t1) (o := .tup [.int f, .int f]))))
      have g2 := e4 _ _ (e3 _ _ (upd_same (a := t2) (o := .tup [.int f, .int l])))
      have g3 := e4 _ _ (upd_same (a := t3) (o := .tup [.int l, .int l]))
      have g4 := upd_same (H := upd (upd (upd H t1 (.tup [.int f, .int f])) t2 (.tup [.int f, .int l])) t3 (.tup [.int l, .int l])) (a := li) (o := .lst [.ref t1, .ref t2, .ref t3])
      revert eA g1 g2 g3 g4
      generalize upd (upd (upd (upd H t1 (.tup [.int f, .int f])) t2 (.tup [.int f, .int l])) t3 (.tup [.int l, .int l])) li (.lst [.ref t1, .ref t2, .ref t3]) = H1
      intro eA g1 g2 g3 g4
      have gk : ∀ p ∈ ([(t1, [f, f]), (t2, [f, l]), (t3, [l, l])] : List (Addr × List Int)), H1 p.1 = some (.tup (p.2.map V.int)) ∧ p.2 ∈ [[f, f], [f, l], [l, l]] := fun p hp => by
        rcases List.mem_cons.mp hp with rfl | hp
        · exact ⟨g1, by simp⟩
        · rcases List.mem_cons.mp hp with rfl | hp
          · exact ⟨g2, by simp⟩
          · rcases List.mem_cons.mp hp with rfl | hp
            · exact ⟨g3, by simp⟩
            · cases hp
      refine ⟨li, [(t1, [f, f]), (t2, [f, l]), (t3, [l, l])], rfl, SqL.of g4, fun p hp => SqT.of (gk p hp).1, by show 3 < 64; decide, fun sa L nsa hL1 hL2 => ?_⟩
      have e5 := same_upd (o := SetTO P w sa L) nsa
      have b01 : ∀ x ∈ [[f, f], [f, l], [l, l]], x.length = 2 ∧ TS.Bd 64 x := by
        rcases hf with rfl | rfl <;> rcases hl with rfl | rfl <;> (unfold TS.Bd; decide)
      refine ⟨sa, L, 2, 64, rfl, upd_same, fun p hp => SqT.of (e5 _ _ (gk p (hL1 p hp)).1), by decide, fun p hp => b01 _ (gk p (hL1 p hp)).2, fun L' pl pm nd few so npl => ?_⟩
      have e6 := same_upd (o := .lst (L'.map fun q => V.ref q.1)) npl
      refine ⟨pl, _, rfl, .inl ⟨SqL.of upd_same, fun r nr => ?_⟩⟩
      have e7 := same_upd (o := .tup (L'.map fun q => V.ref q.1)) nr
      refine q r _ (eA.trans (e5.trans (e6.trans e7))) ⟨L'.map fun q => (q.1, q.2.getD 0 0, q.2.getD 1 0), ?_, fun k hk => ?_, ?_⟩
      · rw [upd_same, List.map_map]
        rfl
      · obtain ⟨p, hp, rfl⟩ := List.mem_map.mp hk
        have hp2 := gk p (hL1 p (pm.mem_iff.mp hp))
        have := e7 _ _ (e6 _ _ (e5 _ _ hp2.1))
        unfold PairAt
        rw [this]
        obtain ⟨pa, pb⟩ := p
        rcases List.mem_cons.mp hp2.2 with h | h
        · dsimp only at h ⊢; rw [h]; rfl
        · rcases List.mem_cons.mp h with h | h
          · dsimp only at h ⊢; rw [h]; rfl
          · rcases List.mem_cons.mp h with h | h
            · dsimp only at h ⊢; rw [h]; rfl
            · cases h
      · rw [List.map_map, ← pairs_sorted hf hl (M := L'.map (·.2)) nd (List.pairwise_map.mpr so) (fun x hx => ?_) (fun x hx => ?_), List.map_map]
        · rfl
        · obtain ⟨p, hp, rfl⟩ := List.mem_map.mp hx
          exact (gk p (hL1 p (pm.mem_iff.mp hp))).2
        · have : x ∈ L.map (·.2) := by
            rcases List.mem_cons.mp hx with rfl | hx
            · exact hL2 (t1, [f, f]) (by simp)
            · rcases List.mem_cons.mp hx with rfl | hx
              · exact hL2 (t2, [f, l]) (by simp)
              · rcases List.mem_cons.mp hx with rfl | hx
                · exact hL2 (t3, [l, l]) (by simp)
                · cases hx
          exact (pm.map (·.2)).mem_iff.mpr this

theorem ok_table_worth (T : Tx K mg) : FnOk P w K mg base CX0 1 T.f_table_worth T.fd_table_worth ["table", "worths"] (spGate K) := by
  refine T.F_table_worth.ok sc_table_worth (fun vs H Q E h => ?_) (fun cdv A outer s H vs Q E hr h => ?_)
  · obtain ⟨bs, la, ws, rfl, _⟩ := h
    rfl
  · obtain ⟨bs, la, ws, rfl, hS, hw, hb, h3, q⟩ := h
    obtain ⟨b, p0, p1, p2, p3, p4⟩ := gate_read hw hb h3
    refine ⟨_, (pss_cons (ps_set (i := 2) sc_table_worth.nd rfl (by first | exact .inl rfl | exact .inr rfl) pe_int) (pss_cons (ps_for PassesOwn.never rfl (pi_list (pv 1)) (pg_name (i := 3) sc_table_worth.nd rfl (by first | exact .inl rfl | exact .inr rfl)) (pss_one (ps_set (i := 2) sc_table_worth.nd rfl (by first | exact .inl rfl | exact .inr rfl) (pe_op op_add (pe_op op_mul pe_int (pv 2)) (pv 3))))) (pss_one (ps_ret (pe_callTy call_int_str (by rfl) T.m_int (by decide +kernel) (pa_cons (pe_item_str (pv 0) (pv 2) (fun _ _ => rfl)) pa_nil)))))), ?_⟩
    refine ⟨.ref la, rfl, la, rfl, ⟨_, hS⟩, for_list (K := K) (a := la) (xs := ws.map V.int) (fun i σ H' => ∃ y, σ = [some (.str (tabOf bs)), some (.ref la), some (.int (plc (ws.take i))), y] ∧ H' = H) ⟨none, rfl, rfl⟩ (fun i σ H' _ ⟨_, _, e⟩ => by rw [e]; exact hS) ?_ ?_⟩
    · rintro i x σ H' hx ⟨y, rfl, rfl⟩
      obtain ⟨u, hu, rfl⟩ : ∃ u, ws[i]? = some u ∧ x = V.int u := by
        rw [List.getElem?_map] at hx
        cases hz : ws[i]? with
        | none => rw [hz] at hx; cases hx
        | some u => rw [hz] at hx; exact ⟨u, rfl, (Option.some.inj hx).symm⟩
      refine ⟨.int (plc (ws.take i)), rfl, 2, _, rfl, rfl, .inl ⟨by decide, by decide⟩, .int u, rfl, _, _, rfl, rfl, some (.int u), ?_, rfl⟩
      rw [plc_take hu]
      rfl
    · rintro σ H' ⟨y, rfl, rfl⟩
      rw [List.length_map, List.take_length]
      refine ⟨.str (tabOf bs), rfl, .int (plc ws), rfl, _, _, _, rfl, rfl, p0, p1, p2, p3, _, _, rfl, int_sign b, (show 1 ≤ 640 by decide), ?_⟩
      rw [← p4]
      exact q

end
end Gk

set_option Elab.async false
set_option linter.all false
set_option maxRecDepth 100000
set_option maxHeartbeats 1000000
namespace Gk
open PySem PySem.Spec PyProof.Rows L2
section
variable {P : Program} {w : World} {K : PySem.W.Frag} {mg : Str → Option Value} {base : Heap}
/-! ### all choices -/
def stepC {α : Type} (cs : List (List α)) (os : List α) : List (List α) := cs.flatMap fun c => os.map fun o => c ++ [o]
def chs {α : Type} (ls : List (List α)) : List (List α) := ls.foldl stepC [[]]
theorem chs_snoc {α : Type} (ls : List (List α)) (os : List α) : chs (ls ++ [os]) = stepC (chs ls) os := by
  unfold chs
  rw [List.foldl_append]
  rfl
theorem stepC_snoc {α : Type} (cs : List (List α)) (c : List α) (os : List α) : stepC (cs ++ [c]) os = stepC cs os ++ os.map fun o => c ++ [o] := by
  unfold stepC
  rw [List.flatMap_append]
  simp
theorem stepC_len {α : Type} (cs : List (List α)) (os : List α) : (stepC cs os).length = cs.length * os.length := by
  induction cs with
  | nil => simp [stepC]
  | cons c r ih =>
    have : stepC (c :: r) os = (os.map fun o => c ++ [o]) ++ stepC r os := by simp [stepC]
    rw [this, List.length_append, List.length_map, ih, List.length_cons, Nat.succ_mul]
    omega
theorem chs_len {α : Type} (m : Nat) (hm : 1 ≤ m) : ∀ (n : Nat) (ls : List (List α)), ls.length = n → (∀ l ∈ ls, l.length ≤ m) → (chs ls).length ≤ m ^ n := by
  intro n
  induction n with
  | zero =>
    intro ls h _
    cases List.eq_nil_of_length_eq_zero h
    exact Nat.le_refl _
  | succ n ih =>
    intro ls h hl
    have hne : ls ≠ [] := fun z => by rw [z] at h; cases h
    obtain ⟨r, x, rfl⟩ : ∃ r x, ls = r ++ [x] := ⟨ls.dropLast, ls.getLast hne, (List.dropLast_concat_getLast hne).symm⟩
    have hr := ih r (by rw [List.length_append] at h; simpa using h) fun l h' => hl l (List.mem_append_left _ h')
    rw [chs_snoc, stepC_len, Nat.pow_succ]
    exact Nat.mul_le_mul hr (hl x (by simp))
theorem chs_width {α : Type} : ∀ (ls : List (List α)) (c : List α), c ∈ chs ls → c.length = ls.length := by
  have key : ∀ (n : Nat) (ls : List (List α)), ls.length = n → ∀ c ∈ chs ls, c.length = n := by
    intro n
    induction n with
    | zero =>
      intro ls h c hc
      cases List.eq_nil_of_length_eq_zero h
      cases List.mem_singleton.mp hc
      rfl
    | succ n ih =>
      intro ls h c hc
      have hne : ls ≠ [] := fun z => by rw [z] at h; cases h
      obtain ⟨r, x, rfl⟩ : ∃ r x, ls = r ++ [x] := ⟨ls.dropLast, ls.getLast hne, (List.dropLast_concat_getLast hne).symm⟩
      rw [chs_snoc] at hc
      obtain ⟨c0, h0, hc⟩ := List.mem_flatMap.mp hc
      obtain ⟨o, _, rfl⟩ := List.mem_map.mp hc
      rw [List.length_append, ih r (by rw [List.length_append] at h; simpa using h) c0 h0]
      rfl
  exact fun ls c h => key _ ls rfl c h
theorem chs_map {α β : Type} (f : α → β) : ∀ (n : Nat) (ls : List (List α)), ls.length = n → chs (ls.map (List.map f)) = (chs ls).map (List.map f) := by
  intro n
  induction n with
  | zero =>
    intro ls h
    cases List.eq_nil_of_length_eq_zero h
    rfl
  | succ n ih =>
    intro ls h
    have hne : ls ≠ [] := fun z => by rw [z] at h; cases h
    obtain ⟨r, x, rfl⟩ : ∃ r x, ls = r ++ [x] := ⟨ls.dropLast, ls.getLast hne, (List.dropLast_concat_getLast hne).symm⟩
    rw [List.map_append, List.map_singleton, chs_snoc, chs_snoc, ih r (by rw [List.length_append] at h; simpa using h)]
    unfold stepC
    rw [List.flatMap_map, List.map_flatMap]
    congr 1
    funext c
    simp
def sp_choices_of (K : PySem.W.Frag) : Sp := fun vs H Q _ => ∃ (la : Addr) (xs : List V) (os : List (List PyData)), vs = [.ref la] ∧ H la = some (.lst xs) ∧ TkAll H xs (os.map PyData.tuple) ∧ (os.length ≤ 3 ∨ os.length ≤ 8 ∧ ∀ o ∈ os, o.length ≤ 2) ∧ (∀ o ∈ os, o.length ≤ 8) ∧ ∀ r H', Same H H' → Tk H' (.ref r) (.tuple ((chs os).map PyData.tuple)) → Q (.ref r) H'
theorem ok_choices_of (T : Tx K mg) : FnOk P w K mg base CX0 1 T.f_choices_of T.fd_choices_of ["lists"] (sp_choices_of K) := by
  refine T.F_choices_of.ok sc_choices_of (fun vs H Q E h => ?_) (fun cdv A outer s H vs Q E hr h => ?_)
  · obtain ⟨la, xs, os, rfl, _⟩ := h
    rfl
  · obtain ⟨la, xs, os, rfl, hla, tk, o3, o8, q⟩ := h
    have big : ∀ i, i ≤ os.length → (chs (os.take i)).length ≤ 512 := fun i hi => by
      rcases o3 with o3 | ⟨o3, o2⟩
      · have h1 := chs_len 8 (by decide) i (os.take i) (by rw [List.length_take]; omega) fun l hl => o8 l (List.mem_of_mem_take hl)
        have h2 : 8 ^ i ≤ 8 ^ 3 := Nat.pow_le_pow_right (by decide) (by omega)
        omega
      · have h1 := chs_len 2 (by decide) i (os.take i) (by rw [List.length_take]; omega) fun l hl => o2 l (List.mem_of_mem_take hl)
        have h2 : 2 ^ i ≤ 2 ^ 8 := Nat.pow_le_pow_right (by decide) (by omega)
        omega
    refine ⟨_, (pss_cons (ps_set (i := 1) sc_choices_of.nd rfl (by first | exact .inl rfl | exact .inr rfl) (pe_lst (pa_cons (pe_tup pa_nil) pa_nil))) (pss_cons (ps_for PassesOwn.never rfl (pi_list (pv 0)) (pg_name (i := 2) sc_choices_of.nd rfl (by first | exact .inl rfl | exact .inr rfl)) (pss_one (ps_setLc2 (i := 1) (own := [("choice", 3), ("option", 4)]) (vs1 := [4]) (by rfl) sc_choices_of.nd rfl rfl (sw_true rfl rfl rfl (by decide +kernel)) (pi_list (pv 1)) (blkOk_by (own := [("choice", 3), ("option", 4)]) (N := ["lists", "choices", "options", "choice", "option"]) (sc := defScope s_choices_of) (by decide +kernel)) (by decide) (fun _ _ _ _ _ => (pg_name (i := 3) sc_choices_of.nd rfl (by first | exact .inl rfl | exact .inr rfl))) (fun _ _ _ _ _ => pts_nil) (fun _ _ _ _ _ => (show PI _ _ _ (iTup K _) from pi_tup (pv 2))) (fun _ _ _ _ _ => (pg_name (i := 4) sc_choices_of.nd rfl (by first | exact .inl rfl | exact .inr rfl))) (fun _ _ _ _ _ => pts_nil) (fun _ _ _ _ _ => (pe_op (show OpR _ _ (rCatA K) from op_catA) (pv 3) (pe_tup (pa_cons (pv 4) pa_nil))))))) (pss_one (ps_ret (pe_callTy call_tuple_of (by rfl) T.m_tuple (by decide +kernel) (pa_cons (pv 1) pa_nil)))))), ?_⟩
    refine ⟨Nat.zero_le _, fun t0 n0 => ⟨sl1, fun c0 nc0 => ?_⟩⟩
    refine ⟨.ref la, rfl, la, rfl, ⟨_, SqL.of (same_upd nc0 _ _ (same_upd n0 _ _ hla))⟩, for_list (K := K) (a := la) (xs := xs) (fun i σ H' => ∃ ca y2, σ = [some (.ref la), some (.ref ca), y2, none, none] ∧ Same H H' ∧ Tk H' (.ref ca) (.list ((chs (os.take i)).map PyData.tuple)))
      ⟨c0, none, rfl, (same_upd n0).trans (same_upd nc0), .lst upd_same (.cons (.tup (same_upd nc0 _ _ upd_same) .nil) .nil)⟩ (fun i σ H' _ ⟨_, _, _, z, _⟩ => SqL.of (z _ _ hla)) ?_ ?_⟩
    · rintro i x σ H1 hx ⟨ca, y2, rfl, s1, tc⟩
      obtain ⟨dx, hdx, tx⟩ := tk.get hx
      obtain ⟨op, hop, rfl⟩ : ∃ op, os[i]? = some op ∧ dx = .tuple op := by
        rw [List.getElem?_map] at hdx
        cases hz : os[i]? with
        | none => rw [hz] at hdx; cases hdx
        | some op => rw [hz] at hdx; exact ⟨op, rfl, (Option.some.inj hdx).symm⟩
      obtain ⟨oa, ys, rfl, hoa, ty⟩ := tx.tup_inv
      obtain ⟨ca', cs, e, hca, tcs⟩ := tc.lst_inv
      cases e
      have hi : i < os.length := (List.getElem?_eq_some_iff.mp hop).1
      have o8' := o8 op (List.mem_of_getElem? hop)
      have ytake : chs (os.take (i + 1)) = stepC (chs (os.take i)) op := by
        rw [List.take_add_one, hop]
        exact chs_snoc _ _
      have bigN := big (i + 1) hi
      rw [ytake] at bigN
      refine ⟨.ref ca, rfl, ca, rfl, ⟨_, SqL.of hca⟩, fun D nD => ?_⟩
      have lcs : cs.length = (chs (os.take i)).length := by rw [tcs.length, List.length_map]
      -- both walks
      refine ⟨fun k m H' => m = cs.length - k ∧ k ≤ cs.length ∧ Same H1 (hd1 D H') ∧ ∃ acc, H' D = some (.lst acc) ∧ TkAll (hd1 D H') acc ((stepC ((chs (os.take i)).take k) op).map PyData.tuple), ⟨_, rfl, Nat.zero_le _, hd1_of (same_upd nD) nD, [], upd_same, .nil⟩, ?_⟩
      rintro k m H2 ⟨rfl, hk, s2, acc, hD, ta⟩
      have hca2 := hd1_le _ _ (s2 _ _ hca)
      by_cases hlt : k < cs.length
      · obtain ⟨c, hc⟩ : ∃ c, (chs (os.take i))[k]? = some c := ⟨_, List.getElem?_eq_getElem (by omega)⟩
        have htk : (chs (os.take i)).take (k + 1) = (chs (os.take i)).take k ++ [c] := by
          rw [List.take_add_one, hc]
          rfl
        refine .inr ⟨⟨cs, cs[k], SqL.of hca2, List.getElem?_eq_getElem hlt⟩, fun H' => Same H1 (hd1 D H') ∧ ∃ acc, H' D = some (.lst acc) ∧ TkAll (hd1 D H') acc ((stepC ((chs (os.take i)).take (k + 1)) op).map PyData.tuple), fun σ' ⟨z1, z2⟩ => ⟨cs.length - (k + 1), by omega, rfl, by omega, z1, z2⟩, fun x H' hy => ?_⟩
        obtain ⟨rfl, hy⟩ := hy
        have hx2 : cs[k]? = some x := hy cs (SqL.of hca2)
        obtain ⟨dc, hdc, tx2⟩ := tcs.get hx2
        obtain rfl : dc = .tuple c := by
          rw [List.getElem?_map, hc] at hdc
          exact (Option.some.inj hdc).symm
        obtain ⟨xa, zs, rfl, hxa, tz⟩ := tx2.tup_inv
        refine ⟨rfl, ?_⟩
        have hoa2 := hd1_le _ _ (s2 _ _ (s1 _ _ hoa))
        refine ⟨.ref oa, rfl, oa, rfl, ⟨_, SqT.of hoa2⟩, ?_⟩
        refine ⟨fun j n H' => n = ys.length - j ∧ j ≤ ys.length ∧ Same H1 (hd1 D H') ∧ ∃ acc, H' D = some (.lst acc) ∧ TkAll (hd1 D H') acc ((stepC ((chs (os.take i)).take k) op ++ (op.take j).map fun o => c ++ [o]).map PyData.tuple), ⟨_, rfl, Nat.zero_le _, s2, acc, hD, by rw [List.take_zero, List.map_nil, List.append_nil]; exact ta⟩, ?_⟩
        rintro j n H3 ⟨rfl, hj, s3, acc3, hD3, ta3⟩
        have hoa3 := hd1_le _ _ (s3 _ _ (s1 _ _ hoa))
        have lys : ys.length = op.length := ty.length
        by_cases hjl : j < ys.length
        · obtain ⟨ov, hov⟩ : ∃ ov, op[j]? = some ov := ⟨_, List.getElem?_eq_getElem (by omega)⟩
          refine .inr ⟨⟨ys, ys[j], SqT.of hoa3, List.getElem?_eq_getElem hjl⟩, fun H' => Same H1 (hd1 D H') ∧ ∃ acc, H' D = some (.lst acc) ∧ TkAll (hd1 D H') acc ((stepC ((chs (os.take i)).take k) op ++ (op.take (j + 1)).map fun o => c ++ [o]).map PyData.tuple), fun σ' ⟨z1, z2⟩ => ⟨ys.length - (j + 1), by omega, rfl, by omega, z1, z2⟩, fun y Hn hy => ?_⟩
          obtain ⟨rfl, hy⟩ := hy
          have hy2 : ys[j]? = some y := hy ys (SqT.of hoa3)
          obtain ⟨dy, hdy, ty2⟩ := ty.get hy2
          cases Option.some.inj (hdy.symm.trans hov)
          refine ⟨rfl, ?_⟩
          -- choice + (option,)
          have hxa3 := hd1_le _ _ (s3 _ _ hxa)
          refine ⟨.ref xa, rfl, y, rfl, sl1, fun t nt => ?_⟩
          have st := same_upd (o := .tup [y]) nt
          have ntD : t ≠ D := (ne_of_none hD3 nt).symm
          have sD := hd1_same (p := D) st
          have ty3 : Tk (hd1 D Hn) y ov := ty2.same (s1.trans s3)
          have tz3 : TkAll (hd1 D Hn) zs c := tz.same s3
          have lacc : acc3.length < sizeLine := by
            have h1 := ta3.length
            rw [List.length_map, List.length_append, stepC_len, List.length_map, List.length_take, List.length_take] at h1
            have h2 : min k (chs (os.take i)).length * op.length ≤ 512 * 8 := Nat.mul_le_mul (by have := big i (by omega); omega) o8'
            have : sizeLine = 16777216 := by decide
            omega
          have done : ∀ (H4 : Hp) (p : Addr), Same (hd1 D Hn) (hd1 D H4) → H4 D = some (.lst acc3) → p ≠ D → H4 p = some (.tup (zs ++ [y])) → TkAll (hd1 D H4) zs c → Tk (hd1 D H4) y ov → ∃ acc, H4 D = some (.lst acc) ∧ acc.length < sizeLine ∧ Same H1 (hd1 D (upd H4 D (.lst (acc ++ [.ref p])))) ∧ ∃ acc', (upd H4 D (.lst (acc ++ [.ref p]))) D = some (.lst acc') ∧ TkAll (hd1 D (upd H4 D (.lst (acc ++ [.ref p])))) acc' ((stepC ((chs (os.take i)).take k) op ++ (op.take (j + 1)).map fun o => c ++ [o]).map PyData.tuple) := fun H4 p s4 h4 np hp tzz tyy => by
            refine ⟨acc3, h4, lacc, (s3.trans s4).trans hd1_upd, acc3 ++ [.ref p], upd_same, ?_⟩
            rw [List.take_add_one, hov]
            show TkAll _ _ ((_ ++ (op.take j ++ [ov]).map _).map _)
            rw [List.map_append (l₁ := op.take j), ← List.append_assoc, List.map_append]
            refine ((ta3.same s4).same hd1_upd).append (.cons (.tup (xs := zs ++ [y]) ?_ ((tzz.same hd1_upd).append (.cons (tyy.same hd1_upd) .nil))) .nil)
            rw [hd1_at np, upd_ne np]
            exact hp
          have lz : zs.length + 1 ≤ sizeLine := by
            have h1 := (Tk.tup hxa tz)
            have h2 := tz.length
            have h3 : c.length ≤ 8 := by
              have := chs_width (os.take i) c (List.mem_of_getElem? hc)
              have h8 : os.length ≤ 8 := by rcases o3 with o | ⟨o, _⟩ <;> omega
              rw [this, List.length_take]
              omega
            have : sizeLine = 16777216 := by decide
            omega
          refine ⟨xa, t, zs, [y], rfl, rfl, SqT.of (st _ _ hxa3), SqT.of upd_same, lz, fun ez => ?_, (fun _ z => by cases z), fun nz _ p np => ?_⟩
          · subst ez
            exact done _ t sD (st _ _ hD3) ntD upd_same (tz3.same sD) (ty3.same sD)
          · have sp := same_upd (o := .tup (zs ++ [y])) np
            have sDp := hd1_same (p := D) sp
            have npD : p ≠ D := (ne_of_none (st _ _ hD3) np).symm
            exact done _ p (sD.trans sDp) (sp _ _ (st _ _ hD3)) npD upd_same ((tz3.same sD).same sDp) ((ty3.same sD).same sDp)
        · have ej : j = ys.length := by omega
          refine .inl ⟨⟨ys, SqT.of hoa3, by omega⟩, s3, acc3, hD3, ?_⟩
          rw [htk, stepC_snoc]
          rw [ej, lys, List.take_length] at ta3
          exact ta3
      · have ek : k = cs.length := by omega
        refine .inl ⟨⟨cs, SqL.of hca2, by omega⟩, ?_⟩
        refine ⟨D, _, rfl, fun b o e => hd1_le _ _ (s2 _ _ (s1 _ _ e)), ?_⟩
        rw [ytake]
        refine .lst hD ?_
        rw [ek, lcs, List.take_length] at ta
        exact ta.same hd1_le
    · rintro σ H1 ⟨ca, y2, rfl, s1, tc⟩
      have lx : xs.length = os.length := by rw [tk.length, List.length_map]
      rw [lx, List.take_length] at tc
      obtain ⟨ca', cs, e, hca, tcs⟩ := tc.lst_inv
      cases e
      refine ⟨.ref ca, rfl, ca, cs, rfl, .inl ⟨SqL.of hca, fun r nr => ?_⟩⟩
      exact q r _ (s1.trans (same_upd nr)) (.tup upd_same (tcs.same (same_upd nr)))

/-! ### the word of a gate -/
abbrev Wd := Int × Int × Bool
def wD (x : Wd) : PyData := .tuple [.int x.1, .int x.2.1, .bool x.2.2]
def Wok (x : Wd) : Prop := (x.1 = 0 ∨ x.1 = 1) ∧ (x.2.1 = 0 ∨ x.2.1 = 1)
def pw (x : Wd) : List (Int × Int) := pairsM x.1 x.2.1 x.2.2
def prD (p : Int × Int) : PyData := .tuple [.int p.1, .int p.2]
theorem wd_inv {H : Hp} {v : V} {x : Wd} (h : Tk H v (wD x)) : ∃ a, v = .ref a ∧ H a = some (.tup [.int x.1, .int x.2.1, .bl x.2.2]) := by
  obtain ⟨a, xs, rfl, ha, t⟩ := h.tup_inv
  cases t with
  | cons h1 t => cases t with
    | cons h2 t => cases t with
      | cons h3 t =>
        cases t
        cases h1
        cases h2
        cases h3
        exact ⟨a, rfl, ha⟩
theorem pr_inv {H : Hp} {v : V} {p : Int × Int} (h : Tk H v (prD p)) : ∃ a, v = .ref a ∧ H a = some (.tup [.int p.1, .int p.2]) := by
  obtain ⟨a, xs, rfl, ha, t⟩ := h.tup_inv
  cases t with
  | cons h1 t => cases t with
    | cons h2 t =>
      cases t
      cases h1
      cases h2
      exact ⟨a, rfl, ha⟩
theorem tkPairs {H : Hp} : ∀ ks : List (Addr × Int × Int), (∀ k ∈ ks, PairAt H k) → TkAll H (ks.map fun k => V.ref k.1) ((ks.map (·.2)).map prD)
  | [], _ => .nil
  | k :: r, h => .cons (.tup (h k (List.mem_cons_self ..)) (.cons (.int _) (.cons (.int _) .nil))) (tkPairs r fun x hx => h x (List.mem_cons_of_mem _ hx))
theorem PairsAt.tk {H : Hp} {r D : Addr} {ps : List (Int × Int)} {acc : List V} (h : PairsAt H r ps) (hD : H D = some (.lst acc)) : Tk (hd1 D H) (.ref r) (.tuple (ps.map prD)) := by
  obtain ⟨ks, h1, h2, h3⟩ := h
  have n : ∀ {a : Addr} {xs : List V}, H a = some (.tup xs) → hd1 D H a = some (.tup xs) := fun {a xs} e => by
    rw [hd1_at (ne_of e hD (by intro q; cases q))]
    exact e
  rw [← h3]
  exact .tup (n h1) (tkPairs ks fun k hk => n (h2 k hk))
theorem chs_mem {α : Type} : ∀ (ls : List (List α)) (c : List α), c ∈ chs ls → ∀ o ∈ c, ∃ l ∈ ls, o ∈ l := by
  have key : ∀ (n : Nat) (ls : List (List α)), ls.length = n → ∀ c ∈ chs ls, ∀ o ∈ c, ∃ l ∈ ls, o ∈ l := by
    intro n
    induction n with
    | zero =>
      intro ls h c hc o ho
      cases List.eq_nil_of_length_eq_zero h
      cases List.mem_singleton.mp hc
      cases ho
    | succ n ih =>
      intro ls h c hc o ho
      have hne : ls ≠ [] := fun z => by rw [z] at h; cases h
      obtain ⟨r, x, rfl⟩ : ∃ r x, ls = r ++ [x] := ⟨ls.dropLast, ls.getLast hne, (List.dropLast_concat_getLast hne).symm⟩
      rw [chs_snoc] at hc
      obtain ⟨c0, h0, hc⟩ := List.mem_flatMap.mp hc
      obtain ⟨o', ho', rfl⟩ := List.mem_map.mp hc
      rcases List.mem_append.mp ho with z | z
      · obtain ⟨l, hl, hol⟩ := ih r (by rw [List.length_append] at h; simpa using h) c0 h0 o z
        exact ⟨l, List.mem_append_left _ hl, hol⟩
      · rw [List.mem_singleton.mp z]
        exact ⟨x, by simp, ho'⟩
  exact fun ls c h => key _ ls rfl c h
theorem pairs01 {x : Wd} (h : Wok x) : ∀ p ∈ pw x, (p.1 = 0 ∨ p.1 = 1) ∧ (p.2 = 0 ∨ p.2 = 1) := by
  obtain ⟨f, l, c⟩ := x
  obtain ⟨hf, hl⟩ := h
  dsimp only at hf hl
  rcases hf with rfl | rfl <;> rcases hl with rfl | rfl <;> cases c <;> decide
theorem pairs4 (x : Wd) : (pw x).length ≤ 4 := by
  unfold pw pairsM
  split
  · exact Nat.le_refl _
  · split
    · show 1 ≤ 4; decide
    · split
      · show 3 ≤ 4; decide
      · show 3 ≤ 4; decide
def testC (bs : List Bool) (F L : Int) (c : List (Int × Int)) : Bool := (decide (F = L) && !decide (gateM bs (c.map (·.1)) = F)) || (!decide (F = L) && (decide (gateM bs (c.map (·.1)) = L) && decide (gateM bs (c.map (·.2)) = F)))
def froM (bs : List Bool) (ws : List Wd) (F L : Int) : Bool := (chs (ws.map pw)).any (testC bs F L)
theorem evI (x y : Int) : decide (V.int x = V.int y) = decide (x = y) := by
  by_cases z : x = y
  · rw [decide_eq_true z, decide_eq_true (by rw [z])]
  · rw [decide_eq_false z, decide_eq_false (fun k => z (V.int.inj k))]
def sp_pair_by (K : PySem.W.Frag) : Sp := fun vs H Q _ => ∃ (bs : List Bool) (pa : Addr) (c : List (Int × Int)), vs = [.str (tabOf bs), .ref pa] ∧ Tk H (.ref pa) (.tuple (c.map prD)) ∧ (∀ p ∈ c, (p.1 = 0 ∨ p.1 = 1) ∧ (p.2 = 0 ∨ p.2 = 1)) ∧ bs.length = 2 ^ c.length ∧ c.length ≤ 3 ∧ ∀ r H', Same H H' → H' r = some (.tup [.int (gateM bs (c.map (·.1))), .int (gateM bs (c.map (·.2)))]) → Q (.ref r) H'
theorem ok_pair_by (T : Tx K mg) : FnOk P w K mg base CX0 2 T.f_pair_by T.fd_pair_by ["table", "pairs"] (sp_pair_by K) := by
  refine T.F_pair_by.ok sc_pair_by (fun vs H Q E h => ?_) (fun cdv A outer s H vs Q E hr h => ?_)
  · obtain ⟨bs, pa, c, rfl, _⟩ := h
    rfl
  · obtain ⟨bs, pa, c, rfl, tx, c01, hb, h3, q⟩ := h
    refine ⟨_, (pss_one (ps_ret (pe_tup (pa_cons (pe_call (ok_table_worth T) (hr.mono (by decide)) (by rfl) T.g_table_worth T.F_table_worth.kp T.b_table_worth .nil pass0 (pa_cons (pv 0) (pa_cons (pe_lc (own := [("p", 2), ("q", 3)]) (by rfl) sc_pair_by.nd (pi_tup (pv 1)) (blkOk_by (own := [("p", 2), ("q", 3)]) (N := ["table", "pairs", "p", "q"]) (sc := defScope s_pair_by) (by decide +kernel)) (fun _ _ _ _ _ => (show PG _ _ (gTup K 2 _) from pg_tup rfl (pgs_cons (pg_name (i := 2) sc_pair_by.nd rfl (by first | exact .inl rfl | exact .inr rfl)) (pgs_cons (pg_name (i := 3) sc_pair_by.nd rfl (by first | exact .inl rfl | exact .inr rfl)) pgs_nil)))) (fun _ _ _ _ _ => pts_nil) (fun _ _ _ _ _ => (pv 2))) pa_nil))) (pa_cons (pe_call (ok_table_worth T) (hr.mono (by decide)) (by rfl) T.g_table_worth T.F_table_worth.kp T.b_table_worth .nil pass0 (pa_cons (pv 0) (pa_cons (pe_lc (own := [("p", 2), ("q", 3)]) (by rfl) sc_pair_by.nd (pi_tup (pv 1)) (blkOk_by (own := [("p", 2), ("q", 3)]) (N := ["table", "pairs", "p", "q"]) (sc := defScope s_pair_by) (by decide +kernel)) (fun _ _ _ _ _ => (show PG _ _ (gTup K 2 _) from pg_tup rfl (pgs_cons (pg_name (i := 2) sc_pair_by.nd rfl (by first | exact .inl rfl | exact .inr rfl)) (pgs_cons (pg_name (i := 3) sc_pair_by.nd rfl (by first | exact .inl rfl | exact .inr rfl)) pgs_nil)))) (fun _ _ _ _ _ => pts_nil) (fun _ _ _ _ _ => (pv 3))) pa_nil))) pa_nil))))), ?_⟩
    obtain ⟨pa', zs, e, hpa, tz⟩ := tx.tup_inv
    cases e
    -- a list of one side of the pairs
    have comp : ∀ (H4 : Hp), Same H H4 → SqT K H4 pa zs := fun H4 s4 => SqT.of (s4 _ _ hpa)
    have side : ∀ (j : Nat) (u : V) (H4 : Hp), zs[j]? = some u → Same H H4 → ∃ (p : Int × Int) (b : Addr), c[j]? = some p ∧ u = .ref b ∧ H4 b = some (.tup [.int p.1, .int p.2]) := fun j u H4 hu s4 => by
      obtain ⟨dp, hdp, tp⟩ := tz.get hu
      rw [List.getElem?_map] at hdp
      cases hz : c[j]? with
      | none => rw [hz] at hdp; cases hdp
      | some p =>
        rw [hz] at hdp
        cases Option.some.inj hdp
        obtain ⟨b, rfl, hb'⟩ := pr_inv tp
        exact ⟨p, b, rfl, rfl, s4 _ _ hb'⟩
    have lz : zs.length = c.length := by rw [tz.length, List.length_map]
    -- early
    refine ⟨.str (tabOf bs), rfl, .ref pa, rfl, pa, rfl, ⟨_, comp _ (Same.refl _)⟩, fun E1 nE1 => ?_⟩
    refine lc_tup (K := K) (a := pa) (xs := zs) (fun j H' => Same H (hd1 E1 H') ∧ H' E1 = some (.lst (((c.map (·.1)).take j).map V.int))) ⟨hd1_of (same_upd nE1) nE1, upd_same⟩ (fun j H' _ hP => comp _ (fun b o e => hd1_le _ _ (hP.1 _ _ e))) ?_ ?_
    · rintro j u H4 hu ⟨s4, h4⟩
      obtain ⟨p, b, hp, rfl, hb'⟩ := side j u H4 hu (fun b o e => hd1_le _ _ (s4 _ _ e))
      refine ⟨b, _, rfl, SqT.of hb', rfl, _, _, rfl, _, _, rfl, rfl, rfl, ?_⟩
      refine ⟨.int p.1, rfl, _, h4, ?_, s4.trans hd1_upd, ?_⟩
      · rw [List.length_map, List.length_take]
        exact Nat.lt_of_lt_of_le (show min j (c.map (·.1)).length < 64 by rw [List.length_map]; omega) (by decide)
      · rw [upd_same, List.take_add_one, List.getElem?_map, hp, List.map_append]
        rfl
    rintro H4 ⟨s4, h4⟩
    have s34 : Same H H4 := fun b o e => hd1_le _ _ (s4 _ _ e)
    rw [lz, List.take_of_length_le (by rw [List.length_map]; exact Nat.le_refl _)] at h4
    refine ⟨bs, E1, c.map (·.1), rfl, SqL.of h4, fun w hw => ?_, by rw [List.length_map]; exact hb, by rw [List.length_map]; exact h3, ?_⟩
    · obtain ⟨p, hp, rfl⟩ := List.mem_map.mp hw
      exact (c01 p hp).1
    -- late
    refine ⟨.str (tabOf bs), rfl, .ref pa, rfl, pa, rfl, ⟨_, comp _ s34⟩, fun E2 nE2 => ?_⟩
    refine lc_tup (K := K) (a := pa) (xs := zs) (fun j H' => Same H4 (hd1 E2 H') ∧ H' E2 = some (.lst (((c.map (·.2)).take j).map V.int))) ⟨hd1_of (same_upd nE2) nE2, upd_same⟩ (fun j H' _ hP => comp _ (s34.trans fun b o e => hd1_le _ _ (hP.1 _ _ e))) ?_ ?_
    · rintro j u H5 hu ⟨s5, h5⟩
      obtain ⟨p, b, hp, rfl, hb'⟩ := side j u H5 hu (s34.trans fun b o e => hd1_le _ _ (s5 _ _ e))
      refine ⟨b, _, rfl, SqT.of hb', rfl, _, _, rfl, _, _, rfl, rfl, rfl, ?_⟩
      refine ⟨.int p.2, rfl, _, h5, ?_, s5.trans hd1_upd, ?_⟩
      · rw [List.length_map, List.length_take]
        exact Nat.lt_of_lt_of_le (show min j (c.map (·.2)).length < 64 by rw [List.length_map]; omega) (by decide)
      · rw [upd_same, List.take_add_one, List.getElem?_map, hp, List.map_append]
        rfl
    rintro H5 ⟨s5, h5⟩
    have s45 : Same H4 H5 := fun b o e => hd1_le _ _ (s5 _ _ e)
    rw [lz, List.take_of_length_le (by rw [List.length_map]; exact Nat.le_refl _)] at h5
    refine ⟨bs, E2, c.map (·.2), rfl, SqL.of h5, fun w hw => ?_, by rw [List.length_map]; exact hb, by rw [List.length_map]; exact h3, ?_⟩
    · obtain ⟨p, hp, rfl⟩ := List.mem_map.mp hw
      exact (c01 p hp).2
    refine ⟨sl2, fun r nr => ?_⟩
    exact q r _ ((s34.trans s45).trans (same_upd nr)) upd_same
def sp_goes_fro (K : PySem.W.Frag) : Sp := fun vs H Q _ => ∃ (bs : List Bool) (wa : Addr) (ws : List Wd) (F L : Int), vs = [.str (tabOf bs), .ref wa, .int F, .int L] ∧ Tk H (.ref wa) (.tuple (ws.map wD)) ∧ (∀ x ∈ ws, Wok x) ∧ bs.length = 2 ^ ws.length ∧ ws.length ≤ 3 ∧ ∀ H', Same H H' → Q (.bl (froM bs ws F L)) H'
theorem ok_goes_fro (T : Tx K mg) : FnOk P w K mg base CX0 3 T.f_goes_fro T.fd_goes_fro ["table", "words", "first", "last"] (sp_goes_fro K) := by
  refine T.F_goes_fro.ok sc_goes_fro (fun vs H Q E h => ?_) (fun cdv A outer s H vs Q E hr h => ?_)
  · obtain ⟨bs, wa, ws, F, L, rfl, _⟩ := h
    rfl
  · obtain ⟨bs, wa, ws, F, L, rfl, tw, ok, hb, h3, q⟩ := h
    refine ⟨_, (pss_cons (ps_for PassesOwn.never rfl (pi_tup (pe_call (ok_choices_of T) (hr.mono (by decide)) (by rfl) T.g_choices_of T.F_choices_of.kp T.b_choices_of .nil pass0 (pa_cons (pe_lc (own := [("word", 7)]) (by rfl) sc_goes_fro.nd (pi_tup (pv 1)) (blkOk_by (own := [("word", 7)]) (N := ["table", "words", "first", "last", "pairs", "early", "late", "word"]) (sc := defScope s_goes_fro) (by decide +kernel)) (fun _ _ _ _ _ => (pg_name (i := 7) sc_goes_fro.nd rfl (by first | exact .inl rfl | exact .inr rfl))) (fun _ _ _ _ _ => pts_nil) (fun _ _ _ _ _ => (pe_call (ok_pairs_of T) (hr.mono (by decide)) (by rfl) T.g_pairs_of T.F_pairs_of.kp T.b_pairs_of .nil pass0 (pa_cons (pv 7) pa_nil)))) pa_nil))) (pg_name (i := 4) sc_goes_fro.nd rfl (by first | exact .inl rfl | exact .inr rfl)) (pss_cons (ps_asg (pe_call (ok_pair_by T) (hr.mono (by decide)) (by rfl) T.g_pair_by T.F_pair_by.kp T.b_pair_by .nil pass0 (pa_cons (pv 0) (pa_cons (pv 4) pa_nil))) (pg_tup rfl (pgs_cons (pg_name (i := 5) sc_goes_fro.nd rfl (by first | exact .inl rfl | exact .inr rfl)) (pgs_cons (pg_name (i := 6) sc_goes_fro.nd rfl (by first | exact .inl rfl | exact .inr rfl)) pgs_nil)))) (pss_cons (ps_if (pw_and (pt_cmpR op_eq (pv 2) (pv 3) (nomark _)) (pw_and1 (pt_cmpR op_ne (pv 5) (pv 2) (nomark _)))).pt (pss_one (ps_ret pe_bl)) pss_nil) (pss_one (ps_if (pw_and (pt_cmpR op_ne (pv 2) (pv 3) (nomark _)) (pw_and (pt_cmpR op_eq (pv 5) (pv 3) (nomark _)) (pw_and1 (pt_cmpR op_eq (pv 6) (pv 2) (nomark _))))).pt (pss_one (ps_ret pe_bl)) pss_nil))))) (pss_one (ps_ret pe_bl))), ?_⟩
    obtain ⟨wa', xs, e, hwa, tws⟩ := tw.tup_inv
    cases e
    -- [pairs_of(word) for word in words]
    refine ⟨.ref wa, rfl, wa, rfl, ⟨_, SqT.of hwa⟩, fun D nD => ?_⟩
    refine lc_tup (K := K) (a := wa) (xs := xs) (fun j H' => Same H (hd1 D H') ∧ ∃ acc, H' D = some (.lst acc) ∧ TkAll (hd1 D H') acc ((ws.take j).map fun x => PyData.tuple ((pw x).map prD))) ⟨hd1_of (same_upd nD) nD, [], upd_same, .nil⟩ (fun j H' _ hP => SqT.of (hd1_le _ _ (hP.1 _ _ hwa))) ?_ ?_
    · rintro j v H1 hv ⟨s1, acc, hD, ta⟩
      obtain ⟨dx, hdx, tx⟩ := tws.get hv
      obtain ⟨x, hx, rfl⟩ : ∃ x, ws[j]? = some x ∧ dx = wD x := by
        rw [List.getElem?_map] at hdx
        cases hz : ws[j]? with
        | none => rw [hz] at hdx; cases hdx
        | some x => rw [hz] at hdx; exact ⟨x, rfl, (Option.some.inj hdx).symm⟩
      obtain ⟨a, rfl, ha⟩ := wd_inv tx
      have okx := ok x (List.mem_of_getElem? hx)
      refine ⟨rfl, ?_⟩
      refine ⟨.ref a, rfl, a, x.1, x.2.1, x.2.2, rfl, hd1_le _ _ (s1 _ _ ha), okx.1, okx.2, fun r H2 s2 p2 => ?_⟩
      have hD2 := s2 _ _ hD
      have sD := hd1_same (p := D) s2
      refine ⟨acc, hD2, ?_, (s1.trans sD).trans hd1_upd, acc ++ [.ref r], upd_same, ?_⟩
      · have := ta.length
        rw [List.length_map, List.length_take] at this
        exact Nat.lt_of_lt_of_le (show acc.length < 64 by omega) (by decide)
      · rw [List.take_add_one, hx]
        show TkAll _ _ ((ws.take j ++ [x]).map _)
        rw [List.map_append]
        exact ((ta.same sD).same hd1_upd).append (.cons ((p2.tk hD2).same hd1_upd) .nil)
    · rintro H1 ⟨s1, acc, hD, ta⟩
      have lx : xs.length = ws.length := by rw [tws.length, List.length_map]
      rw [lx, List.take_length] at ta
      have ta' : TkAll H1 acc ((ws.map fun x => (pw x).map prD).map PyData.tuple) := by
        rw [List.map_map]
        exact ta.same hd1_le
      refine ⟨D, acc, _, rfl, hD, ta', .inl (by rw [List.length_map]; exact h3), fun o ho => ?_, fun r H2 s2 tr => ?_⟩
      · obtain ⟨x, _, rfl⟩ := List.mem_map.mp ho
        rw [List.length_map]
        have := pairs4 x
        omega
      have sA : Same H H2 := fun b o e => s2 _ _ (hd1_le _ _ (s1 _ _ e))
      have eC : chs (ws.map fun x => (pw x).map prD) = (chs (ws.map pw)).map (List.map prD) := by
        rw [← chs_map prD _ _ rfl, List.map_map]
        rfl
      rw [eC] at tr
      obtain ⟨r', cs, e, hr2, tcs⟩ := tr.tup_inv
      cases e
      have lcs : cs.length = (chs (ws.map pw)).length := by rw [tcs.length, List.length_map, List.length_map]
      refine ⟨r, rfl, ⟨_, SqT.of hr2⟩, for_tup (K := K) (a := r) (xs := cs) (fun i σ H' => ∃ y4 y5 y6, σ = [some (.str (tabOf bs)), some (.ref wa), some (.int F), some (.int L), y4, y5, y6, none] ∧ Same H2 H' ∧ ∀ j c, j < i → (chs (ws.map pw))[j]? = some c → testC bs F L c = false) ⟨_, _, _, rfl, Same.refl _, fun j c hj => absurd hj (Nat.not_lt_zero _)⟩ (fun i σ H' _ ⟨_, _, _, _, z, _⟩ => SqT.of (z _ _ hr2)) ?_ ?_⟩
      · rintro i v σ H3 hv ⟨y4, y5, y6, rfl, s3, none_⟩
        obtain ⟨dx, hdx, tx⟩ := tcs.get hv
        obtain ⟨c, hc, rfl⟩ : ∃ c, (chs (ws.map pw))[i]? = some c ∧ dx = .tuple (c.map prD) := by
          rw [List.getElem?_map, List.getElem?_map] at hdx
          cases hz : (chs (ws.map pw))[i]? with
          | none => rw [hz] at hdx; cases hdx
          | some c => rw [hz] at hdx; exact ⟨c, rfl, (Option.some.inj hdx).symm⟩
        have hcm := List.mem_of_getElem? hc
        have c01 : ∀ p ∈ c, (p.1 = 0 ∨ p.1 = 1) ∧ (p.2 = 0 ∨ p.2 = 1) := fun p hp => by
          obtain ⟨l, hl, hpl⟩ := chs_mem _ c hcm p hp
          obtain ⟨x, hx, rfl⟩ := List.mem_map.mp hl
          exact pairs01 (ok x hx) p hpl
        have lc : c.length = ws.length := by rw [chs_width _ c hcm, List.length_map]
        obtain ⟨pa, zs, rfl, _⟩ := tx.tup_inv
        refine ⟨.str (tabOf bs), rfl, .ref pa, rfl, bs, pa, c, rfl, tx.same s3, c01, by rw [lc]; exact hb, by rw [lc]; exact h3, fun r5 H5 s35 h5 => ?_⟩
        refine ⟨r5, _, rfl, SqT.of h5, rfl, _, _, rfl, _, _, rfl, rfl, ?_⟩
        have sAll : Same H2 H5 := s3.trans s35
        have yes : testC bs F L c = true → Q (.bl true) H5 := fun z => by
          have e : froM bs ws F L = true := List.any_eq_true.mpr ⟨c, hcm, z⟩
          have := q H5 (sA.trans sAll)
          rw [e] at this
          exact this
        have no : testC bs F L c = false → ∃ y4 y5 y6, ([some (.str (tabOf bs)), some (.ref wa), some (.int F), some (.int L), some (.ref pa), some (.int (gateM bs (c.map (·.1)))), some (.int (gateM bs (c.map (·.2)))), none] : List (Option V)) = [some (.str (tabOf bs)), some (.ref wa), some (.int F), some (.int L), y4, y5, y6, none] ∧ Same H2 H5 ∧ ∀ j c, j < i + 1 → (chs (ws.map pw))[j]? = some c → testC bs F L c = false := fun z =>
          ⟨_, _, _, rfl, sAll, fun j c' hj hc' => by
            by_cases hji : j < i
            · exact none_ j c' hji hc'
            · have : j = i := by omega
              subst this
              cases Option.some.inj (hc.symm.trans hc')
              exact z⟩
        refine ⟨.int F, rfl, .int L, rfl, rfl, _, rfl, ite2 (fun e1 => ?_) (fun e1 => ?_)⟩
        · rw [evI] at e1
          refine ⟨.int (gateM bs (c.map (·.1))), rfl, .int F, rfl, rfl, _, rfl, ?_⟩
          rw [evI]
          refine ite2 (fun e2 => ?_) (fun e2 => ?_)
          · refine yes ?_
            unfold testC
            rw [e1, e2]
            rfl
          · refine ⟨.int F, rfl, .int L, rfl, rfl, _, rfl, ?_⟩
            rw [evI, e1]
            refine iteF (iteF (no ?_))
            unfold testC
            rw [e1, Bool.eq_false_iff.mpr e2]
            rfl
        · rw [evI] at e1
          refine iteF ?_
          refine ⟨.int F, rfl, .int L, rfl, rfl, _, rfl, ?_⟩
          rw [evI, Bool.eq_false_iff.mpr e1]
          refine iteT ?_
          refine ⟨.int (gateM bs (c.map (·.1))), rfl, .int L, rfl, rfl, _, rfl, ?_⟩
          rw [evI]
          refine ite2 (fun e2 => ?_) (fun e2 => ?_)
          · refine ⟨.int (gateM bs (c.map (·.2))), rfl, .int F, rfl, rfl, _, rfl, ?_⟩
            rw [evI]
            refine ite2 (fun e3 => ?_) (fun e3 => ?_)
            · refine yes ?_
              unfold testC
              rw [Bool.eq_false_iff.mpr e1, e2, e3]
              rfl
            · refine no ?_
              unfold testC
              rw [Bool.eq_false_iff.mpr e1, e2, Bool.eq_false_iff.mpr e3]
              rfl
          · refine iteF (no ?_)
            unfold testC
            rw [Bool.eq_false_iff.mpr e1, Bool.eq_false_iff.mpr e2]
            rfl
      · rintro σ H3 ⟨y4, y5, y6, rfl, s3, none_⟩
        have e : froM bs ws F L = false := by
          unfold froM
          rw [List.any_eq_false]
          intro c hc
          obtain ⟨j, hj⟩ := List.getElem?_of_mem hc
          have hjl := (List.getElem?_eq_some_iff.mp hj).1
          rw [none_ j c (by rw [lcs]; exact hjl) hj]
          exact Bool.false_ne_true
        have := q H3 (sA.trans s3)
        rw [e] at this
        exact this
def sp_gate_word (K : PySem.W.Frag) : Sp := fun vs H Q _ => ∃ (bs : List Bool) (wa : Addr) (ws : List Wd), vs = [.str (tabOf bs), .ref wa] ∧ Tk H (.ref wa) (.tuple (ws.map wD)) ∧ (∀ x ∈ ws, Wok x) ∧ bs.length = 2 ^ ws.length ∧ ws.length ≤ 3 ∧ ∀ r H', Same H H' → H' r = some (.tup [.int (gateM bs (ws.map (·.1))), .int (gateM bs (ws.map (·.2.1))), .bl (froM bs ws (gateM bs (ws.map (·.1))) (gateM bs (ws.map (·.2.1))))]) → Q (.ref r) H'
/-- [word[k] for word in words] -/
theorem words_at {H : Hp} {xs : List V} {ws : List Wd} (t : TkAll H xs (ws.map wD)) {j : Nat} {v : V} (h : xs[j]? = some v) : ∃ (x : Wd) (a : Addr), ws[j]? = some x ∧ v = .ref a ∧ H a = some (.tup [.int x.1, .int x.2.1, .bl x.2.2]) := by
  obtain ⟨dx, hdx, tx⟩ := t.get h
  rw [List.getElem?_map] at hdx
  cases hz : ws[j]? with
  | none => rw [hz] at hdx; cases hdx
  | some x =>
    rw [hz] at hdx
    cases Option.some.inj hdx
    obtain ⟨a, rfl, ha⟩ := wd_inv tx
    exact ⟨x, a, rfl, rfl, ha⟩
theorem ok_gate_word (T : Tx K mg) : FnOk P w K mg base CX0 4 T.f_gate_word T.fd_gate_word ["table", "words"] (sp_gate_word K) := by
  refine T.F_gate_word.ok sc_gate_word (fun vs H Q E h => ?_) (fun cdv A outer s H vs Q E hr h => ?_)
  · obtain ⟨bs, wa, ws, rfl, _⟩ := h
    rfl
  · obtain ⟨bs, wa, ws, rfl, tw, ok, hb, h3, q⟩ := h
    refine ⟨_, (pss_cons (ps_set (i := 2) sc_gate_word.nd rfl (by first | exact .inl rfl | exact .inr rfl) (pe_call (ok_table_worth T) (hr.mono (by decide)) (by rfl) T.g_table_worth T.F_table_worth.kp T.b_table_worth .nil pass0 (pa_cons (pv 0) (pa_cons (pe_lc (own := [("word", 4)]) (by rfl) sc_gate_word.nd (pi_tup (pv 1)) (blkOk_by (own := [("word", 4)]) (N := ["table", "words", "first", "last", "word"]) (sc := defScope s_gate_word) (by decide +kernel)) (fun _ _ _ _ _ => (pg_name (i := 4) sc_gate_word.nd rfl (by first | exact .inl rfl | exact .inr rfl))) (fun _ _ _ _ _ => pts_nil) (fun _ _ _ _ _ => (pe_ix (show IxR _ (rIxT K) from ix_tup) (pv 4) pe_int (fun _ _ => rfl)))) pa_nil)))) (pss_cons (ps_set (i := 3) sc_gate_word.nd rfl (by first | exact .inl rfl | exact .inr rfl) (pe_call (ok_table_worth T) (hr.mono (by decide)) (by rfl) T.g_table_worth T.F_table_worth.kp T.b_table_worth .nil pass0 (pa_cons (pv 0) (pa_cons (pe_lc (own := [("word", 4)]) (by rfl) sc_gate_word.nd (pi_tup (pv 1)) (blkOk_by (own := [("word", 4)]) (N := ["table", "words", "first", "last", "word"]) (sc := defScope s_gate_word) (by decide +kernel)) (fun _ _ _ _ _ => (pg_name (i := 4) sc_gate_word.nd rfl (by first | exact .inl rfl | exact .inr rfl))) (fun _ _ _ _ _ => pts_nil) (fun _ _ _ _ _ => (pe_ix (show IxR _ (rIxT K) from ix_tup) (pv 4) pe_int (fun _ _ => rfl)))) pa_nil)))) (pss_one (ps_ret (pe_tup (pa_cons (pv 2) (pa_cons (pv 3) (pa_cons (pe_call (ok_goes_fro T) (hr.mono (by decide)) (by rfl) T.g_goes_fro T.F_goes_fro.kp T.b_goes_fro .nil pass0 (pa_cons (pv 0) (pa_cons (pv 1) (pa_cons (pv 2) (pa_cons (pv 3) pa_nil))))) pa_nil)))))))), ?_⟩
    obtain ⟨wa', xs, e, hwa, tws⟩ := tw.tup_inv
    cases e
    have lx : xs.length = ws.length := by rw [tws.length, List.length_map]
    refine ⟨.str (tabOf bs), rfl, .ref wa, rfl, wa, rfl, ⟨_, SqT.of hwa⟩, fun D nD => ?_⟩
    refine lc_tup (K := K) (a := wa) (xs := xs) (fun j H' => Same H (hd1 D H') ∧ H' D = some (.lst (((ws.map (·.1)).take j).map V.int))) ⟨hd1_of (same_upd nD) nD, upd_same⟩ (fun j H' _ hP => SqT.of (hd1_le _ _ (hP.1 _ _ hwa))) ?_ ?_
    · rintro j v H1 hv ⟨s1, h1⟩
      obtain ⟨x, a, hx, rfl, ha⟩ := words_at tws hv
      refine ⟨rfl, .ref a, rfl, a, _, 0, .int x.1, rfl, rfl, SqT.of (hd1_le _ _ (s1 _ _ ha)), rfl, _, h1, ?_, s1.trans hd1_upd, ?_⟩
      · rw [List.length_map, List.length_take, List.length_map]
        exact Nat.lt_of_lt_of_le (show min j ws.length < 64 by omega) (by decide)
      · rw [upd_same, List.take_add_one, List.getElem?_map, hx, List.map_append]
        rfl
    rintro H1 ⟨s1, h1⟩
    have s01 : Same H H1 := fun b o e => hd1_le _ _ (s1 _ _ e)
    rw [lx, List.take_of_length_le (by rw [List.length_map]; exact Nat.le_refl _)] at h1
    refine ⟨bs, D, _, rfl, SqL.of h1, fun u hu => ?_, by rw [List.length_map]; exact hb, by rw [List.length_map]; exact h3, ?_⟩
    · obtain ⟨x, hx, rfl⟩ := List.mem_map.mp hu
      exact (ok x hx).1
    refine ⟨.str (tabOf bs), rfl, .ref wa, rfl, wa, rfl, ⟨_, SqT.of (s01 _ _ hwa)⟩, fun D2 nD2 => ?_⟩
    refine lc_tup (K := K) (a := wa) (xs := xs) (fun j H' => Same H1 (hd1 D2 H') ∧ H' D2 = some (.lst (((ws.map (·.2.1)).take j).map V.int))) ⟨hd1_of (same_upd nD2) nD2, upd_same⟩ (fun j H' _ hP => SqT.of (hd1_le _ _ (hP.1 _ _ (s01 _ _ hwa)))) ?_ ?_
    · rintro j v H2 hv ⟨s2, h2⟩
      obtain ⟨x, a, hx, rfl, ha⟩ := words_at tws hv
      refine ⟨rfl, .ref a, rfl, a, _, 1, .int x.2.1, rfl, rfl, SqT.of (hd1_le _ _ (s2 _ _ (s01 _ _ ha))), rfl, _, h2, ?_, s2.trans hd1_upd, ?_⟩
      · rw [List.length_map, List.length_take, List.length_map]
        exact Nat.lt_of_lt_of_le (show min j ws.length < 64 by omega) (by decide)
      · rw [upd_same, List.take_add_one, List.getElem?_map, hx, List.map_append]
        rfl
    rintro H2 ⟨s2, h2⟩
    have s12 : Same H1 H2 := fun b o e => hd1_le _ _ (s2 _ _ e)
    rw [lx, List.take_of_length_le (by rw [List.length_map]; exact Nat.le_refl _)] at h2
    refine ⟨bs, D2, _, rfl, SqL.of h2, fun u hu => ?_, by rw [List.length_map]; exact hb, by rw [List.length_map]; exact h3, ?_⟩
    · obtain ⟨x, hx, rfl⟩ := List.mem_map.mp hu
      exact (ok x hx).2
    have sA := s01.trans s12
    refine ⟨.int (gateM bs (ws.map (·.1))), rfl, .int (gateM bs (ws.map (·.2.1))), rfl, .str (tabOf bs), rfl, .ref wa, rfl, .int (gateM bs (ws.map (·.1))), rfl, .int (gateM bs (ws.map (·.2.1))), rfl, bs, wa, ws, _, _, rfl, tw.same sA, ok, hb, h3, fun H3 s3 => ?_⟩
    refine ⟨sl3, fun r nr => ?_⟩
    exact q r _ ((sA.trans s3).trans (same_upd nr)) upd_same

end
end Gk

set_option Elab.async false
set_option linter.all false
set_option maxRecDepth 100000
set_option maxHeartbeats 1000000
namespace Gk
open PySem PySem.Spec PyProof.Rows L2
/-! ### the words of nets -/
def gwM (bs : List Bool) (ws : List Wd) : Wd := (gateM bs (ws.map (·.1)), gateM bs (ws.map (·.2.1)), froM bs ws (gateM bs (ws.map (·.1))) (gateM bs (ws.map (·.2.1))))
def pick (ws : List Wd) (ins : List Nat) : List Wd := ins.map fun i => ws.getD i (0, 0, false)
def stepW (ws : List Wd) (g : Gt) : List Wd := ws ++ [gwM g.1 (pick ws g.2)]
def wordsM (gs : List Gt) (w0 : List Wd) : List Wd := gs.foldl stepW w0
def w0M (a b : List Int) : List Wd := (a.zip b).map fun p => (p.1, p.2, false)
theorem wordsM_snoc (gs : List Gt) (g : Gt) (w0 : List Wd) : wordsM (gs ++ [g]) w0 = stepW (wordsM gs w0) g := by
  unfold wordsM
  rw [List.foldl_append]
  rfl
theorem wordsM_take {gs : List Gt} {k : Nat} {g : Gt} (h : gs[k]? = some g) (w0 : List Wd) : wordsM (gs.take (k + 1)) w0 = stepW (wordsM (gs.take k) w0) g := by
  rw [List.take_add_one, h]
  exact wordsM_snoc _ _ _
theorem wordsM_len (gs : List Gt) (w0 : List Wd) : (wordsM gs w0).length = w0.length + gs.length := by
  induction gs generalizing w0 with
  | nil => rfl
  | cons g r ih =>
    show (wordsM r (stepW w0 g)).length = _
    rw [ih]
    unfold stepW
    rw [List.length_append, List.length_cons, List.length_cons, List.length_nil]
    omega
theorem gw_ok (bs : List Bool) (ws : List Wd) : Wok (gwM bs ws) := ⟨gate01 _ _, gate01 _ _⟩
theorem wordsM_ok (gs : List Gt) (w0 : List Wd) (h : ∀ x ∈ w0, Wok x) : ∀ x ∈ wordsM gs w0, Wok x := by
  induction gs generalizing w0 with
  | nil => exact h
  | cons g r ih =>
    refine ih (stepW w0 g) fun x hx => ?_
    rcases List.mem_append.mp hx with z | z
    · exact h x z
    · rw [List.mem_singleton.mp z]
      exact gw_ok _ _
theorem w0_ok {a b : List Int} (ha : Row01 a) (hb : Row01 b) : ∀ x ∈ w0M a b, Wok x := fun x hx => by
  obtain ⟨p, hp, rfl⟩ := List.mem_map.mp hx
  exact ⟨ha _ (List.of_mem_zip hp).1, hb _ (List.of_mem_zip hp).2⟩
theorem w0_len {a b : List Int} (h : a.length = b.length) : (w0M a b).length = a.length := by
  unfold w0M
  rw [List.length_map, List.length_zip]
  omega

section
variable {P : Program} {w : World} {K : PySem.W.Frag} {mg : Str → Option Value} {base : Heap}
def sp_words_of (K : PySem.W.Frag) (Pt : Addr) : Sp := fun vs H Q _ => ∃ (nv cv : V) (m : Int) (gs : List Gt) (a b : List Int), vs = [nv, cv] ∧ Tk H nv (netD m gs) ∧ Tk H cv (chD a b) ∧ a.length = b.length ∧ Row01 a ∧ Row01 b ∧ a.length ≤ 16 ∧ gs.length ≤ 1000 ∧ NetOk a.length gs ∧ GxR.TabG H Pt ∧
  ∀ r H', Gr H H' → Tk H' (.ref r) (.tuple ((wordsM gs (w0M a b)).map wD)) → Q (.ref r) H'
theorem w0_get {a b : List Int} {i : Nat} {x y : V} (hx : (a.map V.int)[i]? = some x) (hy : (b.map V.int)[i]? = some y) : ∃ p q, x = .int p ∧ y = .int q ∧ (w0M a b)[i]? = some (p, q, false) := by
  rw [List.getElem?_map] at hx hy
  cases ea : a[i]? with
  | none => rw [ea] at hx; cases hx
  | some p =>
    cases eb : b[i]? with
    | none => rw [eb] at hy; cases hy
    | some q =>
      rw [ea] at hx
      rw [eb] at hy
      refine ⟨p, q, (Option.some.inj hx).symm, (Option.some.inj hy).symm, ?_⟩
      unfold w0M
      rw [List.getElem?_map, List.getElem?_zip_eq_some (z := (p, q)) |>.mpr ⟨ea, eb⟩]
      rfl
theorem ok_words_of (T : Tx K mg) (B : Tb base T) : FnOk P w K mg base CX0 5 T.f_words_of T.fd_words_of ["net", "change"] (sp_words_of K T.P_words_of) := by
  refine okC T.F_words_of sc_words_of (fun vs H Q E h => ?_) (fun A outer s H vs Q E hr h => ?_)
  · obtain ⟨nv, cv, m, gs, a, b, rfl, _⟩ := h
    rfl
  · obtain ⟨nv, cv, m, gs, a, b, rfl, tn, tc, el, ha, hb, h16, h64, ok, tab, q⟩ := h
    refine ⟨_, (pss_cons (ps_asg (pv 1) (pg_tup rfl (pgs_cons (pg_name (i := 2) sc_words_of.nd rfl (by first | exact .inl rfl | exact .inr rfl)) (pgs_cons (pg_name (i := 3) sc_words_of.nd rfl (by first | exact .inl rfl | exact .inr rfl)) pgs_nil)))) (pss_cons (ps_set (i := 4) sc_words_of.nd rfl (by first | exact .inl rfl | exact .inr rfl) (pe_lc (own := [("before", 7), ("after", 8)]) (by rfl) sc_words_of.nd (RZ.pi_zipA (by rfl) T.m_zip (pa_cons (pv 2) (pa_cons (pv 3) pa_nil))) (blkOk_by (own := [("before", 7), ("after", 8)]) (N := ["net", "change", "a", "b", "words", "table", "ins", "before", "after", "wire"]) (sc := defScope s_words_of) (by decide +kernel)) (fun _ _ _ _ _ => (show PG _ _ (gTup K 2 _) from pg_tup rfl (pgs_cons (pg_name (i := 7) sc_words_of.nd rfl (by first | exact .inl rfl | exact .inr rfl)) (pgs_cons (pg_name (i := 8) sc_words_of.nd rfl (by first | exact .inl rfl | exact .inr rfl)) pgs_nil)))) (fun _ _ _ _ _ => pts_nil) (fun _ _ _ _ _ => (pe_tup (pa_cons (pv 7) (pa_cons (pv 8) (pa_cons pe_bl pa_nil))))))) (pss_cons (ps_for PassesOwn.never rfl (pi_tup (pe_ix ix_tup (pv 0) pe_int (fun _ _ => rfl))) (pg_tup rfl (pgs_cons (pg_name (i := 5) sc_words_of.nd rfl (by first | exact .inl rfl | exact .inr rfl)) (pgs_cons (pg_name (i := 6) sc_words_of.nd rfl (by first | exact .inl rfl | exact .inr rfl)) pgs_nil))) (pss_one (ps_expr (pe_bm PySem.F.plainAttrs_list PySem.F.slot_list_append PySem.F.type_list_append mt_append (pv 4) (pa_cons (pe_call (ok_gate_word T) (hr.mono (by decide)) (by rfl) T.g_gate_word T.F_gate_word.kp T.b_gate_word .nil pass0 (pa_cons (pv 5) (pa_cons (pe_tupX (own := [("wire", 9)]) (k := 0) (hr.mono (by decide)) rfl sc_words_of.nd (by rfl) T.m_tuple (by decide +kernel) B.TB_words_of T.cd_words_of rfl rfl (by decide +kernel) (blkOk_by (own := [("wire", 9)]) (N := ["net", "change", "a", "b", "words", "table", "ins", "before", "after", "wire"]) (sc := defScope s_words_of) (by decide +kernel)) (pi_tup (pv 6)) (fun _ _ _ _ _ _ _ hr gd => (pg_name (i := 9) sc_words_of.nd rfl (by first | exact .inl rfl | exact .inr rfl))) (fun _ _ _ _ _ _ _ hr gd => pts_nil) (fun _ _ _ _ _ _ _ hr gd => (pe_ix (show IxR _ (rIxL K) from ix_list) (pv 4) (pv 9) (fun _ _ => rfl))) (fun _ => rfl)) pa_nil))) pa_nil))))) (pss_one (ps_ret (pe_callTy call_tuple_of (by rfl) T.m_tuple (by decide +kernel) (pa_cons (pv 4) pa_nil))))))), ?_⟩
    obtain ⟨c, ra, rb, rfl, hc, hra, hrb⟩ := tc.ch_inv
    obtain ⟨n, g, xs, rfl, hn, hg, tg⟩ := tn.net_inv
    have w0len := w0_len el
    refine ⟨.ref c, rfl, c, _, rfl, SqT.of hc, rfl, _, _, rfl, _, _, rfl, rfl, ?_⟩
    refine ⟨.ref ra, rfl, .ref rb, rfl, ra, rb, _, _, rfl, .inr ⟨SqT.of hra, SqT.of hrb, fun D nD => ?_⟩⟩
    refine lc_zipT (K := K) (a := ra) (b := rb) (xs := a.map V.int) (ys := b.map V.int) (by rw [List.length_map, List.length_map]; exact el)
      (fun i H' => GrD D H H' ∧ ∃ acc, H' D = some (.lst acc) ∧ TkAll (hd1 D H') acc (((w0M a b).take i).map wD)) ⟨GrD.new nD, [], upd_same, .nil⟩ (fun i H' _ hP => ⟨SqT.of (hP.1.gr.tup hra), SqT.of (hP.1.gr.tup hrb)⟩) ?_ ?_
    · rintro i x y Tq H1 hx hy nT ⟨gr, acc, hD, ta⟩
      obtain ⟨p1, q1, rfl, rfl, hw⟩ := w0_get hx hy
      refine ⟨Tq, _, rfl, SqT.of upd_same, rfl, _, _, rfl, _, _, rfl, rfl, rfl, ?_⟩
      refine ⟨.int p1, rfl, .int q1, rfl, sl3, fun p np => ?_⟩
      have n1 : D ≠ Tq := ne_of_none hD nT
      have hD1 : (upd H1 Tq (.tup [.int p1, .int q1])) D = some (.lst acc) := by rw [upd_ne n1]; exact hD
      have hD2 : (upd (upd H1 Tq (.tup [.int p1, .int q1])) p (.tup [.int p1, .int q1, .bl false])) D = some (.lst acc) := by
        rw [upd_ne (ne_of_none hD1 np)]
        exact hD1
      have g1 := gr.then hD ((Gr.none (o := HO.tup [.int p1, .int q1]) nT).trans (Gr.none (o := HO.tup [.int p1, .int q1, .bl false]) np))
      refine ⟨acc, hD2, ?_, g1.set, acc ++ [.ref p], upd_same, ?_⟩
      · have := ta.length
        rw [List.length_map, List.length_take] at this
        exact Nat.lt_of_lt_of_le (show acc.length < 64 by omega) (by decide)
      · rw [List.take_add_one, hw]
        show TkAll _ _ (((w0M a b).take i ++ [(p1, q1, false)]).map _)
        rw [List.map_append]
        have sD : Same (hd1 D H1) (hd1 D (upd (upd (upd H1 Tq (.tup [.int p1, .int q1])) p (.tup [.int p1, .int q1, .bl false])) D (.lst (acc ++ [.ref p])))) := ((hd1_same (same_upd nT)).trans (hd1_same (same_upd np))).trans hd1_upd
        have pD : p ≠ D := (ne_of_none hD1 np).symm
        refine (ta.same sD).append (.cons (.tup (a := p) ?_ (.cons (.int _) (.cons (.int _) (.cons (.bl _) .nil)))) .nil)
        rw [hd1_at pD, upd_ne pD, upd_same]
    · rintro H1 ⟨gr, acc, hD, ta⟩
      rw [List.length_map, List.take_of_length_le (by omega)] at ta
      refine ⟨.ref n, rfl, n, _, 1, .ref g, rfl, rfl, SqT.of (gr.gr.tup hn), rfl, g, rfl, ⟨_, SqT.of (gr.gr.tup hg)⟩, ?_⟩
      refine for_tup (K := K) (a := g) (xs := xs) (fun i σ H' => ∃ y5 y6, σ = [some (.ref n), some (.ref c), some (.ref ra), some (.ref rb), some (.ref D), y5, y6, none, none, none] ∧ GrD D H H' ∧ ∃ acc, H' D = some (.lst acc) ∧ TkAll (hd1 D H') acc ((wordsM (gs.take i) (w0M a b)).map wD))
        ⟨_, _, rfl, gr, acc, hD, ta⟩ (fun i σ H' _ ⟨_, _, _, hP, _⟩ => SqT.of (hP.gr.tup hg)) ?_ ?_
      · rintro i v σ H2 hv ⟨y5, y6, rfl, gr2, acc2, hD2, ta2⟩
        obtain ⟨gt, hgt, tgt⟩ := tg.at hv
        obtain ⟨ga, ii, rfl, hga, hii⟩ := (tgt.gr gr2.gr).gt_inv
        obtain ⟨ok1, ok2, ok3, ok4⟩ := ok i gt hgt
        refine ⟨ga, _, rfl, SqT.of hga, rfl, _, _, rfl, _, _, rfl, rfl, ?_⟩
        have tab2 := gr2.gr.2 _ tab
        have wlen : (wordsM (gs.take i) (w0M a b)).length = a.length + i := by
          rw [wordsM_len, w0len, List.length_take]
          have := (List.getElem?_eq_some_iff.mp hgt).1
          omega
        have alen : acc2.length = a.length + i := by
          have := ta2.length
          rw [List.length_map] at this
          omega
        have hi64 := (List.getElem?_eq_some_iff.mp hgt).1
        refine ⟨.ref D, rfl, .inl ⟨rfl, _, SqL.of hD2⟩, .str (tabOf gt.1), rfl, .ref ii, rfl, ii, rfl, ⟨_, SqT.of hii⟩, tab2, fun H3 tb3 => ?_⟩
        have g3 := Gr.tab tab2 tb3
        have hD3 := g3.lst hD2
        have nP : D ≠ T.P_words_of := fun z => by
          obtain ⟨ps, e, _⟩ := tab2
          rw [← z, hD2] at e
          cases e
        have s3 := hd1_gr (D := D) g3 fun P ⟨ps, e, _⟩ z => by
          rw [← z, hD2] at e
          cases e
        refine gx_tup (K := K) (a := ii) (xs := (gt.2.map Int.ofNat).map V.int) (fun j ys H' => H' = H3 ∧ TkAll (hd1 D H3) ys ((pick (wordsM (gs.take i) (w0M a b)) (gt.2.take j)).map wD)) ⟨rfl, .nil⟩ (fun j ys H' _ ⟨e, _⟩ => by rw [e]; exact SqT.of (g3.tup hii)) ?_ ?_
        · rintro j x ys H' hx ⟨rfl, tys⟩
          rw [List.getElem?_map, List.getElem?_map] at hx
          cases hj : gt.2[j]? with
          | none => rw [hj] at hx; cases hx
          | some k =>
            rw [hj] at hx
            cases Option.some.inj hx
            have hk := ok4 k (List.mem_of_getElem? hj)
            have hwk : (wordsM (gs.take i) (w0M a b))[k]? = some ((wordsM (gs.take i) (w0M a b)).getD k (0, 0, false)) := by
              rw [List.getD_eq_getElem?_getD, List.getElem?_eq_getElem (by omega)]
              rfl
            obtain ⟨u, hu, tu⟩ := ta2.at' hwk
            have hjl := (List.getElem?_eq_some_iff.mp hj).1
            refine ⟨rfl, .ref D, rfl, .int (Int.ofNat k), rfl, D, _, Int.ofNat k, u, rfl, rfl, SqL.of hD3, ?_, ?_, rfl, ?_⟩
            · exact atI_nat hu
            · have := tys.length
              rw [List.length_map] at this
              unfold pick at this
              rw [List.length_map, List.length_take] at this
              exact Nat.lt_of_lt_of_le (show ys.length < 64 by omega) (by decide)
            · rw [List.take_add_one, hj]
              unfold pick
              rw [List.map_append, List.map_append]
              exact tys.append (.cons (tu.gr s3) .nil)
        · rintro ys H' ⟨rfl, tys⟩
          rw [List.length_map, List.length_map, List.take_length] at tys
          have yl : ys.length = gt.2.length := by
            have := tys.length
            rw [List.length_map] at this
            unfold pick at this
            rw [List.length_map] at this
            exact this
          refine ⟨Nat.le_trans (show ys.length ≤ 64 by omega) (by decide), fun p np => ?_⟩
          have pl : (pick (wordsM (gs.take i) (w0M a b)) gt.2).length = gt.2.length := by unfold pick; rw [List.length_map]
          have tp : Tk (upd H' p (.tup ys)) (.ref p) (.tuple ((pick (wordsM (gs.take i) (w0M a b)) gt.2).map wD)) := .tup upd_same ((tys.same hd1_le).same (same_upd np))
          refine ⟨gt.1, p, _, rfl, tp, fun x hx => ?_, by rw [pl]; exact ok1, by rw [pl]; exact ok3, fun r H4 s4 hr4 => ?_⟩
          · obtain ⟨k, hk, rfl⟩ := List.mem_map.mp hx
            refine wordsM_ok (gs.take i) (w0M a b) (w0_ok ha hb) _ ?_
            rw [List.getD_eq_getElem?_getD, List.getElem?_eq_getElem (by rw [wlen]; exact ok4 k hk)]
            exact List.getElem_mem _
          · have hD4 : H4 D = some (.lst acc2) := s4 _ _ (by rw [upd_ne (ne_of_none hD3 np)]; exact hD3)
            have g34 : Gr H' H4 := (Gr.none np).trans (Gr.of s4)
            refine ⟨D, acc2, _, rfl, rfl, hD4, Nat.lt_of_lt_of_le (show acc2.length < 2000 by omega) (by decide), ?_⟩
            refine ⟨_, _, rfl, (gr2.then hD2 (g3.trans g34)).set, _, upd_same, ?_⟩
            rw [wordsM_take hgt]
            unfold stepW
            rw [List.map_append]
            have s4D := hd1_gr (D := D) g34 fun P ⟨ps, e, _⟩ z => by
              rw [← z, hD3] at e
              cases e
            have rD : r ≠ D := (ne_of hD4 hr4 (by intro z; cases z)).symm
            refine (((ta2.gr s3).gr s4D).same hd1_upd).append (.cons (.tup (a := r) ?_ (.cons (.int _) (.cons (.int _) (.cons (.bl _) .nil)))) .nil)
            rw [hd1_at rD, upd_ne rD]
            exact hr4
      · rintro σ H2 ⟨y5, y6, rfl, gr2, acc2, hD2, ta2⟩
        have xl : xs.length = gs.length := by rw [tg.length, List.length_map]
        rw [xl, List.take_length] at ta2
        refine ⟨.ref D, rfl, D, acc2, rfl, .inl ⟨SqL.of hD2, fun l nl => ?_⟩⟩
        exact q l _ (gr2.gr.trans (Gr.none nl)) (.tup upd_same ((ta2.same hd1_le).same (same_upd nl)))

end
end Gk

set_option Elab.async false
set_option linter.all false
set_option maxRecDepth 100000
set_option maxHeartbeats 1000000
namespace Gk
open PySem PySem.Spec PyProof.Rows L2
/-! ### data of tuples alone: no list that is written can harm it -/
mutual
def noL : PyData → Bool
  | .list _ => false
  | .tuple ds => noLs ds
  | _ => true
def noLs : List PyData → Bool
  | [] => true
  | d :: r => noL d && noLs r
end
def Ts (H H' : Hp) : Prop := ∀ b xs, H b = some (HO.tup xs) → H' b = some (.tup xs)
theorem Ts.refl {H : Hp} : Ts H H := fun _ _ e => e
theorem Ts.trans {H H1 H2 : Hp} (a : Ts H H1) (b : Ts H1 H2) : Ts H H2 := fun c xs e => b c xs (a c xs e)
theorem Ts.same {H H' : Hp} (s : Same H H') : Ts H H' := fun b xs e => s _ _ e
theorem Ts.gr {H H' : Hp} (s : Gr H H') : Ts H H' := fun b xs e => s.tup e
theorem Ts.new {H : Hp} {p : Addr} {o : HO} (h : H p = none) : Ts H (upd H p o) := Ts.same (same_upd h)
theorem Ts.set {H : Hp} {p : Addr} {xs ys : List V} (h : H p = some (.lst xs)) : Ts H (upd H p (.lst ys)) := fun b zs e => by
  rw [upd_ne (ne_of e h (by intro z; cases z))]
  exact e
mutual
theorem Tk.ts {H H' : Hp} (s : Ts H H') : ∀ {v : V} {d : PyData}, Tk H v d → noL d = true → Tk H' v d
  | _, _, .bl b, _ => .bl b
  | _, _, .int i, _ => .int i
  | _, _, .str x, _ => .str x
  | _, _, .lst h t, n => by cases n
  | _, _, .tup h t, n => .tup (s _ _ h) (t.ts s n)
theorem TkAll.ts {H H' : Hp} (s : Ts H H') : ∀ {vs : List V} {ds : List PyData}, TkAll H vs ds → noLs ds = true → TkAll H' vs ds
  | _, _, .nil, _ => .nil
  | _, _, .cons (d := d) (ds := ds) h t, n => by
    have n' : noL d = true ∧ noLs ds = true := Bool.and_eq_true_iff.mp n
    exact .cons (h.ts s n'.1) (t.ts s n'.2)
end
theorem noLs_map {α : Type} {f : α → PyData} (h : ∀ x, noL (f x) = true) : ∀ l : List α, noLs (l.map f) = true
  | [] => rfl
  | x :: r => by
    show (noL (f x) && noLs (r.map f)) = true
    rw [h x, noLs_map h r]
    rfl
theorem noL_row (r : List Int) : noL (rowD r) = true := noLs_map (fun _ => rfl) r
theorem noL_gate (g : Gt) : noL (gD g) = true := by
  show (true && (noLs ((g.2.map Int.ofNat).map PyData.int) && true)) = true
  rw [noLs_map (fun _ => rfl)]
  rfl
theorem noL_gates (gs : List Gt) : noLs (gs.map gD) = true := noLs_map noL_gate gs
theorem noL_net (m : Int) (gs : List Gt) : noL (netD m gs) = true := by
  show (true && (noLs (gs.map gD) && true)) = true
  rw [noL_gates]
  rfl
theorem noL_ch (a b : List Int) : noL (chD a b) = true := by
  show (noL (rowD a) && (noL (rowD b) && true)) = true
  rw [noL_row, noL_row]
  rfl

theorem noL_words (ws : List Wd) : noL (.tuple (ws.map wD)) = true := noLs_map (fun _ => rfl) ws

section
variable {P : Program} {w : World} {K : PySem.W.Frag} {mg : Str → Option Value} {base : Heap}
/-! ### what is a net: of nets -/
theorem kII : kitB "int" "int" = some true := by decide +kernel
theorem kIB : kitB "int" "bool" = some false := by decide +kernel
theorem kTT : kitB "tuple" "tuple" = some true := by decide +kernel
theorem kSS : kitB "str" "str" = some true := by decide +kernel
theorem kBB : kitB "bool" "bool" = some true := by decide +kernel
def sp_is_whole (K : PySem.W.Frag) : Sp := fun vs H Q _ => ∃ i : Int, vs = [.int i] ∧ Q (.bl true) H
theorem ok_is_whole (T : Tx K mg) : FnOk P w K mg base CX0 1 T.f_is_whole T.fd_is_whole ["thing"] (sp_is_whole K) := by
  refine T.F_is_whole.ok sc_is_whole (fun vs H Q E h => ?_) (fun cdv A outer s H vs Q E hr h => ?_)
  · obtain ⟨i, rfl, _⟩ := h
    rfl
  · obtain ⟨i, rfl, q⟩ := h
    refine ⟨_, (pss_one (ps_ret (pe_and (pe_callB call_isi (by rfl) T.m_isinstance (by decide +kernel) (pa_cons (pv 0) (pa_cons (pe_bltn (v := .ty "int") (u := .type "int") (by rfl) T.m_int (by decide +kernel) rfl) pa_nil))) (pe_one (pe_not (pe_callB call_isi (by rfl) T.m_isinstance (by decide +kernel) (pa_cons (pv 0) (pa_cons (pe_bltn (v := .ty "bool") (u := .type "bool") (by rfl) T.m_bool (by decide +kernel) rfl) pa_nil)))))))), ?_⟩
    refine ⟨.int i, rfl, _, _, _, _, _, rfl, .ty _, .base (.int i), kit_ty kII, _, rfl, iteT ?_⟩
    exact ⟨.int i, rfl, _, _, _, _, _, rfl, .ty _, .base (.int i), kit_ty kIB, _, rfl, q⟩
def sp_is_signs (K : PySem.W.Frag) (Pt : Addr) : Sp := fun vs H Q _ => ∃ (k : Nat) (bs : List Bool), vs = [.int k, .str (tabOf bs)] ∧ bs.length = k ∧ k ≤ 64 ∧ GxR.TabG H Pt ∧ ∀ H', Gr H H' → Q (.bl true) H'
theorem ok_is_signs (T : Tx K mg) (B : Tb base T) : FnOk P w K mg base CX0 2 T.f_is_signs T.fd_is_signs ["many", "thing"] (sp_is_signs K T.P_is_signs) := by
  refine okC T.F_is_signs sc_is_signs (fun vs H Q E h => ?_) (fun A outer s H vs Q E hr h => ?_)
  · obtain ⟨k, bs, rfl, _⟩ := h
    rfl
  · obtain ⟨k, bs, rfl, lb, h64, tab, q⟩ := h
    refine ⟨_, (pss_one (ps_ret (pe_and (pe_callB call_isi (by rfl) T.m_isinstance (by decide +kernel) (pa_cons (pv 1) (pa_cons (pe_bltn (v := .ty "str") (u := .type "str") (by rfl) T.m_str (by decide +kernel) rfl) pa_nil))) (pe_and (pe_cmpR op_eq (pe_callB call_len_str (by rfl) T.m_len PySem.boot_len (pa_cons (pv 1) pa_nil)) (pv 0) (nomark _)) (pe_one (pe_allX (own := [("sign", 2)]) (k := 0) (hr.mono (by decide)) rfl sc_is_signs.nd (by rfl) T.m_all (by decide +kernel) B.TB_is_signs T.cd_is_signs rfl rfl (by decide +kernel) (blkOk_by (own := [("sign", 2)]) (N := ["many", "thing", "sign"]) (sc := defScope s_is_signs) (by decide +kernel)) (pi_str (pv 1)) (fun _ _ _ _ _ _ _ hr gd => (pg_name (i := 2) sc_is_signs.nd rfl (by first | exact .inl rfl | exact .inr rfl))) (fun _ _ _ _ _ _ _ hr gd => pts_nil) (fun _ _ _ _ _ _ _ hr gd => (pe_cmpR op_in_sign (pv 2) pe_str rfl)) (fun _ => rfl))))))), ?_⟩
    have tl : (tabOf bs).length = k := by rw [← lb]; simp [tabOf, Str.length]
    refine ⟨.str (tabOf bs), rfl, _, _, _, _, _, rfl, .ty _, .base (.str _), kit_ty kSS, _, rfl, iteT ?_⟩
    refine ⟨.str (tabOf bs), rfl, _, rfl, by rw [tl]; exact Nat.le_trans h64 (by decide), ?_⟩
    rw [tl]
    refine ⟨.int k, rfl, rfl, _, rfl, ?_⟩
    rw [decide_eq_true rfl]
    refine iteT ?_
    refine ⟨.str (tabOf bs), rfl, tabOf bs, rfl, tab, fun H2 tb => ?_⟩
    have g2 := Gr.tab tab tb
    refine gx_str (z := tabOf bs) (fun j _ H' => H' = H2) rfl ?_ ?_
    · rintro j x _ H' hx rfl
      refine ⟨rfl, .str ⟨#[x]⟩, rfl, x, _, rfl, rfl, true, ?_, rfl⟩
      have hm : x = 48 ∨ x = 49 := by
        have hx' : (bs.map fun b => if b = true then 49 else 48)[j]? = some x := by
          have : (tabOf bs).cps[j]? = some x := hx
          simpa [tabOf] using this
        rw [List.getElem?_map] at hx'
        cases hb : bs[j]? with
        | none => rw [hb] at hx'; cases hx'
        | some b =>
          rw [hb] at hx'
          cases Option.some.inj hx'
          cases b
          · exact .inl rfl
          · exact .inr rfl
      rcases hm with rfl | rfl <;> rfl
    · rintro _ H' rfl
      exact q H' g2
def Tabs2 (T : Tx K mg) (H : Hp) : Prop := GxR.TabG H T.P_is_signs ∧ GxR.TabG H T.P_is_gate ∧ GxR.TabG H T.P_is_net
theorem Tabs2.gr {T : Tx K mg} {H H' : Hp} (t : Tabs2 T H) (g : Gr H H') : Tabs2 T H' := ⟨g.2 _ t.1, g.2 _ t.2.1, g.2 _ t.2.2⟩
def sp_is_gate (T : Tx K mg) : Sp := fun vs H Q _ => ∃ (n : Nat) (gv : V) (g : Gt), vs = [.int n, gv] ∧ Tk H gv (gD g) ∧ GtOk n g ∧ Tabs2 T H ∧ ∀ H', Gr H H' → Q (.bl true) H'
theorem ok_is_gate (T : Tx K mg) (B : Tb base T) : FnOk P w K mg base CX0 3 T.f_is_gate T.fd_is_gate ["wires", "thing"] (sp_is_gate T) := by
  refine okC T.F_is_gate sc_is_gate (fun vs H Q E h => ?_) (fun A outer s H vs Q E hr h => ?_)
  · obtain ⟨n, gv, g, rfl, _⟩ := h
    rfl
  · obtain ⟨n, gv, g, rfl, tg, ⟨o1, o2, o3, o4⟩, tabs, q⟩ := h
    refine ⟨_, (pss_cons (ps_if (pw_or (pt_not (pt_val (pe_callB call_isi (by rfl) T.m_isinstance (by decide +kernel) (pa_cons (pv 1) (pa_cons (pe_bltn (v := .ty "tuple") (u := .type "tuple") (by rfl) T.m_tuple (by decide +kernel) rfl) pa_nil))))) (pw_or1 (pt_cmpR op_ne (pe_callB call_len_seq (by rfl) T.m_len PySem.boot_len (pa_cons (pv 1) pa_nil)) pe_int (nomark _)))).pt (pss_one (ps_ret pe_bl)) pss_nil) (pss_cons (ps_asg (pv 1) (pg_tup rfl (pgs_cons (pg_name (i := 2) sc_is_gate.nd rfl (by first | exact .inl rfl | exact .inr rfl)) (pgs_cons (pg_name (i := 3) sc_is_gate.nd rfl (by first | exact .inl rfl | exact .inr rfl)) pgs_nil)))) (pss_cons (ps_if (pw_or (pt_not (pt_val (pe_callB call_isi (by rfl) T.m_isinstance (by decide +kernel) (pa_cons (pv 3) (pa_cons (pe_bltn (v := .ty "tuple") (u := .type "tuple") (by rfl) T.m_tuple (by decide +kernel) rfl) pa_nil))))) (pw_or1 (pt_not (pt_chain op_le op_le pe_int (pe_callB call_len_seq (by rfl) T.m_len PySem.boot_len (pa_cons (pv 3) pa_nil)) (pe_glob (v := .int 3) (by rfl) T.k_MOST_INS.choose_spec ⟨_, rfl⟩))))).pt (pss_one (ps_ret pe_bl)) pss_nil) (pss_one (ps_ret (pe_and (pe_call (ok_is_signs T B) (hr.mono (by decide)) (by rfl) T.g_is_signs T.F_is_signs.kp T.b_is_signs .nil pass0 (pa_cons (pe_op op_shl pe_int (pe_callB call_len_seq (by rfl) T.m_len PySem.boot_len (pa_cons (pv 3) pa_nil))) (pa_cons (pv 2) pa_nil))) (pe_one (pe_allX (own := [("wire", 4)]) (k := 1) (hr.mono (by decide)) rfl sc_is_gate.nd (by rfl) T.m_all (by decide +kernel) B.TB_is_gate T.cd_is_gate rfl rfl (by decide +kernel) (blkOk_by (own := [("wire", 4)]) (N := ["wires", "thing", "table", "ins", "wire"]) (sc := defScope s_is_gate) (by decide +kernel)) (pi_tup (pv 3)) (fun _ _ _ _ _ _ _ hr gd => (pg_name (i := 4) sc_is_gate.nd rfl (by first | exact .inl rfl | exact .inr rfl))) (fun _ _ _ _ _ _ _ hr gd => pts_nil) (fun _ _ _ _ _ _ _ hr gd => (pe_and (pe_call (ok_is_whole T) (hr.mono (by decide)) (by rfl) T.g_is_whole T.F_is_whole.kp T.b_is_whole .nil pass0 (pa_cons (pv 4) pa_nil)) (pe_one (pe_chain op_le op_lt pe_int (pv 4) (pv 0))))) (fun _ => rfl))))))))), ?_⟩
    obtain ⟨a, i, rfl, ha, hi⟩ := tg.gt_inv
    refine ⟨.ref a, rfl, _, _, _, _, _, rfl, .ty _, .base (.tup ha), kit_ty kTT, _, rfl, iteF ⟨.ref a, rfl, a, _, rfl, .inr (SqT.of ha), rfl, _, rfl, iteF ?_⟩⟩
    refine ⟨.ref a, rfl, a, _, rfl, SqT.of ha, rfl, _, _, rfl, _, _, rfl, rfl, ?_⟩
    have li : (List.map V.int (List.map Int.ofNat g.2)).length = g.2.length := by rw [List.length_map, List.length_map]
    refine ⟨.ref i, rfl, _, _, _, _, _, rfl, .ty _, .base (.tup hi), kit_ty kTT, _, rfl, iteF ⟨.ref i, rfl, i, _, rfl, .inr (SqT.of hi), ?_⟩⟩
    rw [li]
    refine ⟨1, _, rfl, rfl, _, rfl, ?_⟩
    rw [decide_eq_true (show (1 : Int) ≤ (g.2.length : Int) by omega)]
    refine iteT ⟨_, 3, rfl, rfl, _, rfl, ?_⟩
    rw [decide_eq_true (show (g.2.length : Int) ≤ 3 by omega)]
    refine iteF ?_
    refine ⟨.ref i, rfl, i, _, rfl, .inr (SqT.of hi), ?_⟩
    rw [li]
    refine ⟨1, _, rfl, rfl, ⟨by omega, by omega, by decide⟩, .str (tabOf g.1), rfl, g.1.length, g.1, ?_, rfl, ?_, tabs.1, fun H2 g2 => ⟨_, rfl, iteT ?_⟩⟩
    · have : (1 : Int) * 2 ^ ((g.2.length : Int)).toNat = (g.1.length : Int) := by
        rw [o1]
        simp
      show [V.int ((1 : Int) * 2 ^ ((g.2.length : Int)).toNat), V.str (tabOf g.1)] = _
      rw [this]
    · rw [o1]
      have : g.2.length = 1 ∨ g.2.length = 2 ∨ g.2.length = 3 := by omega
      rcases this with h | h | h <;> rw [h] <;> decide
    have hi2 := g2.tup hi
    have tabs2 := tabs.gr g2
    refine ⟨.ref i, rfl, i, rfl, ⟨_, SqT.of hi2⟩, tabs2.2.1, fun H3 tb3 => ?_⟩
    have g3 := Gr.tab tabs2.2.1 tb3
    refine gx_tup (K := K) (a := i) (xs := (g.2.map Int.ofNat).map V.int) (fun j _ H' => H' = H3) rfl (fun j _ H' _ e => by rw [e]; exact SqT.of (g3.tup hi2)) ?_ ?_
    · rintro j x _ H' hx rfl
      rw [List.getElem?_map, List.getElem?_map] at hx
      cases hj : g.2[j]? with
      | none => rw [hj] at hx; cases hx
      | some k =>
        rw [hj] at hx
        cases Option.some.inj hx
        have hk := o4 k (List.mem_of_getElem? hj)
        refine ⟨rfl, .int (Int.ofNat k), rfl, _, rfl, _, rfl, iteT ?_⟩
        refine ⟨.int (Int.ofNat k), rfl, 0, _, rfl, rfl, _, rfl, ?_⟩
        rw [decide_eq_true (show (0 : Int) ≤ Int.ofNat k from Int.natCast_nonneg k)]
        refine iteT ⟨.int n, rfl, _, _, rfl, rfl, true, ?_, rfl⟩
        dsimp only
        rw [decide_eq_true (show Int.ofNat k < (n : Int) from Int.ofNat_lt.mpr hk)]
    · rintro _ H' rfl
      exact q H' (g2.trans g3)
def sp_is_net (T : Tx K mg) : Sp := fun vs H Q _ => ∃ (nv : V) (m : Nat) (gs : List Gt), vs = [nv] ∧ Tk H nv (netD m gs) ∧ 1 ≤ m ∧ m ≤ 6 ∧ 1 ≤ gs.length ∧ NetOk m gs ∧ Tabs2 T H ∧ ∀ H', Gr H H' → Q (.bl true) H'
theorem ok_is_net (T : Tx K mg) (B : Tb base T) : FnOk P w K mg base CX0 5 T.f_is_net T.fd_is_net ["thing"] (sp_is_net T) := by
  refine okC T.F_is_net sc_is_net (fun vs H Q E h => ?_) (fun A outer s H vs Q E hr h => ?_)
  · obtain ⟨nv, m, gs, rfl, _⟩ := h
    rfl
  · obtain ⟨nv, m, gs, rfl, tn, m1, m6, g1, ok, tabs, q⟩ := h
    refine ⟨_, (pss_cons (ps_if (pw_or (pt_not (pt_val (pe_callB call_isi (by rfl) T.m_isinstance (by decide +kernel) (pa_cons (pv 0) (pa_cons (pe_bltn (v := .ty "tuple") (u := .type "tuple") (by rfl) T.m_tuple (by decide +kernel) rfl) pa_nil))))) (pw_or1 (pt_cmpR op_ne (pe_callB call_len_seq (by rfl) T.m_len PySem.boot_len (pa_cons (pv 0) pa_nil)) pe_int (nomark _)))).pt (pss_one (ps_ret pe_bl)) pss_nil) (pss_cons (ps_asg (pv 0) (pg_tup rfl (pgs_cons (pg_name (i := 1) sc_is_net.nd rfl (by first | exact .inl rfl | exact .inr rfl)) (pgs_cons (pg_name (i := 2) sc_is_net.nd rfl (by first | exact .inl rfl | exact .inr rfl)) pgs_nil)))) (pss_cons (ps_if (pw_or (pt_not (pt_val (pe_call (ok_is_whole T) (hr.mono (by decide)) (by rfl) T.g_is_whole T.F_is_whole.kp T.b_is_whole .nil pass0 (pa_cons (pv 1) pa_nil)))) (pw_or1 (pt_not (pt_chain op_le op_le pe_int (pv 1) (pe_glob (v := .int 6) (by rfl) T.k_MOST_INPUTS.choose_spec ⟨_, rfl⟩))))).pt (pss_one (ps_ret pe_bl)) pss_nil) (pss_cons (ps_if (pw_or (pt_not (pt_val (pe_callB call_isi (by rfl) T.m_isinstance (by decide +kernel) (pa_cons (pv 2) (pa_cons (pe_bltn (v := .ty "tuple") (u := .type "tuple") (by rfl) T.m_tuple (by decide +kernel) rfl) pa_nil))))) (pw_or1 (pt_cmpR op_eq (pe_callB call_len_seq (by rfl) T.m_len PySem.boot_len (pa_cons (pv 2) pa_nil)) pe_int (nomark _)))).pt (pss_one (ps_ret pe_bl)) pss_nil) (pss_one (ps_ret (pe_allX (own := [("number", 3), ("gate", 4)]) (k := 3) (hr.mono (by decide)) rfl sc_is_net.nd (by rfl) T.m_all (by decide +kernel) B.TB_is_net T.cd_is_net rfl rfl (by decide +kernel) (blkOk_by (own := [("number", 3), ("gate", 4)]) (N := ["thing", "many", "gates", "number", "gate"]) (sc := defScope s_is_net) (by decide +kernel)) (pi_enumT (by rfl) T.m_enumerate (pa_cons (pv 2) pa_nil)) (fun _ _ _ _ _ _ _ hr gd => (show PG _ _ (gTup K 2 _) from pg_tup rfl (pgs_cons (pg_name (i := 3) sc_is_net.nd rfl (by first | exact .inl rfl | exact .inr rfl)) (pgs_cons (pg_name (i := 4) sc_is_net.nd rfl (by first | exact .inl rfl | exact .inr rfl)) pgs_nil)))) (fun _ _ _ _ _ _ _ hr gd => pts_nil) (fun _ _ _ _ _ _ _ hr gd => (pe_call (ok_is_gate T B) (hr.mono (by decide)) (by rfl) T.g_is_gate T.F_is_gate.kp T.b_is_gate .nil pass0 (pa_cons (pe_op op_add (pv 1) (pv 3)) (pa_cons (pv 4) pa_nil)))) (fun _ => rfl)))))))), ?_⟩
    obtain ⟨a, g, xs, rfl, ha, hg, tg⟩ := tn.net_inv
    have xl : xs.length = gs.length := by rw [tg.length, List.length_map]
    refine ⟨.ref a, rfl, _, _, _, _, _, rfl, .ty _, .base (.tup ha), kit_ty kTT, _, rfl, iteF ⟨.ref a, rfl, a, _, rfl, .inr (SqT.of ha), rfl, _, rfl, iteF ?_⟩⟩
    refine ⟨.ref a, rfl, a, _, rfl, SqT.of ha, rfl, _, _, rfl, _, _, rfl, rfl, ?_⟩
    refine ⟨.int m, rfl, _, rfl, _, rfl, iteF ⟨.int m, rfl, 1, _, rfl, rfl, _, rfl, ?_⟩⟩
    rw [decide_eq_true (show (1 : Int) ≤ (m : Int) by omega)]
    refine iteT ⟨_, 6, rfl, rfl, _, rfl, ?_⟩
    rw [decide_eq_true (show (m : Int) ≤ 6 by omega)]
    refine iteF ?_
    refine ⟨.ref g, rfl, _, _, _, _, _, rfl, .ty _, .base (.tup hg), kit_ty kTT, _, rfl, iteF ⟨.ref g, rfl, g, _, rfl, .inr (SqT.of hg), rfl, _, rfl, ?_⟩⟩
    have e0 : decide (V.int (xs.length : Int) = V.int 0) = false := decide_eq_false fun z => by
      have := V.int.inj z
      omega
    rw [e0]
    refine iteF ?_
    refine ⟨.ref g, rfl, g, _, rfl, SqT.of hg, tabs.2.2, fun H2 tb2 => ?_⟩
    have g2 := Gr.tab tabs.2.2 tb2
    refine gx_enum (K := K) (a := g) (xs := xs) (fun j _ H' => Gr H H') g2 (fun j _ H' _ e => SqT.of (e.tup hg)) ?_ ?_
    · rintro j x Tq _ H' hx nT gr
      obtain ⟨gt, hgt, tgt⟩ := tg.at hx
      have g3 : Gr H (upd H' Tq (.tup [.int (j : Nat), x])) := gr.trans (Gr.none nT)
      refine ⟨Tq, _, rfl, SqT.of upd_same, rfl, _, _, rfl, _, _, rfl, rfl, rfl, ?_⟩
      refine ⟨.int m, rfl, .int (j : Nat), rfl, _, _, rfl, rfl, x, rfl, m + j, x, gt, ?_, tgt.gr g3, ok j gt hgt, tabs.gr g3, fun H4 g4 => ⟨true, rfl, g3.trans g4⟩⟩
      show [V.int ((m : Int) + (j : Int)), x] = [V.int ((m + j : Nat) : Int), x]
      rw [Int.natCast_add]
    · rintro _ H' gr
      exact q H' gr

end
end Gk

set_option Elab.async false
set_option linter.all false
set_option maxRecDepth 100000
set_option maxHeartbeats 1000000
namespace Gk
open PySem PySem.Spec PyProof.Rows L2
section
variable {P : Program} {w : World} {K : PySem.W.Frag} {mg : Str → Option Value} {base : Heap}
/-! ### the deck of three parts -/
theorem p03 : (0 : Int) < 1000003 := by decide
def DeckB (H : Hp) (d l : Addr) (n : Int) : Prop := d ≠ l ∧ ∃ (cs : List Int) (z y : Int), H d = some (.lst [.ref l, .int z, .int y]) ∧ H l = some (.lst (cs.map V.int)) ∧ cs.length ≤ 63 ∧ 0 ≤ z ∧ z ≤ n
theorem DeckB.mono {H : Hp} {d l : Addr} {n m : Int} (D : DeckB H d l n) (h : n ≤ m) : DeckB H d l m := by
  obtain ⟨ne, cs, z, y, h1, h2, h3, h4, h5⟩ := D
  exact ⟨ne, cs, z, y, h1, h2, h3, h4, Int.le_trans h5 h⟩
theorem DeckB.same {H H' : Hp} {d l : Addr} {n : Int} (D : DeckB H d l n) (s : Same H H') : DeckB H' d l n := by
  obtain ⟨ne, cs, z, y, hd, hl, r⟩ := D
  exact ⟨ne, cs, z, y, s _ _ hd, s _ _ hl, r⟩
theorem DeckB.gr {H H' : Hp} {d l : Addr} {n : Int} (D : DeckB H d l n) (s : Gr H H') : DeckB H' d l n := by
  obtain ⟨ne, cs, z, y, hd, hl, r⟩ := D
  exact ⟨ne, cs, z, y, s.lst hd, s.lst hl, r⟩
theorem lc_enum {K : PySem.W.Frag} {a : Addr} {xs : List V} {g : TG} {tt : TT} {te : TE} {vs : List Nat} {σ : L2.St} {H1 : Hp} {D : Addr} {Qd : Hp → Prop} (Pv : Nat → Hp → Prop) (h0 : Pv 0 (upd H1 D (.lst []))) (hl : ∀ i H, i ≤ xs.length → Pv i H → SqL K H a xs)
    (hs : ∀ i x T H, xs[i]? = some x → H T = none → Pv i H → g (.ref T) (wipe σ vs) (upd H T (.tup [.int (i : Nat), x])) fun σ2 H2 => wipe σ2 vs = wipe σ vs ∧ tt σ2 H2 fun b H3 =>
      if b = true then te σ2 H3 fun y H4 => ∃ acc, H4 D = some (.lst acc) ∧ acc.length < sizeLine ∧ Pv (i + 1) (upd H4 D (.lst (acc ++ [y]))) else Pv (i + 1) H3) (hd : ∀ H, Pv xs.length H → Qd H) :
    ∃ W : Nat → Nat → Hp → Prop, (∃ m, W 0 m (upd H1 D (.lst []))) ∧ ∀ i m H, W i m H →
      ((Ite K a).stop i H ∧ Qd H) ∨ ((Ite K a).go i H ∧ ∃ Nx : Hp → Prop, (∀ H', Nx H' → ∃ m', m' < m ∧ W (i + 1) m' H') ∧ ∀ x H', (Ite K a).yld i H x H' → g x (wipe σ vs) H' fun σ2 H2 => wipe σ2 vs = wipe σ vs ∧ tt σ2 H2 fun b H3 =>
        if b = true then te σ2 H3 fun y H4 => ∃ acc, H4 D = some (.lst acc) ∧ acc.length < sizeLine ∧ Nx (upd H4 D (.lst (acc ++ [y]))) else Nx H3) := by
  refine ⟨fun i m H => m = xs.length - i ∧ i ≤ xs.length ∧ Pv i H, ⟨xs.length, by simp, Nat.zero_le _, h0⟩, ?_⟩
  rintro i m H ⟨rfl, hi, p⟩
  have qx := hl i H hi p
  by_cases hlt : i < xs.length
  · have hx : xs[i]? = some xs[i] := List.getElem?_eq_getElem hlt
    refine .inr ⟨⟨xs, _, qx, hx⟩, Pv (i + 1), fun H' p' => ⟨xs.length - (i + 1), by omega, rfl, hlt, p'⟩, fun x H' y => ?_⟩
    obtain ⟨T, x1, rfl, nT, rfl, e1⟩ := y
    exact hs i x1 T H (e1 xs qx) nT p
  · have e : i = xs.length := by omega
    subst e
    exact .inl ⟨⟨xs, qx, Nat.le_refl _⟩, hd H p⟩
theorem cutB {ns : List Int} (h : ns.length ≤ 63) : cutV (ns.map V.int) none (some 63) = ns.map V.int := by
  unfold cutV
  have e : HT.sIx (ns.map V.int).length (ns.map V.int).length (some 63) = min 63 (ns.map V.int).length := HT.sIx_nat _ _ 63
  rw [HT.sIx_none, e, List.length_map, List.drop_zero]
  apply List.take_of_length_le
  rw [List.length_map]
  omega
def sp_deck (K : PySem.W.Frag) : Sp := fun vs H Q _ => ∃ (a : Addr) (ns : List Int), vs = [.ref a] ∧ SqL K H a (ns.map V.int) ∧ ns.length ≤ 63 ∧ ∀ H' d l, Same H H' → DeckB H' d l 0 → Q (.ref d) H'
theorem ok_deck (T : Tx K mg) : FnOk P w K mg base CX0 1 T.f_deck T.fd_deck ["_law_script"] (sp_deck K) := by
  refine T.F_deck.ok sc_deck (fun vs H Q E h => ?_) (fun cdv A outer s H vs Q E hr h => ?_)
  · obtain ⟨a, ns, rfl, _⟩ := h
    rfl
  · obtain ⟨a, ns, rfl, hS, hlen, q⟩ := h
    refine ⟨_, (pss_cons (ps_set (i := 1) sc_deck.nd rfl (by first | exact .inl rfl | exact .inr rfl) (pe_callTy call_list_of (by rfl) T.m_list (by decide +kernel) (pa_cons (pe_slice sl_list (pv 0) po_none (po_some pe_int)) pa_nil))) (pss_one (ps_ret (pe_lst (pa_cons (pv 1) (pa_cons pe_int (pa_cons (pe_callB (cr_sum rfl) (by rfl) T.m_sum (by decide +kernel) (pa_cons (pe_lc (own := [("_law_k", 2), ("_law_cell", 3)]) (by rfl) sc_deck.nd (pi_enum (by rfl) T.m_enumerate (pa_cons (pv 1) pa_nil)) (blkOk_by (own := [("_law_k", 2), ("_law_cell", 3)]) (N := ["_law_script", "_law_cells", "_law_k", "_law_cell"]) (sc := defScope s_deck) (by decide +kernel)) (fun _ _ _ _ _ => (show PG _ _ (gTup K 2 _) from pg_tup rfl (pgs_cons (pg_name (i := 2) sc_deck.nd rfl (by first | exact .inl rfl | exact .inr rfl)) (pgs_cons (pg_name (i := 3) sc_deck.nd rfl (by first | exact .inl rfl | exact .inr rfl)) pgs_nil)))) (fun _ _ _ _ _ => pts_nil) (fun _ _ _ _ _ => (pe_op op_mul (pe_op op_mod (pv 3) pe_int) (pe_op op_add (pv 2) pe_int)))) pa_nil)) pa_nil))))))), ?_⟩
    refine ⟨.ref a, rfl, 63, rfl, a, _, rfl, hS, fun c2 nc2 => ?_⟩
    rw [cutB hlen]
    refine ⟨c2, _, rfl, .inl (SqL.of upd_same), fun l nl => ?_⟩
    have s1 : Same H (upd (upd H c2 (.lst (ns.map V.int))) l (.lst (ns.map V.int))) := (same_upd nc2).trans (same_upd nl)
    have h1 : (upd (upd H c2 (.lst (ns.map V.int))) l (.lst (ns.map V.int))) l = some (.lst (ns.map V.int)) := upd_same
    revert s1 h1
    generalize upd (upd H c2 (.lst (ns.map V.int))) l (.lst (ns.map V.int)) = H1
    intro s1 h1
    refine ⟨.ref l, rfl, .ref l, rfl, l, _, rfl, SqL.of h1, fun D nD => ?_⟩
    refine lc_enum (K := K) (a := l) (xs := ns.map V.int) (fun i H' => Same H1 (hd1 D H') ∧ ∃ ms : List Int, H' D = some (.lst (ms.map V.int)) ∧ ms.length = i) ⟨hd1_of (same_upd nD) nD, [], upd_same, rfl⟩ (fun i H' _ hP => SqL.of (hd1_le _ _ (hP.1 _ _ h1))) ?_ ?_
    · rintro i x Tq H2 hx nT ⟨s2, ms, hD, lm⟩
      rw [List.getElem?_map] at hx
      cases hj : ns[i]? with
      | none => rw [hj] at hx; cases hx
      | some c =>
        rw [hj] at hx
        cases Option.some.inj hx
        have hi := (List.getElem?_eq_some_iff.mp hj).1
        refine ⟨Tq, _, rfl, SqT.of upd_same, rfl, _, _, rfl, _, _, rfl, rfl, rfl, ?_⟩
        refine ⟨.int c, rfl, _, _, rfl, rfl, p03, .int (i : Nat), rfl, _, _, rfl, rfl, c % 1000003, (i : Int) + 2, rfl, rfl, .inr ⟨by omega, by omega⟩, ?_⟩
        have hD2 : (upd H2 Tq (.tup [.int (i : Nat), .int c])) D = some (.lst (ms.map V.int)) := by
          rw [upd_ne (ne_of_none hD nT)]
          exact hD
        refine ⟨_, hD2, ?_, (s2.trans (hd1_same (same_upd nT))).trans hd1_upd, ms ++ [c % 1000003 * ((i : Int) + 2)], ?_, by rw [List.length_append, lm]; rfl⟩
        · rw [List.length_map, lm]
          exact Nat.lt_of_lt_of_le (show i < 64 by omega) (by decide)
        · rw [upd_same, List.map_append]
          rfl
    · rintro H2 ⟨s2, ms, hD, lm⟩
      have s12 : Same H1 H2 := fun b o e => hd1_le _ _ (s2 _ _ e)
      refine ⟨D, ms, rfl, SqL.of hD, sl3, fun d nd => ?_⟩
      have nld : l ≠ d := ne_of_none (s12 _ _ h1) nd
      exact q _ d l ((s1.trans s12).trans (same_upd nd)) ⟨nld.symm, ns, 0, ms.sum, upd_same, (by rw [upd_ne nld]; exact s12 _ _ h1), hlen, Int.le_refl _, Int.le_refl _⟩
/-! ### a draw -/
def sp_draw (K : PySem.W.Frag) : Sp := fun vs H Q _ => ∃ (d l : Addr) (m n : Int), vs = [.ref d, .int m] ∧ DeckB H d l n ∧ n < 1000000000 ∧ 0 < m ∧ m < 1073741824 ∧ ∀ H' v, DeckB H' d l (n + 1) → Fr d l H H' → 0 ≤ v → v < m → Q (.int v) H'
theorem ok_draw (T : Tx K mg) : FnOk P w K mg base CX0 1 T.f_draw T.fd_draw ["_law_deck_here", "_law_most"] (sp_draw K) := by
  refine T.F_draw.ok sc_draw (fun vs H Q E h => ?_) (fun cdv A outer s H vs Q E hr h => ?_)
  · obtain ⟨d, l, m, n, rfl, _⟩ := h
    rfl
  · obtain ⟨d, l, m, n, rfl, D, hn, hm0, hm1, q⟩ := h
    obtain ⟨ne, cs, z, y, hd, hl, hcs, hz0, hz1⟩ := D
    refine ⟨_, (pss_cons (ps_asg (pe_op op_add (pe_ix ix_list (pv 0) pe_int (fun _ _ => rfl)) pe_int) (pg_sub (pv 0) pe_int set_list)) (pss_cons (ps_set (i := 2) sc_draw.nd rfl (by first | exact .inl rfl | exact .inr rfl) (pe_op op_add (pe_ix ix_list (pv 0) pe_int (fun _ _ => rfl)) (pe_op op_mul pe_int (pe_ix ix_list (pv 0) pe_int (fun _ _ => rfl))))) (pss_cons (ps_if (pt_cmpR (op_neD hr.units) (pe_ix ix_list (pv 0) pe_int (fun _ _ => rfl)) (pe_lst pa_nil) (nomark _)) (pss_cons (ps_set (i := 2) sc_draw.nd rfl (by first | exact .inl rfl | exact .inr rfl) (pe_bm PySem.F.plainAttrs_list PySem.F.slot_list_pop PySem.F.type_list_pop mt_popAt (pe_ix ix_list (pv 0) pe_int (fun _ _ => rfl)) (pa_cons pe_int pa_nil))) (pss_one (ps_if (pt_cmpR op_ge (pv 2) (pe_op op_pow pe_int pe_int) (nomark _)) (pss_cons (ps_expr (pe_bm PySem.F.plainAttrs_list PySem.F.slot_list_insert PySem.F.type_list_insert mt_insert (pe_ix ix_list (pv 0) pe_int (fun _ _ => rfl)) (pa_cons pe_int (pa_cons (pe_op op_fdiv (pv 2) (pv 1)) pa_nil)))) (pss_one (ps_ret (pe_op op_mod (pv 2) (pv 1))))) pss_nil))) pss_nil) (pss_cons (ps_set (i := 3) sc_draw.nd rfl (by first | exact .inl rfl | exact .inr rfl) (pe_op op_mod (pe_op op_mul (pe_op op_add (pe_op op_add (pe_op op_mod (pv 2) pe_int) (pe_op op_mul (pe_op op_mul pe_int (pe_ix ix_list (pv 0) pe_int (fun _ _ => rfl))) (pe_ix ix_list (pv 0) pe_int (fun _ _ => rfl)))) pe_int) pe_int) pe_int)) (pss_cons (ps_set (i := 3) sc_draw.nd rfl (by first | exact .inl rfl | exact .inr rfl) (pe_op op_mod (pe_op op_add (pe_op op_add (pe_op op_mul (pv 3) (pv 3)) (pe_op op_mul pe_int (pv 3))) (pe_ix ix_list (pv 0) pe_int (fun _ _ => rfl))) pe_int)) (pss_one (ps_ret (pe_op op_mod (pe_op op_fdiv (pv 3) pe_int) (pv 1))))))))), ?_⟩
    -- deck[1] = deck[1] + 1
    refine ⟨.ref d, rfl, d, _, 1, .int z, rfl, rfl, SqL.of hd, rfl, z, 1, rfl, rfl, .ref d, rfl, d, _, 1, 1, rfl, rfl, hd, rfl, ?_⟩
    have hd1 : (upd H d (.lst [.ref l, .int (z + 1), .int y])) d = some (.lst [.ref l, .int (z + 1), .int y]) := upd_same
    have hl1 : (upd H d (.lst [.ref l, .int (z + 1), .int y])) l = some (.lst (cs.map V.int)) := by rw [upd_ne ne.symm]; exact hl
    have fr1 : Fr d l H (upd H d (.lst [.ref l, .int (z + 1), .int y])) := Fr.d
    have hz2 : 0 ≤ z + 1 := by omega
    have hz3 : z + 1 ≤ n + 1 := by omega
    have hz4 : z + 1 < 2000000000 := by omega
    show tSeq _ _ _ _ (upd H d (.lst [.ref l, .int (z + 1), .int y]))
    revert hd1 hl1 fr1 hz2 hz3 hz4
    generalize upd H d (.lst [.ref l, .int (z + 1), .int y]) = H1
    generalize z + 1 = z'
    intro hd1 hl1 fr1 hz2 hz3 hz4
    -- cell = deck[2] + 104729 * deck[1]
    refine ⟨.ref d, rfl, d, _, 2, .int y, rfl, rfl, SqL.of hd1, rfl, .ref d, rfl, d, _, 1, .int z', rfl, rfl, SqL.of hd1, rfl, 104729, z', rfl, rfl, .inl ⟨by decide, by decide⟩, _, _, rfl, rfl, ?_⟩
    -- if deck[0] != []
    refine ⟨.ref d, rfl, d, _, 0, .ref l, rfl, rfl, SqL.of hd1, rfl, Nat.zero_le _, fun p np => ?_⟩
    have fr2 : Fr d l H (upd H1 p (.lst [])) := fr1.trans (Fr.new np)
    have hd2 : (upd H1 p (.lst [])) d = some (.lst [.ref l, .int z', .int y]) := same_upd np _ _ hd1
    have hl2 : (upd H1 p (.lst [])) l = some (.lst (cs.map V.int)) := same_upd np _ _ hl1
    refine ⟨.list (cs.map .int), .list [], .lst (SqL.of hl2) (dpInts cs), .lst (SqL.of upd_same) .nil, shInts cs, rfl, _, rfl, ?_⟩
    revert fr2 hd2 hl2
    generalize upd H1 p (.lst []) = H2
    intro fr2 hd2 hl2
    cases cs with
    | nil =>
      refine iteF ?_
      refine ⟨.int (y + 104729 * z'), rfl, _, _, rfl, rfl, p29, .ref d, rfl, d, _, 1, .int z', rfl, rfl, SqL.of hd2, rfl, 7919, z', rfl, rfl, .inl ⟨by decide, by decide⟩, .ref d, rfl, d, _, 1, .int z', rfl, rfl, SqL.of hd2, rfl, 7919 * z', z', rfl, rfl, .inr ⟨by omega, by omega⟩, _, _, rfl, rfl, _, _, rfl, rfl, _, 48271, rfl, rfl, .inr ⟨by decide, by decide⟩, _, _, rfl, rfl, p47, ?_⟩
      dsimp only
      have v0 := Int.emod_nonneg (((y + 104729 * z') % 2147483629 + 7919 * z' * z' + 31) * 48271) (show (2147483647 : Int) ≠ 0 by decide)
      have v1 := Int.emod_lt_of_pos (((y + 104729 * z') % 2147483629 + 7919 * z' * z' + 31) * 48271) (show (0 : Int) < 2147483647 by decide)
      revert v0 v1
      generalize (((y + 104729 * z') % 2147483629 + 7919 * z' * z' + 31) * 48271) % 2147483647 = v
      intro v0 v1
      refine ⟨.int v, rfl, .int v, rfl, v, v, rfl, rfl, .inl ⟨by omega, by omega⟩, .int v, rfl, 69621, v, rfl, rfl, .inl ⟨by decide, by decide⟩, _, _, rfl, rfl, .ref d, rfl, d, _, 1, .int z', rfl, rfl, SqL.of hd2, rfl, _, _, rfl, rfl, _, _, rfl, rfl, p87, ?_⟩
      refine ⟨.int ((v * v + 69621 * v + z') % 2147483587), rfl, _, _, rfl, rfl, ⟨by decide, by decide⟩, .int m, rfl, _, _, rfl, rfl, hm0, ?_⟩
      exact q _ _ ⟨ne, [], z', y, hd2, hl2, hcs, hz2, hz3⟩ fr2 (Int.emod_nonneg _ (by omega)) (Int.emod_lt_of_pos _ hm0)
    | cons c r =>
      refine iteT ?_
      -- cell = deck[0].pop(0)
      refine ⟨.ref d, rfl, d, _, 0, .ref l, rfl, rfl, SqL.of hd2, rfl, .inl ⟨rfl, _, SqL.of hl2⟩, l, _, 0, 0, .int c, rfl, rfl, hl2, by decide, by decide, seqIx0 _ _, rfl, ?_⟩
      have hd3 : (upd H2 l (.lst (r.map V.int))) d = some (.lst [.ref l, .int z', .int y]) := by rw [upd_ne ne]; exact hd2
      have hl3 : (upd H2 l (.lst (r.map V.int))) l = some (.lst (r.map V.int)) := upd_same
      have fr3 : Fr d l H (upd H2 l (.lst (r.map V.int))) := fr2.trans Fr.l
      have hr63 : r.length + 1 ≤ 63 := hcs
      -- if cell >= 10 ** 18
      refine ⟨.int c, rfl, _, _, rfl, rfl, ⟨by decide, by decide, by decide⟩, _, _, rfl, rfl, _, rfl, ite2 (fun _ => ?_) (fun _ => ?_)⟩
      · refine ⟨.ref d, rfl, d, _, 0, .ref l, rfl, rfl, SqL.of hd3, rfl, .inl ⟨rfl, _, SqL.of hl3⟩, .int c, rfl, .int m, rfl, _, _, rfl, rfl, ⟨hm0, hm1⟩, l, _, 0, _, rfl, rfl, hl3, ?_, by decide, by decide, ?_⟩
        · rw [List.length_map]
          exact Nat.lt_of_lt_of_le (show r.length < 64 by omega) (by decide)
        · refine ⟨.int c, rfl, .int m, rfl, _, _, rfl, rfl, hm0, ?_⟩
          refine q _ _ ⟨ne, c / m :: r, z', y, (by rw [upd_ne ne]; exact hd3), ?_, hr63, hz2, hz3⟩ (fr3.trans Fr.l) (Int.emod_nonneg _ (by omega)) (Int.emod_lt_of_pos _ hm0)
          rw [upd_same]
          simp
      · refine ⟨.int c, rfl, _, _, rfl, rfl, p29, .ref d, rfl, d, _, 1, .int z', rfl, rfl, SqL.of hd3, rfl, 7919, z', rfl, rfl, .inl ⟨by decide, by decide⟩, .ref d, rfl, d, _, 1, .int z', rfl, rfl, SqL.of hd3, rfl, 7919 * z', z', rfl, rfl, .inr ⟨by omega, by omega⟩, _, _, rfl, rfl, _, _, rfl, rfl, _, 48271, rfl, rfl, .inr ⟨by decide, by decide⟩, _, _, rfl, rfl, p47, ?_⟩
        dsimp only
        have v0 := Int.emod_nonneg ((c % 2147483629 + 7919 * z' * z' + 31) * 48271) (show (2147483647 : Int) ≠ 0 by decide)
        have v1 := Int.emod_lt_of_pos ((c % 2147483629 + 7919 * z' * z' + 31) * 48271) (show (0 : Int) < 2147483647 by decide)
        revert v0 v1
        generalize ((c % 2147483629 + 7919 * z' * z' + 31) * 48271) % 2147483647 = v
        intro v0 v1
        refine ⟨.int v, rfl, .int v, rfl, v, v, rfl, rfl, .inl ⟨by omega, by omega⟩, .int v, rfl, 69621, v, rfl, rfl, .inl ⟨by decide, by decide⟩, _, _, rfl, rfl, .ref d, rfl, d, _, 1, .int z', rfl, rfl, SqL.of hd3, rfl, _, _, rfl, rfl, _, _, rfl, rfl, p87, ?_⟩
        refine ⟨.int ((v * v + 69621 * v + z') % 2147483587), rfl, _, _, rfl, rfl, ⟨by decide, by decide⟩, .int m, rfl, _, _, rfl, rfl, hm0, ?_⟩
        exact q _ _ ⟨ne, r, z', y, hd3, hl3, by omega, hz2, hz3⟩ fr3 (Int.emod_nonneg _ (by omega)) (Int.emod_lt_of_pos _ hm0)

/-! ### drawn tables, nets, changes -/
def TabsIn (k : Nat) (bss : List (List Bool)) : Prop := bss ≠ [] ∧ bss.length ≤ 8 ∧ ∀ bs ∈ bss, bs.length = 2 ^ k
def vT (bs : List Bool) : V := .str (tabOf bs)
theorem tab_pick {k : Nat} {bss : List (List Bool)} (h : TabsIn k bss) {v : Int} (v0 : 0 ≤ v) (v1 : v < bss.length) : ∃ bs, atI (bss.map vT) v = some (vT bs) ∧ bs.length = 2 ^ k := by
  obtain ⟨j, rfl⟩ := Int.eq_ofNat_of_zero_le v0
  have hj : j < bss.length := by omega
  refine ⟨bss[j], atI_nat ?_, h.2.2 _ (List.getElem_mem hj)⟩
  rw [List.getElem?_map, List.getElem?_eq_getElem hj]
  rfl
def tabs1 : List (List Bool) := [[true, false], [false, true], [true, false]]
def tabs2 : List (List Bool) := [[false, false, false, true], [false, true, true, true], [false, true, true, false], [true, true, true, false], [true, false, false, false], [true, false, false, true], [false, false, true, false], [true, true, false, true]]
def tabs3 : List (List Bool) := [[false, false, false, false, false, false, false, true], [false, true, true, true, true, true, true, true], [false, true, true, false, true, false, false, true], [false, false, false, true, false, true, true, true],
  [false, false, true, true, false, true, false, true], [true, true, true, false, true, false, false, false], [true, false, false, false, false, false, false, false], [false, true, false, false, false, false, true, false]]
theorem tabsIn1 : TabsIn 1 tabs1 := ⟨by decide, by decide, by decide⟩
theorem tabsIn2 : TabsIn 2 tabs2 := ⟨by decide, by decide, by decide⟩
theorem tabsIn3 : TabsIn 3 tabs3 := ⟨by decide, by decide, by decide⟩
def sg (b : Bool) : Str := SX.S [if b = true then 49 else 48]
theorem sg0 : Str.ofString (toString (0 : Int)) = sg false := by decide +kernel
theorem sg1 : Str.ofString (toString (1 : Int)) = sg true := by decide +kernel
theorem joinL_nil : ∀ l : List (List Nat), TL.joinL [] l = l.flatten
  | [] => rfl
  | [p] => by simp [TL.joinL]
  | p :: q :: r => by
    show p ++ ([] ++ TL.joinL [] (q :: r)) = _
    rw [joinL_nil (q :: r)]
    rfl
theorem join_sg (bs : List Bool) : Txt.join (Str.ofString "") (bs.map sg) = tabOf bs := by
  have e : bs.map sg = (bs.map fun b => [if b = true then 49 else 48]).map SX.S := by rw [List.map_map]; rfl
  have z : Str.ofString "" = SX.S [] := by decide +kernel
  rw [e, z, SX.join_S, joinL_nil]
  have : (bs.map fun b => [if b = true then 49 else 48]).flatten = bs.map fun b => if b = true then 49 else 48 := by
    clear e z
    induction bs with
    | nil => rfl
    | cons b r ih => rw [List.map_cons, List.flatten_cons, ih]; rfl
  rw [this]
  rfl
theorem Fr.inv {d l : Addr} {H H' : Hp} (f : Fr d l H H') {b : Addr} {o : HO} (h1 : b ≠ d) (h2 : b ≠ l) (e : H b = some o) : H' b = some o := f b o h1 h2 e
def sp_table (K : PySem.W.Frag) : Sp := fun vs H Q _ => ∃ (d l : Addr) (n : Int) (k : Nat), vs = [.ref d, .int k] ∧ DeckB H d l n ∧ n < 1000000 ∧ 1 ≤ k ∧ k ≤ 3 ∧ ∀ H' bs, DeckB H' d l (n + 10) → Fr d l H H' → bs.length = 2 ^ k → Q (.str (tabOf bs)) H'
theorem ok_table (T : Tx K mg) : FnOk P w K mg base CX0 2 T.f_table T.fd_table ["_law_deck_here", "_law_ins"] (sp_table K) := by
  refine T.F_table.ok sc_table (fun vs H Q E h => ?_) (fun cdv A outer s H vs Q E hr h => ?_)
  · obtain ⟨d, l, n, k, rfl, _⟩ := h
    rfl
  · obtain ⟨d, l, n, k, rfl, D, hn, k1, k3, q⟩ := h
    refine ⟨_, (pss_cons (ps_set (i := 2) sc_table.nd rfl (by first | exact .inl rfl | exact .inr rfl) (pe_call (ok_draw T) (hr.mono (by decide)) (by rfl) T.g_draw T.F_draw.kp T.b_draw .nil pass0 (pa_cons (pv 0) (pa_cons pe_int pa_nil)))) (pss_cons (ps_set (i := 3) sc_table.nd rfl (by first | exact .inl rfl | exact .inr rfl) (pe_lst (pa_cons (pe_lst (pa_cons pe_str (pa_cons pe_str (pa_cons pe_str pa_nil)))) (pa_cons (pe_lst (pa_cons pe_str (pa_cons pe_str (pa_cons pe_str (pa_cons pe_str (pa_cons pe_str (pa_cons pe_str (pa_cons pe_str (pa_cons pe_str pa_nil))))))))) pa_nil)))) (pss_cons (ps_expr (pe_bm PySem.F.plainAttrs_list PySem.F.slot_list_append PySem.F.type_list_append mt_append (pv 3) (pa_cons (pe_lst (pa_cons pe_str (pa_cons pe_str (pa_cons pe_str (pa_cons pe_str (pa_cons pe_str (pa_cons pe_str (pa_cons pe_str (pa_cons pe_str pa_nil))))))))) pa_nil))) (pss_cons (ps_if (pt_cmpR op_lt (pv 2) pe_int (nomark _)) (pss_one (ps_ret (pe_ix ix_list (pe_ix ix_list (pv 3) (pe_op op_sub (pv 1) pe_int) (fun _ _ => rfl)) (pe_call (ok_draw T) (hr.mono (by decide)) (by rfl) T.g_draw T.F_draw.kp T.b_draw .nil pass0 (pa_cons (pv 0) (pa_cons (pe_callB call_len_seq (by rfl) T.m_len PySem.boot_len (pa_cons (pe_ix ix_list (pv 3) (pe_op op_sub (pv 1) pe_int) (fun _ _ => rfl)) pa_nil)) pa_nil))) (fun _ _ => rfl)))) pss_nil) (pss_one (ps_ret (pe_join pe_str (pe_lc (own := [("_law_k", 4)]) (by rfl) sc_table.nd (pi_range1 (by rfl) T.m_range (pa_cons (pe_ix ix_list (pe_lst (pa_cons pe_int (pa_cons pe_int (pa_cons pe_int pa_nil)))) (pe_op op_sub (pv 1) pe_int) (fun _ _ => rfl)) pa_nil)) (blkOk_by (own := [("_law_k", 4)]) (N := ["_law_deck_here", "_law_ins", "_law_way", "_law_some", "_law_k"]) (sc := defScope s_table) (by decide +kernel)) (fun _ _ _ _ _ => (pg_name (i := 4) sc_table.nd rfl (by first | exact .inl rfl | exact .inr rfl))) (fun _ _ _ _ _ => pts_nil) (fun _ _ _ _ _ => (pe_callTy call_str_int (by rfl) T.m_str (by decide +kernel) (pa_cons (pe_call (ok_draw T) (hr.mono (by decide)) (by rfl) T.g_draw T.F_draw.kp T.b_draw .nil pass0 (pa_cons (pv 0) (pa_cons pe_int pa_nil))) pa_nil))))))))))), ?_⟩
    refine ⟨.ref d, rfl, d, l, 3, n, rfl, D, by omega, by decide, by decide, fun H1 way D1 fr1 w0 w1 => ?_⟩
    refine ⟨by decide, fun p1 n1 => ⟨by decide, fun p2 n2 => ⟨sl2, fun p3 n3 => ?_⟩⟩⟩
    have hA1 : ([V.str (Str.ofString "10"), V.str (Str.ofString "01"), V.str (Str.ofString "10")] : List V) = tabs1.map vT := by decide +kernel
    have hA2 : ([V.str (Str.ofString "0001"), V.str (Str.ofString "0111"), V.str (Str.ofString "0110"), V.str (Str.ofString "1110"), V.str (Str.ofString "1000"), V.str (Str.ofString "1001"), V.str (Str.ofString "0010"), V.str (Str.ofString "1101")] : List V) = tabs2.map vT := by decide +kernel
    have hA3 : ([V.str (Str.ofString "00000001"), V.str (Str.ofString "01111111"), V.str (Str.ofString "01101001"), V.str (Str.ofString "00010111"), V.str (Str.ofString "00110101"), V.str (Str.ofString "11101000"), V.str (Str.ofString "10000000"), V.str (Str.ofString "01000010")] : List V) = tabs3.map vT := by decide +kernel
    rw [hA1] at n2 n3
    rw [hA2] at n3
    rw [hA1, hA2]
    refine ⟨.ref p3, rfl, .inl ⟨rfl, _, SqL.of upd_same⟩, by decide, fun p4 n4 => ?_⟩
    rw [hA3]
    have e1 : (upd (upd (upd H1 p1 (.lst (tabs1.map vT))) p2 (.lst (tabs2.map vT))) p3 (.lst [.ref p1, .ref p2])) p3 = some (.lst [.ref p1, .ref p2]) := upd_same
    have sA : Same H1 (upd (upd (upd H1 p1 (.lst (tabs1.map vT))) p2 (.lst (tabs2.map vT))) p3 (.lst [.ref p1, .ref p2])) := ((same_upd n1).trans (same_upd n2)).trans (same_upd n3)
    have e2 : (upd (upd (upd H1 p1 (.lst (tabs1.map vT))) p2 (.lst (tabs2.map vT))) p3 (.lst [.ref p1, .ref p2])) p1 = some (.lst (tabs1.map vT)) := same_upd n3 _ _ (same_upd n2 _ _ upd_same)
    have e3 : (upd (upd (upd H1 p1 (.lst (tabs1.map vT))) p2 (.lst (tabs2.map vT))) p3 (.lst [.ref p1, .ref p2])) p2 = some (.lst (tabs2.map vT)) := same_upd n3 _ _ upd_same
    have n12 : p3 ≠ p1 ∧ p3 ≠ p2 := ⟨fun z => (by rw [z, upd_ne (fun y => by rw [← y, upd_same] at n2; cases n2), upd_same] at n3; cases n3), fun z => (by rw [z, upd_same] at n3; cases n3)⟩
    revert n4 e1 sA e2 e3
    generalize upd (upd (upd H1 p1 (.lst (tabs1.map vT))) p2 (.lst (tabs2.map vT))) p3 (.lst [.ref p1, .ref p2]) = H2
    intro n4 e1 sA e2 e3
    have f1 := same_upd (o := HO.lst (tabs3.map vT)) n4 _ _ e1
    have f2 := same_upd (o := HO.lst (tabs3.map vT)) n4 _ _ e2
    have f3 := same_upd (o := HO.lst (tabs3.map vT)) n4 _ _ e3
    have f4 : (upd H2 p4 (HO.lst (tabs3.map vT))) p4 = some (.lst (tabs3.map vT)) := upd_same
    have sB : Same H1 (upd H2 p4 (HO.lst (tabs3.map vT))) := sA.trans (same_upd n4)
    have n34 : p3 ≠ p4 := ne_of_none e1 n4
    refine ⟨p3, _, _, rfl, rfl, f1, (show 2 < sizeLine by decide), ?_⟩
    have g1 : (upd (upd H2 p4 (HO.lst (tabs3.map vT))) p3 (.lst ([.ref p1, .ref p2] ++ [.ref p4]))) p3 = some (.lst [.ref p1, .ref p2, .ref p4]) := upd_same
    have g2 : (upd (upd H2 p4 (HO.lst (tabs3.map vT))) p3 (.lst ([.ref p1, .ref p2] ++ [.ref p4]))) p1 = some (.lst (tabs1.map vT)) := by rw [upd_ne n12.1.symm]; exact f2
    have g3 : (upd (upd H2 p4 (HO.lst (tabs3.map vT))) p3 (.lst ([.ref p1, .ref p2] ++ [.ref p4]))) p2 = some (.lst (tabs2.map vT)) := by rw [upd_ne n12.2.symm]; exact f3
    have g4 : (upd (upd H2 p4 (HO.lst (tabs3.map vT))) p3 (.lst ([.ref p1, .ref p2] ++ [.ref p4]))) p4 = some (.lst (tabs3.map vT)) := by rw [upd_ne n34.symm]; exact f4
    have n3' : H1 p3 = none := by
      cases z : H1 p3 with
      | none => rfl
      | some o => rw [same_upd n2 _ _ (same_upd n1 _ _ z)] at n3; cases n3
    have sC : Same H1 (upd (upd H2 p4 (HO.lst (tabs3.map vT))) p3 (.lst ([.ref p1, .ref p2] ++ [.ref p4]))) := fun b o e => by
      rw [upd_ne (ne_of_none e n3')]
      exact sB _ _ e
    show tSeq _ _ _ _ (upd (upd H2 p4 (HO.lst (tabs3.map vT))) p3 (.lst ([.ref p1, .ref p2] ++ [.ref p4])))
    revert g1 g2 g3 g4 sC
    generalize upd (upd H2 p4 (HO.lst (tabs3.map vT))) p3 (.lst ([.ref p1, .ref p2] ++ [.ref p4])) = H3
    intro g1 g2 g3 g4 sC
    have D3 := D1.same sC
    have fr3 : Fr d l H H3 := fr1.trans (Fr.of sC)
    have sel : ∃ (pk : Addr) (bss : List (List Bool)), atI [V.ref p1, V.ref p2, V.ref p4] ((k : Int) - 1) = some (.ref pk) ∧ H3 pk = some (.lst (bss.map vT)) ∧ TabsIn k bss := by
      have : k = 1 ∨ k = 2 ∨ k = 3 := by omega
      rcases this with rfl | rfl | rfl
      · exact ⟨p1, tabs1, rfl, g2, tabsIn1⟩
      · exact ⟨p2, tabs2, rfl, g3, tabsIn2⟩
      · exact ⟨p4, tabs3, rfl, g4, tabsIn3⟩
    obtain ⟨pk, bss, a1, hk, tin⟩ := sel
    have bpos : 0 < bss.length := List.length_pos_iff.mpr tin.1
    have b8 := tin.2.1
    refine ⟨.int way, rfl, _, _, rfl, rfl, _, rfl, ite2 (fun _ => ?_) (fun _ => ?_)⟩
    · refine ⟨.ref p3, rfl, .int k, rfl, _, _, rfl, rfl, p3, _, (k : Int) - 1, .ref pk, rfl, rfl, SqL.of g1, a1, .ref d, rfl, .ref p3, rfl, .int k, rfl, _, _, rfl, rfl, p3, _, (k : Int) - 1, .ref pk, rfl, rfl, SqL.of g1, a1, pk, _, rfl, .inl (SqL.of hk), ?_⟩
      rw [List.length_map]
      refine ⟨d, l, _, n + 1, rfl, D3, by omega, by omega, by omega, fun H4 v D4 fr4 v0 v1 => ?_⟩
      obtain ⟨bs, hbs, lbs⟩ := tab_pick tin v0 v1
      obtain ⟨ne, cs, z, y, hd, hl, r⟩ := D3
      have hk4 : H4 pk = some (.lst (bss.map vT)) := fr4 _ _ (fun z => ?_) (fun z => ?_) hk
      · exact ⟨pk, _, v, _, rfl, rfl, SqL.of hk4, hbs, q H4 bs (D4.mono (by omega)) (fr3.trans fr4) lbs⟩
      · rw [z, hd] at hk
        cases bss with
        | nil => exact tin.1 rfl
        | cons b r => cases hk
      · rw [z, hl] at hk
        cases bss with
        | nil => exact tin.1 rfl
        | cons b r =>
          cases cs with
          | nil => cases hk
          | cons c r => cases hk
    · refine ⟨⟨_, rfl⟩, sl3, fun p5 n5 => ?_⟩
      obtain ⟨N, hN, a2, k8⟩ : ∃ N : Nat, 2 ^ k = N ∧ atI [V.int 2, V.int 4, V.int 8] ((k : Int) - 1) = some (.int (N : Int)) ∧ N ≤ 8 := by
        have : k = 1 ∨ k = 2 ∨ k = 3 := by omega
        rcases this with rfl | rfl | rfl
        · exact ⟨2, rfl, rfl, by decide⟩
        · exact ⟨4, rfl, rfl, by decide⟩
        · exact ⟨8, rfl, rfl, by decide⟩
      refine ⟨.int k, rfl, _, _, rfl, rfl, p5, _, (k : Int) - 1, _, rfl, rfl, SqL.of upd_same, a2, _, rfl, by omega, by omega, fun D nD => ?_⟩
      have D5 := D3.same (same_upd (o := HO.lst [V.int 2, V.int 4, V.int 8]) n5)
      have fr5 : Fr d l H (upd H3 p5 (.lst [.int 2, .int 4, .int 8])) := fr3.trans (Fr.new n5)
      revert nD D5 fr5
      generalize upd H3 p5 (.lst [.int 2, .int 4, .int 8]) = H5
      intro nD D5 fr5
      have nDd : D ≠ d ∧ D ≠ l := by
        obtain ⟨ne, cs, z, y, hd, hl, r⟩ := D5
        exact ⟨(ne_of_none hd nD).symm, (ne_of_none hl nD).symm⟩
      refine lc_range (lo := 0) (n := ((N : Nat) : Int).toNat) (fun i H' => DeckB H' d l (n + 1 + i) ∧ Fr d l H H' ∧ ∃ bs : List Bool, bs.length = i ∧ H' D = some (.lst (bs.map fun b => V.str (sg b)))) ⟨(D5.same (same_upd nD)).mono (by omega), fr5.trans (Fr.new nD), [], rfl, upd_same⟩ ?_ ?_
      · rintro i H' hi ⟨Di, fri, bs, lbs, hD⟩
        have hi' : i < N := by simpa using hi
        refine ⟨rfl, .ref d, rfl, d, l, 2, _, rfl, Di, by omega, by decide, by decide, fun H6 v D6 fr6 v0 v1 => ?_⟩
        have hD6 := fr6 _ _ nDd.1 nDd.2 hD
        refine ⟨v, rfl, ?_, _, hD6, ?_, ?_, ?_, bs ++ [decide (v = 1)], by rw [List.length_append, lbs]; rfl, ?_⟩
        · have : v = 0 ∨ v = 1 := by omega
          rcases this with rfl | rfl <;> decide
        · rw [List.length_map, lbs]
          exact Nat.lt_of_lt_of_le (show i < 64 by omega) (by decide)
        · obtain ⟨ne, cs, z, y, hd, hl, r⟩ := D6
          refine ⟨ne, cs, z, y, by rw [upd_ne nDd.1.symm]; exact hd, by rw [upd_ne nDd.2.symm]; exact hl, r.1, r.2.1, ?_⟩
          have := r.2.2
          push_cast
          omega
        · intro b o h1 h2 e
          have hb : b ≠ D := ne_of_none (fr5.inv h1 h2 e) nD
          rw [upd_ne hb]
          exact fr6 _ _ h1 h2 (fri _ _ h1 h2 e)
        · rw [upd_same, List.map_append]
          have : v = 0 ∨ v = 1 := by omega
          rcases this with rfl | rfl
          · rw [sg0]; rfl
          · rw [sg1]; rfl
      · rintro H' ⟨Di, fri, bs, lbs, hD⟩
        have lb : bs.length = 2 ^ k := by rw [lbs, hN]; simp
        refine ⟨Str.ofString "", D, bs.map sg, rfl, rfl, .inl (SqL.of (by rw [hD, List.map_map]; rfl)), ?_, ?_⟩
        · rw [List.map_map, List.length_map]
          have : (bs.map ((fun x => x.length) ∘ sg)).sum = bs.length := by
            clear hD lbs lb
            induction bs with
            | nil => rfl
            | cons b r ih =>
              rw [List.map_cons, List.sum_cons, ih, List.length_cons]
              cases b <;> (show 1 + _ = _; omega)
          rw [this]
          show bs.length + bs.length * 0 ≤ _
          omega
        · rw [join_sg]
          exact q H' bs (Di.mono (by
            have : (((N : Nat) : Int).toNat : Int) ≤ 8 := by omega
            omega)) fri lb
theorem Ts.fr {H H' : Hp} {d l : Addr} {n : Int} (D : DeckB H d l n) (f : Fr d l H H') : Ts H H' := fun b xs e => by
  obtain ⟨ne, cs, z, y, hd, hl, r⟩ := D
  exact f b _ (ne_of e hd (by intro z; cases z)) (ne_of e hl (by intro z; cases z)) e
theorem DeckB.upd {H : Hp} {d l p : Addr} {n : Int} {o : HO} (D : DeckB H d l n) (h1 : p ≠ d) (h2 : p ≠ l) : DeckB (upd H p o) d l n := by
  obtain ⟨ne, cs, z, y, hd, hl, r⟩ := D
  exact ⟨ne, cs, z, y, by rw [upd_ne h1.symm]; exact hd, by rw [upd_ne h2.symm]; exact hl, r⟩
theorem DeckB.off {H : Hp} {d l p : Addr} {n : Int} (D : DeckB H d l n) (h : H p = none) : p ≠ d ∧ p ≠ l := by
  obtain ⟨ne, cs, z, y, hd, hl, r⟩ := D
  exact ⟨(ne_of_none hd h).symm, (ne_of_none hl h).symm⟩
theorem Fr.upd {d l p : Addr} {H H' : Hp} {o : HO} (f : Fr d l H H') (h : H p = none) : Fr d l H (upd H' p o) := fun b u h1 h2 e => by
  rw [upd_ne (ne_of_none e h)]
  exact f b u h1 h2 e
theorem NetOk.snoc {n : Nat} {gs : List Gt} {g : Gt} (h : NetOk n gs) (hg : GtOk (n + gs.length) g) : NetOk n (gs ++ [g]) := fun k g' e => by
  by_cases hk : k < gs.length
  · rw [List.getElem?_append_left hk] at e
    exact h k g' e
  · rw [List.getElem?_append_right (by omega)] at e
    cases hz : k - gs.length with
    | zero =>
      rw [hz] at e
      cases Option.some.inj e
      rw [show k = gs.length by omega]
      exact hg
    | succ j => rw [hz] at e; cases e
def sp_shared (K : PySem.W.Frag) : Sp := fun vs H Q _ => ∃ (d l : Addr) (n : Int) (many count : Nat), vs = [.ref d, .int many, .int count] ∧ DeckB H d l n ∧ n < 100000 ∧ 1 ≤ many ∧ many ≤ 6 ∧ count ≤ 40 ∧
  ∀ r H' gs, DeckB H' d l (n + 20 * count) → Fr d l H H' → Tk H' (.ref r) (netD many gs) → gs.length = count → NetOk many gs → Q (.ref r) H'
theorem ok_shared (T : Tx K mg) : FnOk P w K mg base CX0 3 T.f_shared T.fd_shared ["_law_deck_here", "_law_many", "_law_count"] (sp_shared K) := by
  refine T.F_shared.ok sc_shared (fun vs H Q E h => ?_) (fun cdv A outer s H vs Q E hr h => ?_)
  · obtain ⟨d, l, n, many, count, rfl, _⟩ := h
    rfl
  · obtain ⟨d, l, n, many, count, rfl, D, hn, m1, m6, c40, q⟩ := h
    refine ⟨_, (pss_cons (ps_set (i := 3) sc_shared.nd rfl (by first | exact .inl rfl | exact .inr rfl) (pe_lst pa_nil)) (pss_cons (ps_for PassesOwn.never rfl (pi_range1 (by rfl) T.m_range (pa_cons (pv 2) pa_nil)) (pg_name (i := 4) sc_shared.nd rfl (by first | exact .inl rfl | exact .inr rfl)) (pss_cons (ps_set (i := 5) sc_shared.nd rfl (by first | exact .inl rfl | exact .inr rfl) (pe_lst pa_nil)) (pss_cons (ps_for PassesOwn.never rfl (pi_range1 (by rfl) T.m_range (pa_cons (pe_ix ix_list (pe_lst (pa_cons pe_int (pa_cons pe_int (pa_cons pe_int (pa_cons pe_int (pa_cons pe_int (pa_cons pe_int pa_nil))))))) (pe_call (ok_draw T) (hr.mono (by decide)) (by rfl) T.g_draw T.F_draw.kp T.b_draw .nil pass0 (pa_cons (pv 0) (pa_cons pe_int pa_nil))) (fun _ _ => rfl)) pa_nil)) (pg_name (i := 6) sc_shared.nd rfl (by first | exact .inl rfl | exact .inr rfl)) (pss_cons (ps_set (i := 7) sc_shared.nd rfl (by first | exact .inl rfl | exact .inr rfl) (pe_call (ok_draw T) (hr.mono (by decide)) (by rfl) T.g_draw T.F_draw.kp T.b_draw .nil pass0 (pa_cons (pv 0) (pa_cons pe_int pa_nil)))) (pss_one (ps_expr (pe_bm PySem.F.plainAttrs_list PySem.F.slot_list_append PySem.F.type_list_append mt_append (pv 5) (pa_cons (pe_ix ix_list (pe_lst (pa_cons (pe_call (ok_draw T) (hr.mono (by decide)) (by rfl) T.g_draw T.F_draw.kp T.b_draw .nil pass0 (pa_cons (pv 0) (pa_cons (pe_op op_add (pv 1) (pv 4)) pa_nil))) (pa_cons (pe_callB (call_max2 rfl) (by rfl) T.m_max (by decide +kernel) (pa_cons pe_int (pa_cons (pe_op op_sub (pe_op op_sub (pe_op op_add (pv 1) (pv 4)) pe_int) (pe_call (ok_draw T) (hr.mono (by decide)) (by rfl) T.g_draw T.F_draw.kp T.b_draw .nil pass0 (pa_cons (pv 0) (pa_cons pe_int pa_nil)))) pa_nil))) pa_nil))) (pe_callTy call_int1 (by rfl) T.m_int (by decide +kernel) (pa_cons (pe_cmpR op_gt (pv 7) pe_int (nomark _)) pa_nil)) (fun _ _ => rfl)) pa_nil)))))) (pss_one (ps_expr (pe_bm PySem.F.plainAttrs_list PySem.F.slot_list_append PySem.F.type_list_append mt_append (pv 3) (pa_cons (pe_tup (pa_cons (pe_call (ok_table T) (hr.mono (by decide)) (by rfl) T.g_table T.F_table.kp T.b_table .nil pass0 (pa_cons (pv 0) (pa_cons (pe_callB call_len_seq (by rfl) T.m_len PySem.boot_len (pa_cons (pv 5) pa_nil)) pa_nil))) (pa_cons (pe_callTy call_tuple_of (by rfl) T.m_tuple (by decide +kernel) (pa_cons (pv 5) pa_nil)) pa_nil))) pa_nil))))))) (pss_one (ps_ret (pe_tup (pa_cons (pv 1) (pa_cons (pe_callTy call_tuple_of (by rfl) T.m_tuple (by decide +kernel) (pa_cons (pv 3) pa_nil)) pa_nil))))))), ?_⟩
    refine ⟨Nat.zero_le _, fun G nG => ?_⟩
    have oG := D.off nG
    refine ⟨.int count, rfl, count, rfl, by omega, by omega, ?_⟩
    refine for_range (lo := 0) (n := (count : Int).toNat) (fun i σ H' => ∃ y4 y5 y6 y7, σ = [some (.ref d), some (.int many), some (.int count), some (.ref G), y4, y5, y6, y7] ∧ DeckB H' d l (n + 20 * i) ∧ Fr d l H H' ∧ ∃ acc gs, H' G = some (.lst acc) ∧ TkAll H' acc (gs.map gD) ∧ gs.length = i ∧ NetOk many gs)
      ⟨_, _, _, _, rfl, (D.same (same_upd nG)).mono (by omega), Fr.new nG, [], [], upd_same, .nil, rfl, fun k g e => by simp at e⟩ ?_ ?_
    · rintro i σ H1 hi ⟨y4, y5, y6, y7, rfl, D1, fr1, acc, gs, hG, tg, lg, ok⟩
      have hi' : i < count := by simpa using hi
      refine ⟨Nat.zero_le _, fun I nI => ?_⟩
      have oI := D1.off nI
      have D2 := D1.same (same_upd (o := HO.lst []) nI)
      have hG2 := same_upd (o := HO.lst []) nI _ _ hG
      have tg2 := tg.ts (Ts.new (o := HO.lst []) nI) (noL_gates gs)
      have fr2 : Fr d l H (upd H1 I (.lst [])) := fr1.trans (Fr.new nI)
      have hI2 : (upd H1 I (.lst [])) I = some (.lst []) := upd_same
      have nGI : G ≠ I := ne_of_none hG nI
      have nI0 : H I = none := by
        cases z : H I with
        | none => rfl
        | some o => rw [fr1 _ _ oI.1 oI.2 z] at nI; cases nI
      show tSeq _ _ _ _ (upd H1 I (.lst []))
      revert D2 hG2 tg2 fr2 hI2
      generalize upd H1 I (.lst []) = H2
      intro D2 hG2 tg2 fr2 hI2
      refine ⟨by decide, fun p6 n6 => ?_⟩
      have o6 := D2.off n6
      have D2' := D2.same (same_upd (o := HO.lst [V.int 2, V.int 2, V.int 1, V.int 3, V.int 2, V.int 3]) n6)
      refine ⟨.ref d, rfl, d, l, 6, _, rfl, D2', by omega, by decide, by decide, fun H3 v D3 fr3 v0 v1 => ?_⟩
      have h63 := fr3 _ _ o6.1 o6.2 upd_same
      have s26 := same_upd (o := HO.lst [V.int 2, V.int 2, V.int 1, V.int 3, V.int 2, V.int 3]) n6
      have hG3 := fr3 _ _ oG.1 oG.2 (s26 _ _ hG2)
      have hI3 := fr3 _ _ oI.1 oI.2 (s26 _ _ hI2)
      have tg3 := tg2.ts ((Ts.same s26).trans (Ts.fr D2' fr3)) (noL_gates gs)
      have frA : Fr d l H H3 := (fr2.trans (Fr.of s26)).trans fr3
      obtain ⟨c, hc, c1, c3⟩ : ∃ c : Nat, atI [V.int 2, V.int 2, V.int 1, V.int 3, V.int 2, V.int 3] v = some (.int (c : Int)) ∧ 1 ≤ c ∧ c ≤ 3 := by
        have : v = 0 ∨ v = 1 ∨ v = 2 ∨ v = 3 ∨ v = 4 ∨ v = 5 := by omega
        rcases this with rfl | rfl | rfl | rfl | rfl | rfl
        · exact ⟨2, rfl, by decide, by decide⟩
        · exact ⟨2, rfl, by decide, by decide⟩
        · exact ⟨1, rfl, by decide, by decide⟩
        · exact ⟨3, rfl, by decide, by decide⟩
        · exact ⟨2, rfl, by decide, by decide⟩
        · exact ⟨3, rfl, by decide, by decide⟩
      refine ⟨p6, _, v, _, rfl, rfl, SqL.of h63, hc, c, rfl, by omega, by omega, ?_⟩
      refine for_range (lo := 0) (n := (c : Int).toNat) (fun j σ H' => ∃ y6 y7, σ = [some (.ref d), some (.int many), some (.int count), some (.ref G), some (.int (0 + (i : Int))), some (.ref I), y6, y7] ∧ DeckB H' d l (n + 20 * i + 1 + 3 * j) ∧ Fr d l H H' ∧ H' G = some (.lst acc) ∧ TkAll H' acc (gs.map gD) ∧
          ∃ ws : List Nat, H' I = some (.lst ((ws.map Int.ofNat).map V.int)) ∧ ws.length = j ∧ ∀ w ∈ ws, w < many + i)
        ⟨_, _, rfl, D3.mono (by omega), frA, hG3, tg3, [], hI3, rfl, fun w hw => by cases hw⟩ ?_ ?_
      · rintro j σ H4 hj ⟨y6, y7, rfl, D4, fr4, hG4, tg4, ws, hI4, lw, okw⟩
        have hj' : j < c := by simpa using hj
        refine ⟨.ref d, rfl, d, l, 4, _, rfl, D4, by omega, by decide, by decide, fun H5 way D5 fr5 w0 w1 => ?_⟩
        have hI5 := fr5 _ _ oI.1 oI.2 hI4
        refine ⟨.ref I, rfl, .inl ⟨rfl, _, SqL.of hI5⟩, .ref d, rfl, .int many, rfl, .int (0 + (i : Int)), rfl, _, _, rfl, rfl, d, l, _, _, rfl, D5, by omega, by omega, by omega, fun H6 a D6 fr6 a0 a1 => ?_⟩
        refine ⟨.int many, rfl, .int (0 + (i : Int)), rfl, _, _, rfl, rfl, _, _, rfl, rfl, .ref d, rfl, d, l, 3, _, rfl, D6, by omega, by decide, by decide, fun H7 b D7 fr7 b0 b1 => ?_⟩
        refine ⟨_, _, rfl, rfl, 0, _, rfl, sl2, fun p7 n7 => ?_⟩
        have sel : ∃ w : Nat, atI [V.int a, V.int (if (many : Int) + (0 + (i : Int)) - 1 - b > 0 then (many : Int) + (0 + (i : Int)) - 1 - b else 0)] (if decide (1 < way) = true then 1 else 0) = some (.int (Int.ofNat w)) ∧ w < many + i := by
          by_cases hw : 1 < way
          · rw [decide_eq_true hw]
            by_cases hm : (many : Int) + (0 + (i : Int)) - 1 - b > 0
            · refine ⟨((many : Int) + (0 + (i : Int)) - 1 - b).toNat, ?_, by omega⟩
              rw [if_pos hm]
              show some (V.int ((many : Int) + (0 + (i : Int)) - 1 - b)) = _
              rw [show Int.ofNat ((many : Int) + (0 + (i : Int)) - 1 - b).toNat = (many : Int) + (0 + (i : Int)) - 1 - b from Int.toNat_of_nonneg (by omega)]
            · refine ⟨0, ?_, by omega⟩
              rw [if_neg hm]
              rfl
          · rw [decide_eq_false hw]
            refine ⟨a.toNat, ?_, by omega⟩
            show some (V.int a) = _
            rw [show Int.ofNat a.toNat = a from Int.toNat_of_nonneg a0]
        obtain ⟨x, hx, x1⟩ := sel
        have o7 := D7.off n7
        have s7 := same_upd (o := HO.lst [V.int a, V.int (if (many : Int) + (0 + (i : Int)) - 1 - b > 0 then (many : Int) + (0 + (i : Int)) - 1 - b else 0)]) n7
        have hI7 := s7 _ _ (fr7 _ _ oI.1 oI.2 (fr6 _ _ oI.1 oI.2 hI5))
        have hG7 := s7 _ _ (fr7 _ _ oG.1 oG.2 (fr6 _ _ oG.1 oG.2 (fr5 _ _ oG.1 oG.2 hG4)))
        refine ⟨.int way, rfl, _, _, rfl, rfl, .inr ⟨_, rfl, p7, _, _, _, rfl, rfl, SqL.of upd_same, hx, ?_⟩⟩
        refine ⟨I, _, _, rfl, rfl, hI7, ?_, ?_⟩
        · rw [List.length_map, List.length_map, lw]
          exact Nat.lt_of_lt_of_le (show j < 64 by omega) (by decide)
        · refine ⟨_, _, rfl, ((D7.same s7).upd oI.1 oI.2).mono (by push_cast; omega), ?_, ?_, ?_, ws ++ [x], ?_, by rw [List.length_append, lw]; rfl, ?_⟩
          · exact Fr.upd ((((fr4.trans fr5).trans fr6).trans fr7).trans (Fr.of s7)) nI0
          · rw [upd_ne nGI]; exact hG7
          · exact tg4.ts ((((Ts.fr D4 fr5).trans (Ts.fr D5 fr6)).trans (Ts.fr D6 fr7)).trans ((Ts.same s7).trans (Ts.set hI7))) (noL_gates gs)
          · rw [upd_same, List.map_append, List.map_append]
            rfl
          · intro w hw
            rcases List.mem_append.mp hw with z | z
            · exact okw w z
            · rw [List.mem_singleton.mp z]
              exact x1
      · rintro σ H4 ⟨y6, y7, rfl, D4, fr4, hG4, tg4, ws, hI4, lw, okw⟩
        have lw' : ws.length = c := by rw [lw]; simp
        refine ⟨.ref G, rfl, .inl ⟨rfl, _, SqL.of hG4⟩, .ref d, rfl, .ref I, rfl, I, _, rfl, .inl (SqL.of hI4), ?_⟩
        rw [List.length_map, List.length_map, lw']
        refine ⟨d, l, _, c, rfl, D4, by have : (((c : Int).toNat : Nat) : Int) = c := by simp
                                        omega, c1, c3, fun H5 bs D5 fr5 lb => ?_⟩
        have hI5 := fr5 _ _ oI.1 oI.2 hI4
        have hG5 := fr5 _ _ oG.1 oG.2 hG4
        have tg5 := tg4.ts (Ts.fr D4 fr5) (noL_gates gs)
        refine ⟨.ref I, rfl, I, _, rfl, .inl ⟨SqL.of hI5, fun ti nti => ⟨sl2, fun tt ntt => ?_⟩⟩⟩
        have s5 := (same_upd (o := HO.tup ((ws.map Int.ofNat).map V.int)) nti).trans (same_upd (o := HO.tup [V.str (tabOf bs), .ref ti]) ntt)
        have hG6 := s5 _ _ hG5
        refine ⟨G, _, _, rfl, rfl, hG6, ?_, ?_⟩
        · have := tg5.length
          rw [List.length_map, lg] at this
          exact Nat.lt_of_lt_of_le (show acc.length < 64 by omega) (by decide)
        · have hcc : (((c : Int).toNat : Nat) : Int) = c := by simp
          refine ⟨_, _, _, _, rfl, ((D5.same s5).upd oG.1 oG.2).mono (by push_cast; omega), Fr.upd ((fr4.trans fr5).trans (Fr.of s5)) nG, _, gs ++ [(bs, ws)], upd_same, ?_, by rw [List.length_append, lg]; rfl, ok.snoc ⟨?_, ?_, ?_, ?_⟩⟩
          · rw [List.map_append]
            have e1 : (upd (upd H5 ti (.tup ((ws.map Int.ofNat).map V.int))) tt (.tup [.str (tabOf bs), .ref ti])) ti = some (.tup ((ws.map Int.ofNat).map V.int)) := same_upd ntt _ _ upd_same
            have tgate : Tk (upd (upd H5 ti (.tup ((ws.map Int.ofNat).map V.int))) tt (.tup [.str (tabOf bs), .ref ti])) (.ref tt) (gD (bs, ws)) := .tup upd_same (.cons (.str _) (.cons (.tup e1 (TkAll.ints _)) .nil))
            refine (tg5.ts ((Ts.same s5).trans (Ts.set hG6)) (noL_gates gs)).append (.cons (tgate.ts (Ts.set hG6) (noL_gate _)) .nil)
          · show bs.length = 2 ^ ws.length
            rw [lb, lw']
          · show 1 ≤ ws.length
            omega
          · show ws.length ≤ 3
            omega
          · rw [lg]
            exact okw
    · rintro σ H1 ⟨y4, y5, y6, y7, rfl, D1, fr1, acc, gs, hG, tg, lg, ok⟩
      have lg' : gs.length = count := by rw [lg]; simp
      refine ⟨.int many, rfl, .ref G, rfl, G, _, rfl, .inl ⟨SqL.of hG, fun tq ntq => ⟨sl2, fun r nr => ?_⟩⟩⟩
      have s2 := (same_upd (o := HO.tup acc) ntq).trans (same_upd (o := HO.tup [V.int many, .ref tq]) nr)
      refine q r _ gs ((D1.same s2).mono (by
        have : (((count : Int).toNat : Nat) : Int) = count := by simp
        omega)) (fr1.trans (Fr.of s2)) ?_ lg' ok
      exact .tup upd_same (.cons (.int _) (.cons (.tup (same_upd nr _ _ upd_same) (tg.same s2)) .nil))

end
end Gk

set_option Elab.async false
set_option linter.all false
set_option maxRecDepth 100000
set_option maxHeartbeats 1000000
namespace Gk
open PySem PySem.Spec PyProof.Rows L2
section
variable {P : Program} {w : World} {K : PySem.W.Frag} {mg : Str → Option Value} {base : Heap}
theorem pick6 {v : Int} (v0 : 0 ≤ v) (v1 : v < 6) {a b c d e f : Nat} (ha : 1 ≤ a ∧ a ≤ 3) (hb : 1 ≤ b ∧ b ≤ 3) (hc : 1 ≤ c ∧ c ≤ 3) (hd : 1 ≤ d ∧ d ≤ 3) (he : 1 ≤ e ∧ e ≤ 3) (hf : 1 ≤ f ∧ f ≤ 3) :
    ∃ n : Nat, atI [V.int (a : Nat), V.int (b : Nat), V.int (c : Nat), V.int (d : Nat), V.int (e : Nat), V.int (f : Nat)] v = some (.int (n : Int)) ∧ 1 ≤ n ∧ n ≤ 3 := by
  have : v = 0 ∨ v = 1 ∨ v = 2 ∨ v = 3 ∨ v = 4 ∨ v = 5 := by omega
  rcases this with rfl | rfl | rfl | rfl | rfl | rfl
  · exact ⟨a, rfl, ha⟩
  · exact ⟨b, rfl, hb⟩
  · exact ⟨c, rfl, hc⟩
  · exact ⟨d, rfl, hd⟩
  · exact ⟨e, rfl, he⟩
  · exact ⟨f, rfl, hf⟩
def nV (ws : List Nat) : List V := (ws.map Int.ofNat).map V.int
theorem nV_len (ws : List Nat) : (nV ws).length = ws.length := by unfold nV; rw [List.length_map, List.length_map]
theorem nV_get {ws : List Nat} {j k : Nat} (h : ws[j]? = some k) : (nV ws)[j]? = some (.int (Int.ofNat k)) := by
  unfold nV
  rw [List.getElem?_map, List.getElem?_map, h]
  rfl
theorem nV_app (a b : List Nat) : nV (a ++ b) = nV a ++ nV b := by unfold nV; rw [List.map_append, List.map_append]
theorem nV_erase : ∀ (ws : List Nat) (t : Nat), (nV ws).eraseIdx t = nV (ws.eraseIdx t)
  | [], _ => rfl
  | _ :: _, 0 => rfl
  | w :: r, t + 1 => by
    show V.int (Int.ofNat w) :: (nV r).eraseIdx t = V.int (Int.ofNat w) :: nV (r.eraseIdx t)
    rw [nV_erase r t]
/-- a new gate behind the others -/
theorem gate_new {H : Hp} {bs : List Bool} {ws : List Nat} {ti tt : Addr} (nti : H ti = none) (ntt : (upd H ti (.tup (nV ws))) tt = none) : Tk (upd (upd H ti (.tup (nV ws))) tt (.tup [.str (tabOf bs), .ref ti])) (.ref tt) (gD (bs, ws)) :=
  .tup upd_same (.cons (.str _) (.cons (.tup (same_upd ntt _ _ upd_same) (TkAll.ints _)) .nil))
theorem none_of_fr {d l p : Addr} {H H' : Hp} {n : Int} (f : Fr d l H H') (D : DeckB H' d l n) (h : H' p = none) : H p = none := by
  have o := D.off h
  cases z : H p with
  | none => rfl
  | some x => rw [f _ _ o.1 o.2 z] at h; cases h
def sp_formula (K : PySem.W.Frag) : Sp := sp_shared K
theorem ok_formula (T : Tx K mg) : FnOk P w K mg base CX0 3 T.f_formula T.fd_formula ["_law_deck_here", "_law_many", "_law_count"] (sp_shared K) := by
  refine T.F_formula.ok sc_formula (fun vs H Q E h => ?_) (fun cdv A outer s H vs Q E hr h => ?_)
  · obtain ⟨d, l, n, many, count, rfl, _⟩ := h
    rfl
  · obtain ⟨d, l, n, many, count, rfl, D, hn, m1, m6, c40, q⟩ := h
    refine ⟨_, (pss_cons (ps_set (i := 3) sc_formula.nd rfl (by first | exact .inl rfl | exact .inr rfl) (pe_lst pa_nil)) (pss_cons (ps_set (i := 4) sc_formula.nd rfl (by first | exact .inl rfl | exact .inr rfl) (pe_lst pa_nil)) (pss_cons (ps_for PassesOwn.never rfl (pi_range1 (by rfl) T.m_range (pa_cons (pv 2) pa_nil)) (pg_name (i := 5) sc_formula.nd rfl (by first | exact .inl rfl | exact .inr rfl)) (pss_cons (ps_set (i := 6) sc_formula.nd rfl (by first | exact .inl rfl | exact .inr rfl) (pe_lst pa_nil)) (pss_cons (ps_for PassesOwn.never rfl (pi_range1 (by rfl) T.m_range (pa_cons (pe_ix ix_list (pe_lst (pa_cons pe_int (pa_cons pe_int (pa_cons pe_int (pa_cons pe_int (pa_cons pe_int (pa_cons pe_int pa_nil))))))) (pe_call (ok_draw T) (hr.mono (by decide)) (by rfl) T.g_draw T.F_draw.kp T.b_draw .nil pass0 (pa_cons (pv 0) (pa_cons pe_int pa_nil))) (fun _ _ => rfl)) pa_nil)) (pg_name (i := 7) sc_formula.nd rfl (by first | exact .inl rfl | exact .inr rfl)) (pss_cons (ps_set (i := 8) sc_formula.nd rfl (by first | exact .inl rfl | exact .inr rfl) (pe_call (ok_draw T) (hr.mono (by decide)) (by rfl) T.g_draw T.F_draw.kp T.b_draw .nil pass0 (pa_cons (pv 0) (pa_cons pe_int pa_nil)))) (pss_one (ps_if (pt_cut (pw_and (pt_cmpR op_gt (pv 8) pe_int (nomark _)) (pw_and1 (pt_cmpR (op_neD hr.units) (pv 4) (pe_lst pa_nil) (nomark _)))).pt) (pss_one (ps_expr (pe_bm PySem.F.plainAttrs_list PySem.F.slot_list_append PySem.F.type_list_append mt_append (pv 6) (pa_cons (pe_bm PySem.F.plainAttrs_list PySem.F.slot_list_pop PySem.F.type_list_pop mt_popAt (pv 4) (pa_cons (pe_call (ok_draw T) (hr.mono (by decide)) (by rfl) T.g_draw T.F_draw.kp T.b_draw .nil pass0 (pa_cons (pv 0) (pa_cons (pe_callB call_len_seq (by rfl) T.m_len PySem.boot_len (pa_cons (pv 4) pa_nil)) pa_nil))) pa_nil)) pa_nil)))) (pss_one (ps_expr (pe_bm PySem.F.plainAttrs_list PySem.F.slot_list_append PySem.F.type_list_append mt_append (pv 6) (pa_cons (pe_call (ok_draw T) (hr.mono (by decide)) (by rfl) T.g_draw T.F_draw.kp T.b_draw .nil pass0 (pa_cons (pv 0) (pa_cons (pv 1) pa_nil))) pa_nil)))))))) (pss_cons (ps_expr (pe_bm PySem.F.plainAttrs_list PySem.F.slot_list_append PySem.F.type_list_append mt_append (pv 3) (pa_cons (pe_tup (pa_cons (pe_call (ok_table T) (hr.mono (by decide)) (by rfl) T.g_table T.F_table.kp T.b_table .nil pass0 (pa_cons (pv 0) (pa_cons (pe_callB call_len_seq (by rfl) T.m_len PySem.boot_len (pa_cons (pv 6) pa_nil)) pa_nil))) (pa_cons (pe_callTy call_tuple_of (by rfl) T.m_tuple (by decide +kernel) (pa_cons (pv 6) pa_nil)) pa_nil))) pa_nil))) (pss_one (ps_expr (pe_bm PySem.F.plainAttrs_list PySem.F.slot_list_append PySem.F.type_list_append mt_append (pv 4) (pa_cons (pe_op op_add (pv 1) (pv 5)) pa_nil)))))))) (pss_one (ps_ret (pe_tup (pa_cons (pv 1) (pa_cons (pe_callTy call_tuple_of (by rfl) T.m_tuple (by decide +kernel) (pa_cons (pv 3) pa_nil)) pa_nil)))))))), ?_⟩
    have hcc : (((count : Int).toNat : Nat) : Int) = count := by simp
    refine ⟨Nat.zero_le _, fun G nG => ?_⟩
    have oG := D.off nG
    refine ⟨Nat.zero_le _, fun F nF => ?_⟩
    have DF := D.same (same_upd (o := HO.lst []) nG)
    have oF := DF.off nF
    have nF0 : H F = none := none_of_fr (Fr.new nG) DF nF
    have nGF : G ≠ F := fun z => by rw [← z, upd_same] at nF; cases nF
    refine ⟨.int count, rfl, count, rfl, by omega, by omega, ?_⟩
    refine for_range (lo := 0) (n := (count : Int).toNat) (fun i σ H' => ∃ y5 y6 y7 y8, σ = [some (.ref d), some (.int many), some (.int count), some (.ref G), some (.ref F), y5, y6, y7, y8] ∧ DeckB H' d l (n + 20 * i) ∧ Fr d l H H' ∧ (∃ acc gs, H' G = some (.lst acc) ∧ TkAll H' acc (gs.map gD) ∧ gs.length = i ∧ NetOk many gs) ∧ ∃ fr : List Nat, H' F = some (.lst (nV fr)) ∧ fr.length ≤ i ∧ ∀ x ∈ fr, x < many + i)
      ⟨_, _, _, _, rfl, (DF.same (same_upd nF)).mono (by omega), (Fr.new nG).trans (Fr.new nF), ⟨[], [], same_upd nF _ _ upd_same, .nil, rfl, fun k g e => by simp at e⟩, [], upd_same, Nat.zero_le _, fun x hx => by cases hx⟩ ?_ ?_
    · rintro i σ H1 hi ⟨y5, y6, y7, y8, rfl, D1, fr1, ⟨acc, gs, hG, tg, lg, ok⟩, fr, hF, lf, okf⟩
      have hi' : i < count := by simpa using hi
      refine ⟨Nat.zero_le _, fun I nI => ?_⟩
      have oI := D1.off nI
      have nI0 : H I = none := none_of_fr fr1 D1 nI
      have nGI : G ≠ I := ne_of_none hG nI
      have nFI : F ≠ I := ne_of_none hF nI
      have sI := same_upd (o := HO.lst []) nI
      have D2 := D1.same sI
      have hG2 := sI _ _ hG
      have hF2 := sI _ _ hF
      have tg2 := tg.ts (Ts.same sI) (noL_gates gs)
      have fr2 : Fr d l H (upd H1 I (.lst [])) := fr1.trans (Fr.of sI)
      have hI2 : (upd H1 I (.lst [])) I = some (.lst []) := upd_same
      show tSeq _ _ _ _ (upd H1 I (.lst []))
      revert D2 hG2 hF2 tg2 fr2 hI2
      generalize upd H1 I (.lst []) = H2
      intro D2 hG2 hF2 tg2 fr2 hI2
      refine ⟨by decide, fun p6 n6 => ?_⟩
      have o6 := D2.off n6
      have s26 := same_upd (o := HO.lst [V.int 2, V.int 2, V.int 1, V.int 3, V.int 2, V.int 3]) n6
      have D2' := D2.same s26
      refine ⟨.ref d, rfl, d, l, 6, _, rfl, D2', by omega, by decide, by decide, fun H3 v D3 fr3 v0 v1 => ?_⟩
      have h63 := fr3 _ _ o6.1 o6.2 upd_same
      have hG3 := fr3 _ _ oG.1 oG.2 (s26 _ _ hG2)
      have hF3 := fr3 _ _ oF.1 oF.2 (s26 _ _ hF2)
      have hI3 := fr3 _ _ oI.1 oI.2 (s26 _ _ hI2)
      have tg3 := tg2.ts ((Ts.same s26).trans (Ts.fr D2' fr3)) (noL_gates gs)
      have frA : Fr d l H H3 := (fr2.trans (Fr.of s26)).trans fr3
      obtain ⟨c, hc, c1, c3⟩ := pick6 (a := 2) (b := 2) (c := 1) (d := 3) (e := 2) (f := 3) v0 v1 (by omega) (by omega) (by omega) (by omega) (by omega) (by omega)
      refine ⟨p6, _, v, _, rfl, rfl, SqL.of h63, hc, c, rfl, by omega, by omega, ?_⟩
      have hc2 : (((c : Int).toNat : Nat) : Int) = c := by simp
      refine for_range (lo := 0) (n := (c : Int).toNat) (fun j σ H' => ∃ y7 y8, σ = [some (.ref d), some (.int many), some (.int count), some (.ref G), some (.ref F), some (.int (0 + (i : Int))), some (.ref I), y7, y8] ∧ DeckB H' d l (n + 20 * i + 1 + 3 * j) ∧ Fr d l H H' ∧ H' G = some (.lst acc) ∧ TkAll H' acc (gs.map gD) ∧ (∃ fr : List Nat, H' F = some (.lst (nV fr)) ∧ fr.length ≤ i ∧ ∀ x ∈ fr, x < many + i) ∧
          ∃ ws : List Nat, H' I = some (.lst (nV ws)) ∧ ws.length = j ∧ ∀ w ∈ ws, w < many + i)
        ⟨_, _, rfl, D3.mono (by omega), frA, hG3, tg3, ⟨fr, hF3, lf, okf⟩, [], hI3, rfl, fun w hw => by cases hw⟩ ?_ ?_
      · rintro j σ H4 hj ⟨y7, y8, rfl, D4, fr4, hG4, tg4, ⟨f4, hF4, lf4, okf4⟩, ws, hI4, lw, okw⟩
        have hj' : j < c := by simpa using hj
        refine ⟨.ref d, rfl, d, l, 3, _, rfl, D4, by omega, by decide, by decide, fun H5 way D5 fr5 w0 w1 => ?_⟩
        have hI5 := fr5 _ _ oI.1 oI.2 hI4
        have hF5 := fr5 _ _ oF.1 oF.2 hF4
        have hG5 := fr5 _ _ oG.1 oG.2 hG4
        have tg5 := tg4.ts (Ts.fr D4 fr5) (noL_gates gs)
        have frB := fr4.trans fr5
        -- the test
        refine ⟨fun b H' => Same H5 H' ∧ (b = true → f4 ≠ []), ?_, ?_⟩
        · refine ⟨.int way, rfl, _, _, rfl, rfl, _, rfl, ite2 (fun _ => ?_) (fun _ => ⟨Same.refl _, fun z => by cases z⟩)⟩
          refine ⟨.ref F, rfl, Nat.zero_le _, fun p np => ?_⟩
          have sp := same_upd (o := HO.lst []) np
          refine ⟨.list ((f4.map Int.ofNat).map .int), .list [], .lst (SqL.of (sp _ _ hF5)) (dpInts _), .lst (SqL.of upd_same) .nil, shInts _, rfl, _, rfl, sp, fun z e => ?_⟩
          rw [e] at z
          cases z
        · rintro b H6 ⟨s56, hb⟩
          have D6 := D5.same s56
          have hI6 := s56 _ _ hI5
          have hF6 := s56 _ _ hF5
          have hG6 := s56 _ _ hG5
          have tg6 := tg5.ts (Ts.same s56) (noL_gates gs)
          have frC := frB.trans (Fr.of s56)
          -- an in more
          have fin : ∀ {H' : Hp} {x : Nat}, DeckB H' d l (n + 20 * i + 1 + 3 * j + 2) → Fr d l H H' → H' G = some (.lst acc) → TkAll H' acc (gs.map gD) → (∃ fr : List Nat, H' F = some (.lst (nV fr)) ∧ fr.length ≤ i ∧ ∀ x ∈ fr, x < many + i) → H' I = some (.lst (nV ws)) → x < many + i →
              (nV ws).length < sizeLine ∧ DeckB (upd H' I (.lst (nV ws ++ [.int (Int.ofNat x)]))) d l (n + 20 * i + 1 + 3 * ((j + 1 : Nat) : Int)) ∧ Fr d l H (upd H' I (.lst (nV ws ++ [.int (Int.ofNat x)]))) ∧ (upd H' I (.lst (nV ws ++ [.int (Int.ofNat x)]))) G = some (.lst acc) ∧ TkAll (upd H' I (.lst (nV ws ++ [.int (Int.ofNat x)]))) acc (gs.map gD) ∧
              (∃ fr : List Nat, (upd H' I (.lst (nV ws ++ [.int (Int.ofNat x)]))) F = some (.lst (nV fr)) ∧ fr.length ≤ i ∧ ∀ x ∈ fr, x < many + i) ∧ ∃ ws' : List Nat, (upd H' I (.lst (nV ws ++ [.int (Int.ofNat x)]))) I = some (.lst (nV ws')) ∧ ws'.length = j + 1 ∧ ∀ w ∈ ws', w < many + i := by
            intro H' x D' fr' hG' tg' hF' hI' hx
            obtain ⟨f', hF', lf', okf'⟩ := hF'
            refine ⟨?_, (D'.upd oI.1 oI.2).mono (by push_cast; omega), Fr.upd fr' nI0, by rw [upd_ne nGI]; exact hG', tg'.ts (Ts.set hI') (noL_gates gs), ⟨f', by rw [upd_ne nFI]; exact hF', lf', okf'⟩, ws ++ [x], ?_, by rw [List.length_append, lw]; rfl, fun w hw => ?_⟩
            · rw [nV_len, lw]
              exact Nat.lt_of_lt_of_le (show j < 64 by omega) (by decide)
            · rw [upd_same, nV_app]
              rfl
            · rcases List.mem_append.mp hw with z | z
              · exact okw w z
              · rw [List.mem_singleton.mp z]; exact hx
          cases b with
          | true =>
            have fne := hb rfl
            have fpos : 0 < f4.length := List.length_pos_iff.mpr fne
            refine ⟨.ref I, rfl, .inl ⟨rfl, _, SqL.of hI6⟩, .ref F, rfl, .inl ⟨rfl, _, SqL.of hF6⟩, .ref d, rfl, .ref F, rfl, F, _, rfl, .inl (SqL.of hF6), ?_⟩
            rw [nV_len]
            refine ⟨d, l, _, _, rfl, D6, by omega, by omega, by omega, fun H7 at_ D7 fr7 a0 a1 => ?_⟩
            obtain ⟨t, rfl⟩ := Int.eq_ofNat_of_zero_le a0
            have ht : t < f4.length := by omega
            have hF7 := fr7 _ _ oF.1 oF.2 hF6
            have hI7 := fr7 _ _ oI.1 oI.2 hI6
            have hG7 := fr7 _ _ oG.1 oG.2 hG6
            have tg7 := tg6.ts (Ts.fr D6 fr7) (noL_gates gs)
            refine ⟨F, _, (t : Int), t, .int (Int.ofNat f4[t]), rfl, rfl, hF7, by omega, by omega, ?_, nV_get (List.getElem?_eq_getElem ht), ?_⟩
            · rw [nV_len]
              rw [seqIndex_of (by omega) (by omega), Int.toNat_natCast]
            have hI8 : (upd H7 F (.lst ((nV f4).eraseIdx t))) I = some (.lst (nV ws)) := by rw [upd_ne nFI.symm]; exact hI7
            obtain ⟨z1, z2, z3, z4, z5, z6, z7⟩ := fin (H' := upd H7 F (.lst ((nV f4).eraseIdx t))) (x := f4[t]) ((D7.upd oF.1 oF.2).mono (by omega)) (Fr.upd (frC.trans fr7) nF0) (by rw [upd_ne nGF]; exact hG7) (tg7.ts (Ts.set hF7) (noL_gates gs))
              ⟨f4.eraseIdx t, by rw [upd_same, nV_erase], by rw [List.length_eraseIdx]; split <;> omega, fun x hx => okf4 x (List.mem_of_mem_eraseIdx hx)⟩ hI8 (okf4 _ (List.getElem_mem ht))
            exact ⟨I, _, _, rfl, rfl, hI8, z1, _, _, rfl, z2, z3, z4, z5, z6, z7⟩
          | false =>
            refine ⟨.ref I, rfl, .inl ⟨rfl, _, SqL.of hI6⟩, .ref d, rfl, .int many, rfl, d, l, _, _, rfl, D6, by omega, by omega, by omega, fun H7 x D7 fr7 a0 a1 => ?_⟩
            obtain ⟨t, rfl⟩ := Int.eq_ofNat_of_zero_le a0
            have hI7 := fr7 _ _ oI.1 oI.2 hI6
            obtain ⟨z1, z2, z3, z4, z5, z6, z7⟩ := fin (H' := H7) (x := t) (D7.mono (by omega)) (frC.trans fr7) (fr7 _ _ oG.1 oG.2 hG6) (tg6.ts (Ts.fr D6 fr7) (noL_gates gs)) ⟨f4, fr7 _ _ oF.1 oF.2 hF6, lf4, okf4⟩ hI7 (by omega)
            exact ⟨I, _, _, rfl, rfl, hI7, z1, _, _, rfl, z2, z3, z4, z5, z6, z7⟩
      · rintro σ H4 ⟨y7, y8, rfl, D4, fr4, hG4, tg4, ⟨f4, hF4, lf4, okf4⟩, ws, hI4, lw, okw⟩
        have lw' : ws.length = c := by rw [lw]; simp
        refine ⟨.ref G, rfl, .inl ⟨rfl, _, SqL.of hG4⟩, .ref d, rfl, .ref I, rfl, I, _, rfl, .inl (SqL.of hI4), ?_⟩
        rw [nV_len, lw']
        refine ⟨d, l, _, c, rfl, D4, by omega, c1, c3, fun H5 bs D5 fr5 lb => ?_⟩
        have hI5 := fr5 _ _ oI.1 oI.2 hI4
        have hG5 := fr5 _ _ oG.1 oG.2 hG4
        have hF5 := fr5 _ _ oF.1 oF.2 hF4
        have tg5 := tg4.ts (Ts.fr D4 fr5) (noL_gates gs)
        refine ⟨.ref I, rfl, I, _, rfl, .inl ⟨SqL.of hI5, fun ti nti => ⟨sl2, fun tt ntt => ?_⟩⟩⟩
        have s5 := (same_upd (o := HO.tup (nV ws)) nti).trans (same_upd (o := HO.tup [V.str (tabOf bs), .ref ti]) ntt)
        have hG6 := s5 _ _ hG5
        have hF6 := s5 _ _ hF5
        refine ⟨G, _, _, rfl, rfl, hG6, ?_, ?_⟩
        · have := tg5.length
          rw [List.length_map, lg] at this
          exact Nat.lt_of_lt_of_le (show acc.length < 64 by omega) (by decide)
        have D6 := (D5.same s5).upd (o := HO.lst (acc ++ [.ref tt])) oG.1 oG.2
        have frD := Fr.upd (o := HO.lst (acc ++ [.ref tt])) ((fr4.trans fr5).trans (Fr.of s5)) nG
        have tgN : TkAll (upd (upd (upd H5 ti (.tup (nV ws))) tt (.tup [.str (tabOf bs), .ref ti])) G (.lst (acc ++ [.ref tt]))) (acc ++ [.ref tt]) ((gs ++ [(bs, ws)]).map gD) := by
          rw [List.map_append]
          exact (tg5.ts ((Ts.same s5).trans (Ts.set hG6)) (noL_gates gs)).append (.cons ((gate_new nti ntt).ts (Ts.set hG6) (noL_gate _)) .nil)
        have hGN : (upd (upd (upd H5 ti (.tup (nV ws))) tt (.tup [.str (tabOf bs), .ref ti])) G (.lst (acc ++ [.ref tt]))) G = some (.lst (acc ++ [.ref tt])) := upd_same
        have hFN : (upd (upd (upd H5 ti (.tup (nV ws))) tt (.tup [.str (tabOf bs), .ref ti])) G (.lst (acc ++ [.ref tt]))) F = some (.lst (nV f4)) := by rw [upd_ne nGF.symm]; exact hF6
        refine ⟨.ref F, rfl, .inl ⟨rfl, _, SqL.of hFN⟩, .int many, rfl, .int (0 + (i : Int)), rfl, _, _, rfl, rfl, F, _, _, rfl, rfl, hFN, ?_, ?_⟩
        · rw [nV_len]
          exact Nat.lt_of_lt_of_le (show f4.length < 64 by omega) (by decide)
        · refine ⟨_, _, _, _, rfl, (D6.upd oF.1 oF.2).mono (by push_cast; omega), Fr.upd frD nF0, ⟨_, gs ++ [(bs, ws)], by rw [upd_ne nGF]; exact hGN, tgN.ts (Ts.set hFN) (noL_gates _), by rw [List.length_append, lg]; rfl, ok.snoc ⟨?_, ?_, ?_, ?_⟩⟩, f4 ++ [many + i], ?_, by rw [List.length_append]; show f4.length + 1 ≤ i + 1; omega, fun x hx => ?_⟩
          · show bs.length = 2 ^ ws.length
            rw [lb, lw']
          · show 1 ≤ ws.length
            omega
          · show ws.length ≤ 3
            omega
          · rw [lg]
            exact okw
          · rw [upd_same, nV_app]
            have : V.int ((many : Int) + (0 + (i : Int))) = V.int (Int.ofNat (many + i)) := by
              congr 1
              show (many : Int) + (0 + (i : Int)) = ((many + i : Nat) : Int)
              push_cast
              omega
            show some (HO.lst (nV f4 ++ [V.int ((many : Int) + (0 + (i : Int)))])) = _
            rw [this]
            rfl
          · rcases List.mem_append.mp hx with z | z
            · have := okf4 x z
              omega
            · rw [List.mem_singleton.mp z]
              omega
    · rintro σ H1 ⟨y5, y6, y7, y8, rfl, D1, fr1, ⟨acc, gs, hG, tg, lg, ok⟩, _⟩
      have lg' : gs.length = count := by rw [lg]; simp
      refine ⟨.int many, rfl, .ref G, rfl, G, _, rfl, .inl ⟨SqL.of hG, fun tq ntq => ⟨sl2, fun r nr => ?_⟩⟩⟩
      have s2 := (same_upd (o := HO.tup acc) ntq).trans (same_upd (o := HO.tup [V.int many, .ref tq]) nr)
      refine q r _ gs ((D1.same s2).mono (by omega)) (fr1.trans (Fr.of s2)) ?_ lg' ok
      exact .tup upd_same (.cons (.int _) (.cons (.tup (same_upd nr _ _ upd_same) (tg.same s2)) .nil))
/-! ### chains -/
theorem nV_set : ∀ (ws : List Nat) (t x : Nat), (nV ws).set t (.int (Int.ofNat x)) = nV (ws.set t x)
  | [], _, _ => rfl
  | _ :: _, 0, _ => rfl
  | w :: r, t + 1, x => by
    show V.int (Int.ofNat w) :: (nV r).set t _ = V.int (Int.ofNat w) :: nV (r.set t x)
    rw [nV_set r t x]
theorem ok_chain (T : Tx K mg) : FnOk P w K mg base CX0 3 T.f_chain T.fd_chain ["_law_deck_here", "_law_many", "_law_count"] (sp_shared K) := by
  refine T.F_chain.ok sc_chain (fun vs H Q E h => ?_) (fun cdv A outer s H vs Q E hr h => ?_)
  · obtain ⟨d, l, n, many, count, rfl, _⟩ := h
    rfl
  · obtain ⟨d, l, n, many, count, rfl, D, hn, m1, m6, c40, q⟩ := h
    refine ⟨_, (pss_cons (ps_set (i := 3) sc_chain.nd rfl (by first | exact .inl rfl | exact .inr rfl) (pe_lst pa_nil)) (pss_cons (ps_for PassesOwn.never rfl (pi_range1 (by rfl) T.m_range (pa_cons (pv 2) pa_nil)) (pg_name (i := 4) sc_chain.nd rfl (by first | exact .inl rfl | exact .inr rfl)) (pss_cons (ps_setLc (i := 5) (own := [("_law_place", 6)]) (by rfl) sc_chain.nd rfl rfl (sw_true rfl rfl rfl (by decide +kernel)) (pi_range1 (by rfl) T.m_range (pa_cons (pe_ix ix_list (pe_lst (pa_cons pe_int (pa_cons pe_int (pa_cons pe_int (pa_cons pe_int (pa_cons pe_int (pa_cons pe_int pa_nil))))))) (pe_call (ok_draw T) (hr.mono (by decide)) (by rfl) T.g_draw T.F_draw.kp T.b_draw .nil pass0 (pa_cons (pv 0) (pa_cons pe_int pa_nil))) (fun _ _ => rfl)) pa_nil)) (blkOk_by (own := [("_law_place", 6)]) (N := ["_law_deck_here", "_law_many", "_law_count", "_law_gates", "_law_k", "_law_ins", "_law_place"]) (sc := defScope s_chain) (by decide +kernel)) (fun _ _ _ _ _ => (pg_name (i := 6) sc_chain.nd rfl (by first | exact .inl rfl | exact .inr rfl))) (fun _ _ _ _ _ => pts_nil) (fun _ _ _ _ _ => (pe_call (ok_draw T) (hr.mono (by decide)) (by rfl) T.g_draw T.F_draw.kp T.b_draw .nil pass0 (pa_cons (pv 0) (pa_cons (pv 1) pa_nil))))) (C8.pss_cut (ps_if (pt_cmpR op_gt (pv 4) pe_int (nomark _)) (pss_one (ps_asg (pe_op op_sub (pe_op op_add (pv 1) (pv 4)) pe_int) (pg_sub (pv 5) (pe_call (ok_draw T) (hr.mono (by decide)) (by rfl) T.g_draw T.F_draw.kp T.b_draw .nil pass0 (pa_cons (pv 0) (pa_cons (pe_callB call_len_seq (by rfl) T.m_len PySem.boot_len (pa_cons (pv 5) pa_nil)) pa_nil))) set_list))) pss_nil) (pss_one (ps_expr (pe_bm PySem.F.plainAttrs_list PySem.F.slot_list_append PySem.F.type_list_append mt_append (pv 3) (pa_cons (pe_tup (pa_cons (pe_call (ok_table T) (hr.mono (by decide)) (by rfl) T.g_table T.F_table.kp T.b_table .nil pass0 (pa_cons (pv 0) (pa_cons (pe_callB call_len_seq (by rfl) T.m_len PySem.boot_len (pa_cons (pv 5) pa_nil)) pa_nil))) (pa_cons (pe_callTy call_tuple_of (by rfl) T.m_tuple (by decide +kernel) (pa_cons (pv 5) pa_nil)) pa_nil))) pa_nil))))))) (pss_one (ps_ret (pe_tup (pa_cons (pv 1) (pa_cons (pe_callTy call_tuple_of (by rfl) T.m_tuple (by decide +kernel) (pa_cons (pv 3) pa_nil)) pa_nil))))))), ?_⟩
    have hcc : (((count : Int).toNat : Nat) : Int) = count := by simp
    refine ⟨Nat.zero_le _, fun G nG => ?_⟩
    have oG := D.off nG
    refine ⟨.int count, rfl, count, rfl, by omega, by omega, ?_⟩
    refine for_range (lo := 0) (n := (count : Int).toNat) (fun i σ H' => ∃ y4 y5, σ = [some (.ref d), some (.int many), some (.int count), some (.ref G), y4, y5, none] ∧ DeckB H' d l (n + 20 * i) ∧ Fr d l H H' ∧ (∃ acc gs, H' G = some (.lst acc) ∧ TkAll H' acc (gs.map gD) ∧ gs.length = i ∧ NetOk many gs))
      ⟨_, _, rfl, (D.same (same_upd nG)).mono (by omega), Fr.new nG, [], [], upd_same, .nil, rfl, fun k g e => by simp at e⟩ ?_ ?_
    · rintro i σ H1 hi ⟨y4, y5, rfl, D1, fr1, acc, gs, hG, tg, lg, ok⟩
      have hi' : i < count := by simpa using hi
      refine ⟨by decide, fun p6 n6 => ?_⟩
      have o6 := D1.off n6
      have s26 := same_upd (o := HO.lst [V.int 2, V.int 2, V.int 1, V.int 3, V.int 2, V.int 2]) n6
      have D2' := D1.same s26
      refine ⟨.ref d, rfl, d, l, 6, _, rfl, D2', by omega, by decide, by decide, fun H3 v D3 fr3 v0 v1 => ?_⟩
      have h63 := fr3 _ _ o6.1 o6.2 upd_same
      have hG3 := fr3 _ _ oG.1 oG.2 (s26 _ _ hG)
      have tg3 := tg.ts ((Ts.same s26).trans (Ts.fr D2' fr3)) (noL_gates gs)
      have frA : Fr d l H H3 := (fr1.trans (Fr.of s26)).trans fr3
      obtain ⟨c, hc, c1, c3⟩ := pick6 (a := 2) (b := 2) (c := 1) (d := 3) (e := 2) (f := 2) v0 v1 (by omega) (by omega) (by omega) (by omega) (by omega) (by omega)
      have hc2 : (((c : Int).toNat : Nat) : Int) = c := by simp
      refine ⟨p6, _, v, _, rfl, rfl, SqL.of h63, hc, c, rfl, by omega, by omega, fun I nI => ?_⟩
      have oI := D3.off nI
      have nI0 : H I = none := none_of_fr frA D3 nI
      have nGI : G ≠ I := ne_of_none hG3 nI
      refine lc_range (lo := 0) (n := (c : Int).toNat) (fun j H' => DeckB H' d l (n + 20 * i + 1 + j) ∧ Fr d l H H' ∧ H' G = some (.lst acc) ∧ TkAll H' acc (gs.map gD) ∧ ∃ ws : List Nat, H' I = some (.lst (nV ws)) ∧ ws.length = j ∧ ∀ w ∈ ws, w < many)
        ⟨(D3.same (same_upd nI)).mono (by omega), frA.trans (Fr.new nI), same_upd nI _ _ hG3, tg3.ts (Ts.new nI) (noL_gates gs), [], upd_same, rfl, fun w hw => by cases hw⟩ ?_ ?_
      · rintro j H4 hj ⟨D4, fr4, hG4, tg4, ws, hI4, lw, okw⟩
        have hj' : j < c := by simpa using hj
        refine ⟨rfl, .ref d, rfl, .int many, rfl, d, l, _, _, rfl, D4, by omega, by omega, by omega, fun H5 x D5 fr5 x0 x1 => ?_⟩
        obtain ⟨t, rfl⟩ := Int.eq_ofNat_of_zero_le x0
        have hI5 := fr5 _ _ oI.1 oI.2 hI4
        have hG5 := fr5 _ _ oG.1 oG.2 hG4
        refine ⟨_, hI5, ?_, (D5.upd oI.1 oI.2).mono (by push_cast; omega), Fr.upd (fr4.trans fr5) nI0, by rw [upd_ne nGI]; exact hG5, tg4.ts ((Ts.fr D4 fr5).trans (Ts.set hI5)) (noL_gates gs), ws ++ [t], ?_, by rw [List.length_append, lw]; rfl, fun w hw => ?_⟩
        · rw [nV_len, lw]
          exact Nat.lt_of_lt_of_le (show j < 64 by omega) (by decide)
        · rw [upd_same, nV_app]
          rfl
        · rcases List.mem_append.mp hw with z | z
          · exact okw w z
          · rw [List.mem_singleton.mp z]; omega
      · rintro H4 ⟨D4, fr4, hG4, tg4, ws, hI4, lw, okw⟩
        have lw' : ws.length = c := by rw [lw]; simp
        -- if k > 0
        refine ⟨fun σ H' => σ = [some (.ref d), some (.int many), some (.int count), some (.ref G), some (.int (0 + (i : Int))), some (.ref I), none] ∧ DeckB H' d l (n + 20 * i + 6) ∧ Fr d l H H' ∧ H' G = some (.lst acc) ∧ TkAll H' acc (gs.map gD) ∧ ∃ ws : List Nat, H' I = some (.lst (nV ws)) ∧ ws.length = c ∧ ∀ w ∈ ws, w < many + i, ?_, ?_⟩
        · refine ⟨.int (0 + (i : Int)), rfl, _, _, rfl, rfl, _, rfl, ite2 (fun z => ?_) (fun z => ?_)⟩
          · have ip : 0 < i := by
              have : (0 : Int) < 0 + (i : Int) := of_decide_eq_true z
              omega
            refine ⟨.int many, rfl, .int (0 + (i : Int)), rfl, _, _, rfl, rfl, _, _, rfl, rfl, .ref I, rfl, .ref d, rfl, .ref I, rfl, I, _, rfl, .inl (SqL.of hI4), ?_⟩
            rw [nV_len, lw']
            refine ⟨d, l, _, _, rfl, D4, by omega, by omega, by omega, fun H5 x D5 fr5 x0 x1 => ?_⟩
            obtain ⟨t, rfl⟩ := Int.eq_ofNat_of_zero_le x0
            have ht : t < ws.length := by omega
            have hI5 := fr5 _ _ oI.1 oI.2 hI4
            have hG5 := fr5 _ _ oG.1 oG.2 hG4
            refine ⟨I, _, (t : Int), t, rfl, rfl, hI5, ?_, ?_⟩
            · unfold ixN
              rw [if_pos (by omega), nV_len, if_pos (by omega)]
              simp
            · have ev : V.int ((many : Int) + (0 + (i : Int)) - 1) = .int (Int.ofNat (many + i - 1)) := by
                congr 1
                show (many : Int) + (0 + (i : Int)) - 1 = ((many + i - 1 : Nat) : Int)
                omega
              refine ⟨rfl, (D5.upd oI.1 oI.2).mono (by omega), Fr.upd (fr4.trans fr5) nI0, by rw [upd_ne nGI]; exact hG5, tg4.ts ((Ts.fr D4 fr5).trans (Ts.set hI5)) (noL_gates gs), ws.set t (many + i - 1), ?_, by rw [List.length_set]; exact lw', fun w hw => ?_⟩
              · rw [upd_same]
                show some (HO.lst ((nV ws).set t (V.int ((many : Int) + (0 + (i : Int)) - 1)))) = _
                rw [ev, nV_set]
              · rcases List.mem_or_eq_of_mem_set hw with z | z
                · have := okw w z
                  omega
                · omega
          · exact ⟨rfl, D4.mono (by omega), fr4, hG4, tg4, ws, hI4, lw', fun w hw => by have := okw w hw; omega⟩
        rintro σ H5 ⟨rfl, D5, fr5, hG5, tg5, ws2, hI5, lw2, okw2⟩
        refine ⟨.ref G, rfl, .inl ⟨rfl, _, SqL.of hG5⟩, .ref d, rfl, .ref I, rfl, I, _, rfl, .inl (SqL.of hI5), ?_⟩
        rw [nV_len, lw2]
        refine ⟨d, l, _, c, rfl, D5, by omega, c1, c3, fun H6 bs D6 fr6 lb => ?_⟩
        have hI6 := fr6 _ _ oI.1 oI.2 hI5
        have hG6 := fr6 _ _ oG.1 oG.2 hG5
        have tg6 := tg5.ts (Ts.fr D5 fr6) (noL_gates gs)
        refine ⟨.ref I, rfl, I, _, rfl, .inl ⟨SqL.of hI6, fun ti nti => ⟨sl2, fun tt ntt => ?_⟩⟩⟩
        have s5 := (same_upd (o := HO.tup (nV ws2)) nti).trans (same_upd (o := HO.tup [V.str (tabOf bs), .ref ti]) ntt)
        have hG7 := s5 _ _ hG6
        refine ⟨G, _, _, rfl, rfl, hG7, ?_, ?_⟩
        · have := tg6.length
          rw [List.length_map, lg] at this
          exact Nat.lt_of_lt_of_le (show acc.length < 64 by omega) (by decide)
        · refine ⟨_, _, rfl, ((D6.same s5).upd oG.1 oG.2).mono (by push_cast; omega), Fr.upd ((fr5.trans fr6).trans (Fr.of s5)) nG, _, gs ++ [(bs, ws2)], upd_same, ?_, by rw [List.length_append, lg]; rfl, ok.snoc ⟨?_, ?_, ?_, ?_⟩⟩
          · rw [List.map_append]
            exact (tg6.ts ((Ts.same s5).trans (Ts.set hG7)) (noL_gates gs)).append (.cons ((gate_new nti ntt).ts (Ts.set hG7) (noL_gate _)) .nil)
          · show bs.length = 2 ^ ws2.length
            rw [lb, lw2]
          · show 1 ≤ ws2.length
            omega
          · show ws2.length ≤ 3
            omega
          · rw [lg]
            exact okw2
    · rintro σ H1 ⟨y4, y5, rfl, D1, fr1, acc, gs, hG, tg, lg, ok⟩
      have lg' : gs.length = count := by rw [lg]; simp
      refine ⟨.int many, rfl, .ref G, rfl, G, _, rfl, .inl ⟨SqL.of hG, fun tq ntq => ⟨sl2, fun r nr => ?_⟩⟩⟩
      have s2 := (same_upd (o := HO.tup acc) ntq).trans (same_upd (o := HO.tup [V.int many, .ref tq]) nr)
      refine q r _ gs ((D1.same s2).mono (by omega)) (fr1.trans (Fr.of s2)) ?_ lg' ok
      exact .tup upd_same (.cons (.int _) (.cons (.tup (same_upd nr _ _ upd_same) (tg.same s2)) .nil))
def sp_net (K : PySem.W.Frag) : Sp := fun vs H Q E => ∃ (d l : Addr) (n way : Int) (many count : Nat), vs = [.ref d, .int way, .int many, .int count] ∧ sp_shared K [.ref d, .int many, .int count] H Q E
theorem ok_net (T : Tx K mg) : FnOk P w K mg base CX0 4 T.f_net T.fd_net ["_law_deck_here", "_law_way", "_law_many", "_law_count"] (sp_net K) := by
  refine T.F_net.ok sc_net (fun vs H Q E h => ?_) (fun cdv A outer s H vs Q E hr h => ?_)
  · obtain ⟨d, l, n, way, many, count, rfl, _⟩ := h
    rfl
  · obtain ⟨d, l, n, way, many, count, rfl, h⟩ := h
    refine ⟨_, (pss_cons (ps_if (pt_cmpR op_eq (pv 1) pe_int (nomark _)) (pss_one (ps_ret (pe_call (ok_formula T) (hr.mono (by decide)) (by rfl) T.g_formula T.F_formula.kp T.b_formula .nil pass0 (pa_cons (pv 0) (pa_cons (pv 2) (pa_cons (pv 3) pa_nil)))))) pss_nil) (pss_cons (ps_if (pt_cmpR op_eq (pv 1) pe_int (nomark _)) (pss_one (ps_ret (pe_call (ok_chain T) (hr.mono (by decide)) (by rfl) T.g_chain T.F_chain.kp T.b_chain .nil pass0 (pa_cons (pv 0) (pa_cons (pv 2) (pa_cons (pv 3) pa_nil)))))) pss_nil) (pss_one (ps_ret (pe_call (ok_shared T) (hr.mono (by decide)) (by rfl) T.g_shared T.F_shared.kp T.b_shared .nil pass0 (pa_cons (pv 0) (pa_cons (pv 2) (pa_cons (pv 3) pa_nil)))))))), ?_⟩
    refine ⟨.int way, rfl, rfl, _, rfl, ite2 (fun _ => ⟨.ref d, rfl, .int many, rfl, .int count, rfl, h⟩) (fun _ => ?_)⟩
    refine ⟨.int way, rfl, rfl, _, rfl, ite2 (fun _ => ⟨.ref d, rfl, .int many, rfl, .int count, rfl, h⟩) (fun _ => ⟨.ref d, rfl, .int many, rfl, .int count, rfl, h⟩)⟩

theorem cutV_to {xs : List V} {j : Nat} (h : j ≤ xs.length) : cutV xs none (some (j : Int)) = xs.take j := by
  unfold cutV
  rw [HT.sIx_none, HT.sIx_nat, List.drop_zero, Nat.min_eq_left h]
  rfl
theorem cutV_from {xs : List V} {j : Nat} (h : j ≤ xs.length) : cutV xs (some (j : Int)) none = xs.drop j := by
  unfold cutV
  rw [HT.sIx_none, HT.sIx_nat, Nat.min_eq_left h]
  exact List.take_of_length_le (by rw [List.length_drop]; exact Nat.le_refl _)
def RowL (H : Hp) (p : Addr) (m : Nat) (r : List Int) : Prop := H p = some (.lst (r.map V.int)) ∧ r.length = m ∧ Row01 r
theorem Row01.snoc {r : List Int} {v : Int} (h : Row01 r) (hv : v = 0 ∨ v = 1) : Row01 (r ++ [v]) := fun x hx => by
  rcases List.mem_append.mp hx with z | z
  · exact h x z
  · rw [List.mem_singleton.mp z]; exact hv
def sp_change (K : PySem.W.Frag) : Sp := fun vs H Q _ => ∃ (d l : Addr) (n : Int) (many : Nat), vs = [.ref d, .int many] ∧ DeckB H d l n ∧ n < 100000 ∧ 1 ≤ many ∧ many ≤ 6 ∧
  ∀ r H' a b, DeckB H' d l (n + 20) → Fr d l H H' → Tk H' (.ref r) (chD a b) → a.length = many → b.length = many → Row01 a → Row01 b → Q (.ref r) H'
theorem ok_change (T : Tx K mg) : FnOk P w K mg base CX0 2 T.f_change T.fd_change ["_law_deck_here", "_law_many"] (sp_change K) := by
  refine T.F_change.ok sc_change (fun vs H Q E h => ?_) (fun cdv A outer s H vs Q E hr h => ?_)
  · obtain ⟨d, l, n, many, rfl, _⟩ := h
    rfl
  · obtain ⟨d, l, n, many, rfl, D, hn, m1, m6, q⟩ := h
    refine ⟨_, (pss_cons (ps_set (i := 2) sc_change.nd rfl (by first | exact .inl rfl | exact .inr rfl) (pe_call (ok_draw T) (hr.mono (by decide)) (by rfl) T.g_draw T.F_draw.kp T.b_draw .nil pass0 (pa_cons (pv 0) (pa_cons pe_int pa_nil)))) (pss_cons (ps_setLc (i := 3) (own := [("_law_k", 6)]) (by rfl) sc_change.nd rfl rfl (sw_true rfl rfl rfl (by decide +kernel)) (pi_range1 (by rfl) T.m_range (pa_cons (pv 1) pa_nil)) (blkOk_by (own := [("_law_k", 6)]) (N := ["_law_deck_here", "_law_many", "_law_way", "_law_one", "_law_other", "_law_at", "_law_k", "_law_worth_here"]) (sc := defScope s_change) (by decide +kernel)) (fun _ _ _ _ _ => (pg_name (i := 6) sc_change.nd rfl (by first | exact .inl rfl | exact .inr rfl))) (fun _ _ _ _ _ => pts_nil) (fun _ _ _ _ _ => (pe_call (ok_draw T) (hr.mono (by decide)) (by rfl) T.g_draw T.F_draw.kp T.b_draw .nil pass0 (pa_cons (pv 0) (pa_cons pe_int pa_nil))))) (pss_cons (ps_setLc (i := 4) (own := [("_law_worth_here", 7)]) (by rfl) sc_change.nd rfl rfl (sw_true rfl rfl rfl (by decide +kernel)) (pi_list (pv 3)) (blkOk_by (own := [("_law_worth_here", 7)]) (N := ["_law_deck_here", "_law_many", "_law_way", "_law_one", "_law_other", "_law_at", "_law_k", "_law_worth_here"]) (sc := defScope s_change) (by decide +kernel)) (fun _ _ _ _ _ => (pg_name (i := 7) sc_change.nd rfl (by first | exact .inl rfl | exact .inr rfl))) (fun _ _ _ _ _ => pts_nil) (fun _ _ _ _ _ => (pe_op op_sub pe_int (pv 7)))) (C8.pss_cut (ps_if (pt_cmpR op_eq (pv 2) pe_int (nomark _)) (pss_one (ps_set (i := 4) sc_change.nd rfl (by first | exact .inl rfl | exact .inr rfl) (pe_callTy call_list_of (by rfl) T.m_list (by decide +kernel) (pa_cons (pv 3) pa_nil)))) pss_nil) (C8.pss_cut (ps_if (pt_cut (pw_or (pt_cmpR op_eq (pv 2) pe_int (nomark _)) (pw_or1 (pt_cmpR op_eq (pv 2) pe_int (nomark _)))).pt) (pss_cons (ps_set (i := 5) sc_change.nd rfl (by first | exact .inl rfl | exact .inr rfl) (pe_call (ok_draw T) (hr.mono (by decide)) (by rfl) T.g_draw T.F_draw.kp T.b_draw .nil pass0 (pa_cons (pv 0) (pa_cons (pv 1) pa_nil)))) (pss_one (ps_set (i := 4) sc_change.nd rfl (by first | exact .inl rfl | exact .inr rfl) (pe_op op_cat (pe_op op_cat (pe_slice sl_list (pv 3) po_none (po_some (pv 5))) (pe_lst (pa_cons (pe_op op_sub pe_int (pe_ix ix_list (pv 3) (pv 5) (fun _ _ => rfl))) pa_nil))) (pe_slice sl_list (pv 3) (po_some (pe_op op_add (pv 5) pe_int)) po_none))))) pss_nil) (C8.pss_cut (ps_if (pt_cmpR op_gt (pv 2) pe_int (nomark _)) (pss_one (ps_setLc (i := 4) (own := [("_law_k", 6)]) (by rfl) sc_change.nd rfl rfl (sw_true rfl rfl rfl (by decide +kernel)) (pi_range1 (by rfl) T.m_range (pa_cons (pv 1) pa_nil)) (blkOk_by (own := [("_law_k", 6)]) (N := ["_law_deck_here", "_law_many", "_law_way", "_law_one", "_law_other", "_law_at", "_law_k", "_law_worth_here"]) (sc := defScope s_change) (by decide +kernel)) (fun _ _ _ _ _ => (pg_name (i := 6) sc_change.nd rfl (by first | exact .inl rfl | exact .inr rfl))) (fun _ _ _ _ _ => pts_nil) (fun _ _ _ _ _ => (pe_call (ok_draw T) (hr.mono (by decide)) (by rfl) T.g_draw T.F_draw.kp T.b_draw .nil pass0 (pa_cons (pv 0) (pa_cons pe_int pa_nil)))))) pss_nil) (pss_one (ps_ret (pe_tup (pa_cons (pe_callTy call_tuple_of (by rfl) T.m_tuple (by decide +kernel) (pa_cons (pv 3) pa_nil)) (pa_cons (pe_callTy call_tuple_of (by rfl) T.m_tuple (by decide +kernel) (pa_cons (pv 4) pa_nil)) pa_nil))))))))))), ?_⟩
    have hmm : (((many : Int).toNat : Nat) : Int) = many := by simp
    refine ⟨.ref d, rfl, d, l, 8, n, rfl, D, by omega, by decide, by decide, fun H1 way D1 fr1 w0 w1 => ?_⟩
    refine ⟨.int many, rfl, _, rfl, by omega, by omega, fun D2 n2 => ?_⟩
    have o2 := D1.off n2
    have n20 : H D2 = none := by
      cases z : H D2 with
      | none => rfl
      | some o => rw [fr1 _ _ o2.1 o2.2 z] at n2; cases n2
    refine lc_range (lo := 0) (n := (many : Int).toNat) (fun i H' => DeckB H' d l (n + 1 + i) ∧ Fr d l H H' ∧ ∃ r, RowL H' D2 i r) ⟨(D1.same (same_upd n2)).mono (by omega), fr1.trans (Fr.new n2), [], upd_same, rfl, fun x hx => by cases hx⟩ ?_ ?_
    · rintro i H' hi ⟨Di, fri, r, hD, lr, okr⟩
      refine ⟨rfl, .ref d, rfl, d, l, 2, _, rfl, Di, by omega, by decide, by decide, fun H6 v D6 fr6 v0 v1 => ?_⟩
      have hD6 := fr6 _ _ o2.1 o2.2 hD
      refine ⟨_, hD6, ?_, (D6.upd o2.1 o2.2).mono (by push_cast; omega), Fr.upd (fri.trans fr6) n20, r ++ [v], ?_, by rw [List.length_append, lr]; rfl, okr.snoc (by omega)⟩
      · rw [List.length_map, lr]
        exact Nat.lt_of_lt_of_le (show i < 64 by omega) (by decide)
      · rw [upd_same, List.map_append]
        rfl
    · rintro H2 ⟨D3, fr2, one, h1, l1, ok1⟩
      have l1' : one.length = many := by rw [l1]; simp
      refine ⟨.ref D2, rfl, D2, rfl, ⟨_, SqL.of h1⟩, fun O nO => ?_⟩
      have oO := D3.off nO
      have nO0 : H O = none := by
        cases z : H O with
        | none => rfl
        | some o => rw [fr2 _ _ oO.1 oO.2 z] at nO; cases nO
      have n2O : D2 ≠ O := ne_of_none h1 nO
      refine lc_list (K := K) (a := D2) (xs := one.map V.int) (fun i H' => DeckB H' d l (n + 1 + many) ∧ Fr d l H H' ∧ H' D2 = some (.lst (one.map V.int)) ∧ ∃ r, RowL H' O i r) ⟨(D3.same (same_upd nO)).mono (by omega), fr2.trans (Fr.new nO), same_upd nO _ _ h1, [], upd_same, rfl, fun x hx => by cases hx⟩ (fun i H' _ hP => SqL.of hP.2.2.1) ?_ ?_
      · rintro i x H' hx ⟨Di, fri, h1i, r, hO, lr, okr⟩
        rw [List.getElem?_map] at hx
        cases hj : one[i]? with
        | none => rw [hj] at hx; cases hx
        | some v =>
          rw [hj] at hx
          cases Option.some.inj hx
          have hv := ok1 v (List.mem_of_getElem? hj)
          have hi := (List.getElem?_eq_some_iff.mp hj).1
          refine ⟨rfl, .int v, rfl, _, _, rfl, rfl, _, hO, ?_, Di.upd oO.1 oO.2, Fr.upd fri nO0, by rw [upd_ne n2O]; exact h1i, r ++ [1 - v], ?_, by rw [List.length_append, lr]; rfl, okr.snoc (by omega)⟩
          · rw [List.length_map, lr]
            exact Nat.lt_of_lt_of_le (show i < 64 by omega) (by decide)
          · rw [upd_same, List.map_append]
            rfl
      · rintro H3 ⟨D4, fr3, h1', r, hO⟩
        rw [List.length_map, l1'] at hO
        -- if way == 0
        refine ⟨fun σ H' => ∃ O' r, σ = [some (.ref d), some (.int many), some (.int way), some (.ref D2), some (.ref O'), none, none, none] ∧ DeckB H' d l (n + 1 + many) ∧ Fr d l H H' ∧ H' D2 = some (.lst (one.map V.int)) ∧ RowL H' O' many r, ?_, ?_⟩
        · refine ⟨.int way, rfl, rfl, _, rfl, ite2 (fun _ => ?_) (fun _ => ?_)⟩
          · refine ⟨.ref D2, rfl, D2, _, rfl, .inl (SqL.of h1'), fun p np => ?_⟩
            exact ⟨p, one, rfl, D4.same (same_upd np), fr3.trans (Fr.new np), same_upd np _ _ h1', upd_same, l1', ok1⟩
          · exact ⟨O, r, rfl, D4, fr3, h1', hO⟩
        rintro σ H4 ⟨O', r', rfl, D5, fr4, h14, hO4⟩
        -- if way == 1 or way == 2
        refine ⟨fun σ H' => ∃ O' r y5, σ = [some (.ref d), some (.int many), some (.int way), some (.ref D2), some (.ref O'), y5, none, none] ∧ DeckB H' d l (n + 2 + many) ∧ Fr d l H H' ∧ H' D2 = some (.lst (one.map V.int)) ∧ RowL H' O' many r, ?_, ?_⟩
        · refine ⟨fun _ H' => H' = H4, ?_, ?_⟩
          · refine ⟨.int way, rfl, rfl, _, rfl, ite2 (fun _ => rfl) (fun _ => ⟨.int way, rfl, rfl, _, rfl, rfl⟩)⟩
          · rintro b _ rfl
            cases b with
            | false => exact ⟨O', r', _, rfl, D5.mono (by omega), fr4, h14, hO4⟩
            | true =>
              refine ⟨.ref d, rfl, .int many, rfl, d, l, _, _, rfl, D5, by omega, by omega, by omega, fun H5 at_ D6 fr5 a0 a1 => ?_⟩
              obtain ⟨j, rfl⟩ := Int.eq_ofNat_of_zero_le a0
              have hj : j < one.length := by omega
              have h15 := fr5 _ _ o2.1 o2.2 h14
              refine ⟨.ref D2, rfl, .int (j : Int), rfl, (j : Int), rfl, D2, _, rfl, SqL.of h15, fun p1 n1 => ?_⟩
              rw [cutV_to (by rw [List.length_map]; omega)]
              have s1 := same_upd (o := HO.lst ((one.map V.int).take j)) n1
              have hat : (one.map V.int)[j]? = some (.int one[j]) := by rw [List.getElem?_map, List.getElem?_eq_getElem hj]; rfl
              refine ⟨.ref D2, rfl, .int (j : Int), rfl, D2, _, (j : Int), _, rfl, rfl, SqL.of (s1 _ _ h15), atI_nat hat, _, _, rfl, rfl, sl1, fun p2 n2' => ?_⟩
              have s2 := same_upd (o := HO.lst [V.int (1 - one[j])]) n2'
              have e1 := s2 _ _ (show (upd H5 p1 (.lst ((one.map V.int).take j))) p1 = some (.lst ((one.map V.int).take j)) from upd_same)
              refine ⟨p1, p2, _, _, rfl, rfl, e1, upd_same, ?_, fun p3 n3 => ?_⟩
              · rw [List.length_take, List.length_map]
                exact Nat.le_trans (show min j one.length + 1 ≤ 64 by omega) (by decide)
              have s3 := same_upd (o := HO.lst ((one.map V.int).take j ++ [V.int (1 - one[j])])) n3
              refine ⟨.ref D2, rfl, .int (j : Int), rfl, _, _, rfl, rfl, _, rfl, D2, _, rfl, SqL.of (s3 _ _ (s2 _ _ (s1 _ _ h15))), fun p4 n4 => ?_⟩
              rw [show ((j : Int) + 1) = ((j + 1 : Nat) : Int) by push_cast; rfl, cutV_from (by rw [List.length_map]; omega)]
              have s4 := same_upd (o := HO.lst ((one.map V.int).drop (j + 1))) n4
              have e3 := s4 _ _ (show (upd (upd (upd H5 p1 (.lst ((one.map V.int).take j))) p2 (.lst [V.int (1 - one[j])])) p3 (.lst ((one.map V.int).take j ++ [V.int (1 - one[j])]))) p3 = some (.lst ((one.map V.int).take j ++ [V.int (1 - one[j])])) from upd_same)
              refine ⟨p3, p4, _, _, rfl, rfl, e3, upd_same, ?_, fun p5 n5 => ?_⟩
              · rw [List.length_append, List.length_take, List.length_drop, List.length_map]
                exact Nat.le_trans (show min j one.length + 1 + (one.length - (j + 1)) ≤ 64 by omega) (by decide)
              have s5 := same_upd (o := HO.lst ((one.map V.int).take j ++ [V.int (1 - one[j])] ++ (one.map V.int).drop (j + 1))) n5
              have sA := (((s1.trans s2).trans s3).trans s4).trans s5
              have h1j := ok1 _ (List.getElem_mem hj)
              refine ⟨p5, one.take j ++ [1 - one[j]] ++ one.drop (j + 1), _, rfl, (D6.same sA).mono (by omega), (fr4.trans fr5).trans (Fr.of sA), sA _ _ h15, ?_, ?_, ?_⟩
              · rw [upd_same, List.map_append, List.map_append, List.map_take, List.map_drop]
                rfl
              · rw [List.length_append, List.length_append, List.length_take, List.length_drop]
                show min j one.length + 1 + (one.length - (j + 1)) = many
                omega
              · intro x hx
                rcases List.mem_append.mp hx with z | z
                · rcases List.mem_append.mp z with z | z
                  · exact ok1 x (List.mem_of_mem_take z)
                  · rw [List.mem_singleton.mp z]; omega
                · exact ok1 x (List.mem_of_mem_drop z)
        rintro σ H5 ⟨O5, r5, y5, rfl, D6, fr5, h15, hO5⟩
        -- if way > 4
        refine ⟨fun σ H' => ∃ O' r y5, σ = [some (.ref d), some (.int many), some (.int way), some (.ref D2), some (.ref O'), y5, none, none] ∧ DeckB H' d l (n + 2 + many + many) ∧ Fr d l H H' ∧ H' D2 = some (.lst (one.map V.int)) ∧ RowL H' O' many r, ?_, ?_⟩
        · refine ⟨.int way, rfl, _, _, rfl, rfl, _, rfl, ite2 (fun _ => ?_) (fun _ => ⟨O5, r5, y5, rfl, D6.mono (by omega), fr5, h15, hO5⟩)⟩
          refine ⟨.int many, rfl, _, rfl, by omega, by omega, fun O6 n6 => ?_⟩
          have o6 := D6.off n6
          have n60 : H O6 = none := by
            cases z : H O6 with
            | none => rfl
            | some o => rw [fr5 _ _ o6.1 o6.2 z] at n6; cases n6
          have n26 : D2 ≠ O6 := ne_of_none h15 n6
          refine lc_range (lo := 0) (n := (many : Int).toNat) (fun i H' => DeckB H' d l (n + 2 + many + i) ∧ Fr d l H H' ∧ H' D2 = some (.lst (one.map V.int)) ∧ ∃ r, RowL H' O6 i r) ⟨(D6.same (same_upd n6)).mono (by omega), fr5.trans (Fr.new n6), same_upd n6 _ _ h15, [], upd_same, rfl, fun x hx => by cases hx⟩ ?_ ?_
          · rintro i H' hi ⟨Di, fri, h1i, r, hD, lr, okr⟩
            refine ⟨rfl, .ref d, rfl, d, l, 2, _, rfl, Di, by omega, by decide, by decide, fun H6 v D7 fr6 v0 v1 => ?_⟩
            have hD6 := fr6 _ _ o6.1 o6.2 hD
            refine ⟨_, hD6, ?_, (D7.upd o6.1 o6.2).mono (by push_cast; omega), Fr.upd (fri.trans fr6) n60, by rw [upd_ne n26]; exact fr6 _ _ o2.1 o2.2 h1i, r ++ [v], ?_, by rw [List.length_append, lr]; rfl, okr.snoc (by omega)⟩
            · rw [List.length_map, lr]
              exact Nat.lt_of_lt_of_le (show i < 64 by omega) (by decide)
            · rw [upd_same, List.map_append]
              rfl
          · rintro H6 ⟨D7, fr6, h16, r, hO6⟩
            exact ⟨O6, r, _, rfl, D7.mono (by omega), fr6, h16, by simpa using hO6⟩
        rintro σ H6 ⟨O6, r6, y6, rfl, D7, fr6, h16, hO6, lr6, ok6⟩
        refine ⟨.ref D2, rfl, D2, _, rfl, .inl ⟨SqL.of h16, fun t1 n1 => ?_⟩⟩
        refine ⟨.ref O6, rfl, O6, _, rfl, .inl ⟨SqL.of (same_upd n1 _ _ hO6), fun t2 n2' => ⟨sl2, fun r nr => ?_⟩⟩⟩
        have sA := ((same_upd (o := HO.tup (one.map V.int)) n1).trans (same_upd (o := HO.tup (r6.map V.int)) n2')).trans (same_upd (o := HO.tup [V.ref t1, .ref t2]) nr)
        refine q r _ one r6 ((D7.same sA).mono (by omega)) (fr6.trans (Fr.of sA)) ?_ l1' lr6 ok1 ok6
        exact .tup upd_same (.cons (.tup (same_upd nr _ _ (same_upd n2' _ _ upd_same)) (TkAll.ints _)) (.cons (.tup (same_upd nr _ _ upd_same) (TkAll.ints _)) .nil))
/-! ### what a row settles -/
def pickI (ws : List Int) (ins : List Nat) : List Int := ins.map fun i => ws.getD i 0

end
end Gk

set_option Elab.async false
set_option linter.all false
set_option maxRecDepth 100000
set_option maxHeartbeats 1000000
namespace Gk
open PySem PySem.Spec PyProof.Rows L2
/-! ### texts of nets, as lists of signs -/
def dig (n : Nat) : List Nat := (toString (n : Int) : Str).cps.toList
def sgn (b : Bool) : Nat := if b = true then 49 else 48
def lineL (g : Gt) : List Nat := TL.joinL [32] (g.1.map sgn :: g.2.map dig)
def inpL : List Nat := [105, 110, 112, 117, 116, 115, 32]
def netL (m : Nat) (gs : List Gt) : List Nat := TL.joinL [10] ((inpL ++ dig m) :: gs.map lineL)
theorem dig_S (n : Nat) : (toString (n : Int) : Str) = SX.S (dig n) := (SX.S_tl _).symm
theorem tab_S (bs : List Bool) : tabOf bs = SX.S (bs.map sgn) := rfl
def digOk (n : Nat) : Bool := decide (1 ≤ (dig n).length) && (decide ((dig n).length ≤ 3) && ((dig n).all (fun c => decide (48 ≤ c) && decide (c ≤ 57)) && (decide (PySem.intText? (SX.S (dig n)) = some (n : Int)) && (!(dig n).head?.any (· == 48) || decide (dig n = [48])))))
theorem digs : (List.range 1000).all digOk = true := by decide +kernel
theorem dig_ok {n : Nat} (h : n < 1000) : 1 ≤ (dig n).length ∧ (dig n).length ≤ 3 ∧ (∀ c ∈ dig n, 48 ≤ c ∧ c ≤ 57) ∧ PySem.intText? (SX.S (dig n)) = some (n : Int) ∧ ((dig n).head? = some 48 → dig n = [48]) := by
  have z := List.all_eq_true.mp digs n (List.mem_range.mpr h)
  unfold digOk at z
  rw [Bool.and_eq_true, Bool.and_eq_true, Bool.and_eq_true, Bool.and_eq_true, decide_eq_true_eq, decide_eq_true_eq, decide_eq_true_eq] at z
  obtain ⟨z1, z2, z3, z4, z5⟩ := z
  refine ⟨z1, z2, fun c hc => ?_, z4, fun e => ?_⟩
  · have := List.all_eq_true.mp z3 c hc
    rw [Bool.and_eq_true, decide_eq_true_eq, decide_eq_true_eq] at this
    exact this
  · rw [e] at z5
    have : (!(some 48).any (· == 48) || decide (dig n = [48])) = decide (dig n = [48]) := rfl
    rw [this] at z5
    exact of_decide_eq_true z5
theorem joinL_len (s : List Nat) : ∀ l : List (List Nat), (TL.joinL s l).length ≤ (l.map List.length).sum + l.length * s.length
  | [] => Nat.zero_le _
  | [p] => by
    show p.length ≤ p.length + 0 + 1 * s.length
    omega
  | p :: q :: r => by
    have ih := joinL_len s (q :: r)
    show (p ++ (s ++ TL.joinL s (q :: r))).length ≤ p.length + ((q :: r).map List.length).sum + ((q :: r).length + 1) * s.length
    rw [List.length_append, List.length_append, Nat.add_mul, Nat.one_mul]
    omega
theorem sum_le {α : Type} {f : α → Nat} {k : Nat} : ∀ l : List α, (∀ x ∈ l, f x ≤ k) → (l.map f).sum ≤ l.length * k
  | [], _ => Nat.zero_le _
  | x :: r, h => by
    have ih := sum_le r fun y hy => h y (List.mem_cons_of_mem _ hy)
    have := h x (List.mem_cons_self ..)
    rw [List.map_cons, List.sum_cons, List.length_cons, Nat.add_mul, Nat.one_mul]
    omega
theorem mem_joinL {s : List Nat} {c : Nat} : ∀ {l : List (List Nat)}, c ∈ TL.joinL s l → c ∈ s ∨ ∃ p ∈ l, c ∈ p
  | [], h => by cases h
  | [p], h => .inr ⟨p, List.mem_singleton.mpr rfl, h⟩
  | p :: q :: r, h => by
    have h : c ∈ p ++ (s ++ TL.joinL s (q :: r)) := h
    rcases List.mem_append.mp h with z | z
    · exact .inr ⟨p, List.mem_cons_self .., z⟩
    · rcases List.mem_append.mp z with z | z
      · exact .inl z
      · rcases mem_joinL z with z | ⟨x, hx, hc⟩
        · exact .inl z
        · exact .inr ⟨x, List.mem_cons_of_mem _ hx, hc⟩
def GtS (g : Gt) : Prop := g.1.length ≤ 8 ∧ g.2.length ≤ 3 ∧ ∀ i ∈ g.2, i < 1000
theorem gts_of {n : Nat} {g : Gt} (h : GtOk n g) (hn : n ≤ 1000) : GtS g := by
  obtain ⟨h1, h2, h3, h4⟩ := h
  refine ⟨?_, h3, fun i hi => Nat.lt_of_lt_of_le (h4 i hi) hn⟩
  rw [h1]
  have : g.2.length = 1 ∨ g.2.length = 2 ∨ g.2.length = 3 := by omega
  rcases this with h | h | h <;> rw [h] <;> decide
theorem sgn_mem {bs : List Bool} {c : Nat} (h : c ∈ bs.map sgn) : c = 48 ∨ c = 49 := by
  obtain ⟨b, _, rfl⟩ := List.mem_map.mp h
  cases b
  · exact .inl rfl
  · exact .inr rfl
theorem line_parts {g : Gt} (h : GtS g) : ∀ p ∈ g.1.map sgn :: g.2.map dig, ∀ c ∈ p, 48 ≤ c ∧ c ≤ 57 := fun p hp c hc => by
  rcases List.mem_cons.mp hp with rfl | hp
  · rcases sgn_mem hc with rfl | rfl <;> decide
  · obtain ⟨i, hi, rfl⟩ := List.mem_map.mp hp
    exact (dig_ok (h.2.2 i hi)).2.2.1 c hc
theorem line_len {g : Gt} (h : GtS g) : (lineL g).length ≤ 21 := by
  unfold lineL
  have a := joinL_len [32] (g.1.map sgn :: g.2.map dig)
  have b : ((g.2.map dig).map List.length).sum ≤ g.2.length * 3 := by
    rw [List.map_map]
    exact sum_le g.2 fun i hi => (dig_ok (h.2.2 i hi)).2.1
  rw [List.map_cons, List.sum_cons, List.length_map, List.length_cons, List.length_map] at a
  have e : ([32] : List Nat).length = 1 := rfl
  rw [e] at a
  have := h.1
  have := h.2.1
  omega
theorem line_signs {g : Gt} (h : GtS g) : ∀ c ∈ lineL g, c ≠ 10 := fun c hc e => by
  rcases mem_joinL hc with z | ⟨p, hp, z⟩
  · rw [List.mem_singleton.mp z] at e; cases e
  · have := (line_parts h p hp c z).1
    omega
theorem split_S {s : Nat} {l : List (List Nat)} (hs : s < 256) (hne : l ≠ []) (h : ∀ p ∈ l, s ∉ p) : Txt.split (SX.S (TL.joinL [s] l)) (SX.S [s]) = l.map SX.S := by
  rw [← SX.join_S]
  refine TL.split_join (s := s) (S := []) rfl ?_ (fun z => hne (List.map_eq_nil_iff.mp z)) fun p hp => ?_
  · simp [hs]
  · obtain ⟨q, hq, rfl⟩ := List.mem_map.mp hp
    exact h q hq
theorem split_line {g : Gt} (h : GtS g) : Txt.split (SX.S (lineL g)) (SX.S [32]) = SX.S (g.1.map sgn) :: (g.2.map dig).map SX.S := by
  unfold lineL
  rw [split_S (by decide) (by simp) fun p hp z => ?_]
  · rfl
  · have := (line_parts h p hp 32 z).1
    omega
theorem head_signs {m : Nat} (h : m < 1000) : ∀ c ∈ inpL ++ dig m, c ≠ 10 := fun c hc e => by
  rcases List.mem_append.mp hc with z | z
  · rw [e] at z
    revert z
    decide
  · have := ((dig_ok h).2.2.1 c z).1
    omega
theorem split_net {m : Nat} {gs : List Gt} (hm : m < 1000) (h : ∀ g ∈ gs, GtS g) : Txt.split (SX.S (netL m gs)) (SX.S [10]) = SX.S (inpL ++ dig m) :: (gs.map lineL).map SX.S := by
  unfold netL
  rw [split_S (by decide) (by simp) fun p hp z => ?_]
  · rfl
  · rcases List.mem_cons.mp hp with rfl | hp
    · exact head_signs hm 10 z rfl
    · obtain ⟨g, hg, rfl⟩ := List.mem_map.mp hp
      exact line_signs (h g hg) 10 z rfl
theorem net_len {m : Nat} {gs : List Gt} (hm : m < 1000) (h : ∀ g ∈ gs, GtS g) : (netL m gs).length ≤ 20 + 22 * gs.length := by
  unfold netL
  have a := joinL_len [10] ((inpL ++ dig m) :: gs.map lineL)
  have b : ((gs.map lineL).map List.length).sum ≤ gs.length * 21 := by
    rw [List.map_map]
    exact sum_le gs fun g hg => line_len (h g hg)
  have c := (dig_ok hm).2.1
  have e : ([10] : List Nat).length = 1 := rfl
  have f : inpL.length = 7 := rfl
  rw [List.map_cons, List.sum_cons, List.length_append, List.length_cons, List.length_map, e, f] at a
  omega
theorem sp_S : (Str.ofString " ") = SX.S [32] := by decide +kernel
theorem nl_S : (Str.ofString "\n") = SX.S [10] := by decide +kernel
theorem heads : ((List.range 6).all fun i => decide (Txt.split (SX.S (inpL ++ dig (i + 1))) (SX.S [32]) = [Str.ofString "inputs", SX.S (dig (i + 1))])) = true := by decide +kernel
theorem split_head {m : Nat} (h1 : 1 ≤ m) (h6 : m ≤ 6) : Txt.split (SX.S (inpL ++ dig m)) (SX.S [32]) = [Str.ofString "inputs", SX.S (dig m)] := by
  have z := List.all_eq_true.mp heads (m - 1) (List.mem_range.mpr (by omega))
  rw [show m - 1 + 1 = m by omega] at z
  exact of_decide_eq_true z
theorem figs : ∀ c : Nat, 48 ≤ c → c ≤ 57 → decide (c ∈ (Str.ofString "0123456789").cps.toList) = true := by
  intro c h1 h2
  have e : (Str.ofString "0123456789").cps.toList = [48, 49, 50, 51, 52, 53, 54, 55, 56, 57] := by decide +kernel
  rw [e]
  have : c = 48 ∨ c = 49 ∨ c = 50 ∨ c = 51 ∨ c = 52 ∨ c = 53 ∨ c = 54 ∨ c = 55 ∨ c = 56 ∨ c = 57 := by omega
  rcases this with rfl | rfl | rfl | rfl | rfl | rfl | rfl | rfl | rfl | rfl <;> decide

end Gk

set_option Elab.async false
set_option linter.all false
set_option maxRecDepth 100000
set_option maxHeartbeats 1000000
namespace Gk
open PySem PySem.Spec PyProof.Rows L2
section
variable {P : Program} {w : World} {K : PySem.W.Frag} {mg : Str → Option Value} {base : Heap}
/-! ### nets read of their texts -/
theorem wS (n : Nat) (h : n < 1000) : (SX.S (dig n)).length ≤ sizeLine := by
  rw [SX.S_len]
  exact Nat.le_trans (dig_ok h).2.1 (by decide)
def sp_read_number (T : Tx K mg) : Sp := fun vs H Q _ => ∃ n : Nat, vs = [.str (SX.S (dig n))] ∧ n < 1000 ∧ GxR.TabG H T.P_read_number ∧ ∀ H', Gr H H' → Q (.int n) H'
theorem ok_read_number (T : Tx K mg) (B : Tb base T) : FnOk P w K mg base CX0 2 T.f_read_number T.fd_read_number ["word"] (sp_read_number T) := by
  refine okC T.F_read_number sc_read_number (fun vs H Q E h => ?_) (fun A outer s H vs Q E hr h => ?_)
  · obtain ⟨n, rfl, _⟩ := h
    rfl
  · obtain ⟨n, rfl, hn, tab, q⟩ := h
    refine ⟨_, (pss_cons (ps_if (pt_not (pt_chain op_le op_le pe_int (pe_callB call_len_str (by rfl) T.m_len PySem.boot_len (pa_cons (pv 0) pa_nil)) (pe_glob (v := .int 40) (by rfl) T.k_MOST_FIGURES.choose_spec ⟨_, rfl⟩))) (pss_one (ps_ret pe_non)) pss_nil) (pss_cons (ps_if (pt_not (pt_val (pe_allX (own := [("sign", 1)]) (k := 0) (hr.mono (by decide)) rfl sc_read_number.nd (by rfl) T.m_all (by decide +kernel) B.TB_read_number T.cd_read_number rfl rfl (by decide +kernel) (blkOk_by (own := [("sign", 1)]) (N := ["word", "sign"]) (sc := defScope s_read_number) (by decide +kernel)) (pi_str (pv 0)) (fun _ _ _ _ _ _ _ hr gd => (pg_name (i := 1) sc_read_number.nd rfl (by first | exact .inl rfl | exact .inr rfl))) (fun _ _ _ _ _ _ _ hr gd => pts_nil) (fun _ _ _ _ _ _ _ hr gd => (pe_cmpR op_in_sign (pv 1) pe_str rfl)) (fun _ => rfl)))) (pss_one (ps_ret pe_non)) pss_nil) (pss_cons (ps_if (pw_and (pt_cmpR op_eq (pe_item_str (pv 0) pe_int (fun _ _ => rfl)) pe_str (nomark _)) (pw_and1 (pt_cmpR op_ne (pv 0) pe_str (nomark _)))).pt (pss_one (ps_ret pe_non)) pss_nil) (pss_one (ps_ret (pe_callTy call_int_str (by rfl) T.m_int (by decide +kernel) (pa_cons (pv 0) pa_nil))))))), ?_⟩
    obtain ⟨d1, d3, dc, di, dh⟩ := dig_ok hn
    refine ⟨.str (SX.S (dig n)), rfl, _, rfl, wS n hn, ?_⟩
    rw [SX.S_len]
    refine ⟨1, _, rfl, rfl, _, rfl, ?_⟩
    rw [decide_eq_true (show (1 : Int) ≤ ((dig n).length : Int) by omega)]
    refine iteT ⟨_, 40, rfl, rfl, _, rfl, ?_⟩
    rw [decide_eq_true (show ((dig n).length : Int) ≤ 40 by omega)]
    refine iteF ?_
    refine ⟨.str (SX.S (dig n)), rfl, SX.S (dig n), rfl, tab, fun H2 tb => ?_⟩
    have g2 := Gr.tab tab tb
    refine gx_str (z := SX.S (dig n)) (fun j _ H' => H' = H2) rfl ?_ ?_
    · rintro j x _ H' hx rfl
      refine ⟨rfl, .str ⟨#[x]⟩, rfl, x, _, rfl, rfl, true, ?_, rfl⟩
      have hm : x ∈ dig n := by
        have hx : (dig n).toArray[j]? = some x := hx
        rw [List.getElem?_toArray] at hx
        exact List.mem_of_getElem? hx
      have z := figs x (dc x hm).1 (dc x hm).2
      exact congrArg V.bl z
    · rintro _ H' rfl
      refine ⟨_, rfl, iteF ?_⟩
      have hne : dig n ≠ [] := fun z => by rw [z] at d1; cases d1
      obtain ⟨c, r, e⟩ : ∃ c r, dig n = c :: r := List.exists_cons_of_ne_nil hne
      refine ⟨.str (SX.S (dig n)), rfl, _, 0, c, rfl, rfl, by decide, by decide, ?_, ?_, rfl, _, rfl, ?_⟩
      · rw [SX.S_len]
        omega
      · show (dig n).toArray[0]? = some c
        rw [e]
        rfl
      · have e0 : Str.ofString "0" = SX.S [48] := by decide +kernel
        have fin : PySem.intText? (SX.S (dig n)) = some (n : Int) ∧ (SX.S (dig n)).length ≤ 640 := ⟨di, by rw [SX.S_len]; omega⟩
        refine ite2 (fun z => ?_) (fun _ => ⟨.str (SX.S (dig n)), rfl, _, _, rfl, fin.1, fin.2, q H' g2⟩)
        have hc : (⟨#[c]⟩ : Str) = SX.S [48] := by
          have := V.str.inj (of_decide_eq_true z)
          rw [this]
          exact e0
        have hc2 : c = 48 := by
          have := SX.S_inj (a := [c]) hc
          exact (List.cons.inj this).1
        have e1 : dig n = [48] := dh (by rw [e, hc2]; rfl)
        refine ⟨.str (SX.S (dig n)), rfl, rfl, _, rfl, ite2 (fun z2 => ?_) (fun _ => ⟨.str (SX.S (dig n)), rfl, _, _, rfl, fin.1, fin.2, q H' g2⟩)⟩
        rw [e1, e0] at z2
        simp at z2
def sp_read_head (T : Tx K mg) : Sp := fun vs H Q _ => ∃ m : Nat, vs = [.str (SX.S (inpL ++ dig m))] ∧ 1 ≤ m ∧ m ≤ 6 ∧ GxR.TabG H T.P_read_number ∧ ∀ H', Gr H H' → Q (.int m) H'
theorem ok_read_head (T : Tx K mg) (B : Tb base T) : FnOk P w K mg base CX0 3 T.f_read_head T.fd_read_head ["line"] (sp_read_head T) := by
  refine T.F_read_head.ok sc_read_head (fun vs H Q E h => ?_) (fun cdv A outer s H vs Q E hr h => ?_)
  · obtain ⟨m, rfl, _⟩ := h
    rfl
  · obtain ⟨m, rfl, m1, m6, tab, q⟩ := h
    refine ⟨_, (pss_cons (ps_set (i := 1) sc_read_head.nd rfl (by first | exact .inl rfl | exact .inr rfl) (pe_bm PySem.F.plainAttrs_str PySem.F.slot_str_split PySem.F.type_str_split mt_split (pv 0) (pa_cons pe_str pa_nil))) (pss_cons (ps_if (pw_or (pt_cmpR op_ne (pe_callB call_len_seq (by rfl) T.m_len PySem.boot_len (pa_cons (pv 1) pa_nil)) pe_int (nomark _)) (pw_or1 (pt_cmpR op_ne (pe_ix ix_list (pv 1) pe_int (fun _ _ => rfl)) pe_str (nomark _)))).pt (pss_one (ps_ret pe_non)) pss_nil) (pss_one (ps_ret (pe_call (ok_read_number T B) (hr.mono (by decide)) (by rfl) T.g_read_number T.F_read_number.kp T.b_read_number .nil pass0 (pa_cons (pe_ix ix_list (pv 1) pe_int (fun _ _ => rfl)) pa_nil)))))), ?_⟩
    refine ⟨.str (SX.S (inpL ++ dig m)), rfl, rfl, _, _, rfl, rfl, by decide +kernel, ?_, fun p np => ?_⟩
    · rw [SX.S_len, List.length_append]
      have := (dig_ok (n := m) (by omega)).2.1
      exact Nat.le_trans (show _ ≤ 12 by have : inpL.length = 7 := rfl; omega) (by decide)
    have e : Txt.split (SX.S (inpL ++ dig m)) (Str.ofString " ") = [Str.ofString "inputs", SX.S (dig m)] := by
      rw [sp_S]
      exact split_head m1 m6
    rw [e]
    refine ⟨.ref p, rfl, p, _, rfl, .inl (SqL.of upd_same), rfl, _, rfl, iteF ?_⟩
    refine ⟨.ref p, rfl, p, _, 0, _, rfl, rfl, SqL.of upd_same, rfl, rfl, _, rfl, iteF ?_⟩
    refine ⟨.ref p, rfl, p, _, 1, _, rfl, rfl, SqL.of upd_same, rfl, m, rfl, by omega, (Gr.none np).2 _ tab, fun H' g' => q H' ((Gr.none np).trans g')⟩
def sp_read_gate (T : Tx K mg) : Sp := fun vs H Q _ => ∃ g : Gt, vs = [.str (SX.S (lineL g))] ∧ GtS g ∧ GxR.TabG H T.P_read_number ∧ ∀ r H', Gr H H' → Tk H' (.ref r) (gD g) → Q (.ref r) H'
theorem ok_read_gate (T : Tx K mg) (B : Tb base T) : FnOk P w K mg base CX0 3 T.f_read_gate T.fd_read_gate ["line"] (sp_read_gate T) := by
  refine T.F_read_gate.ok sc_read_gate (fun vs H Q E h => ?_) (fun cdv A outer s H vs Q E hr h => ?_)
  · obtain ⟨g, rfl, _⟩ := h
    rfl
  · obtain ⟨g, rfl, hg, tab, q⟩ := h
    refine ⟨_, (pss_cons (ps_asg (pe_bm PySem.F.plainAttrs_str PySem.F.slot_str_split PySem.F.type_str_split mt_split (pv 0) (pa_cons pe_str pa_nil)) (StarR.pg_star rfl (pgs_cons (pg_name (i := 1) sc_read_gate.nd rfl (by first | exact .inl rfl | exact .inr rfl)) (StarR.pgs_star (pg_name (i := 2) sc_read_gate.nd rfl (by first | exact .inl rfl | exact .inr rfl)) pgs_nil)))) (pss_one (ps_ret (pe_tup (pa_cons (pv 1) (pa_cons (pe_callTy call_tuple_of (by rfl) T.m_tuple (by decide +kernel) (pa_cons (pe_lc (own := [("wire", 3)]) (by rfl) sc_read_gate.nd (pi_list (pv 2)) (blkOk_by (own := [("wire", 3)]) (N := ["line", "table", "wires", "wire"]) (sc := defScope s_read_gate) (by decide +kernel)) (fun _ _ _ _ _ => (pg_name (i := 3) sc_read_gate.nd rfl (by first | exact .inl rfl | exact .inr rfl))) (fun _ _ _ _ _ => pts_nil) (fun _ _ _ _ _ => (pe_call (ok_read_number T B) (hr.mono (by decide)) (by rfl) T.g_read_number T.F_read_number.kp T.b_read_number .nil pass0 (pa_cons (pv 3) pa_nil)))) pa_nil)) pa_nil)))))), ?_⟩
    refine ⟨.str (SX.S (lineL g)), rfl, rfl, _, _, rfl, rfl, by decide +kernel, ?_, fun p np => ?_⟩
    · rw [SX.S_len]
      have := line_len hg
      exact Nat.le_trans (show _ ≤ 30 by omega) (by decide)
    have e : Txt.split (SX.S (lineL g)) (Str.ofString " ") = SX.S (g.1.map sgn) :: (g.2.map dig).map SX.S := by
      rw [sp_S]
      exact split_line hg
    rw [e]
    refine ⟨p, _, _, rfl, SqL.of upd_same, fun D nD => ⟨_, _, rfl, _, _, rfl, rfl, ?_⟩⟩
    have hD : (upd (upd H p (.lst (List.map V.str (SX.S (g.1.map sgn) :: (g.2.map dig).map SX.S)))) D (.lst (List.map V.str ((g.2.map dig).map SX.S)))) D = some (.lst (List.map V.str ((g.2.map dig).map SX.S))) := upd_same
    have g1 : Gr H (upd (upd H p (.lst (List.map V.str (SX.S (g.1.map sgn) :: (g.2.map dig).map SX.S)))) D (.lst (List.map V.str ((g.2.map dig).map SX.S)))) := (Gr.none np).trans (Gr.none nD)
    revert hD g1
    generalize upd (upd H p (.lst (List.map V.str (SX.S (g.1.map sgn) :: (g.2.map dig).map SX.S)))) D (.lst (List.map V.str ((g.2.map dig).map SX.S))) = H1
    intro hD g1
    refine ⟨_, rfl, .ref D, rfl, D, rfl, ⟨_, SqL.of hD⟩, fun L nL => ?_⟩
    refine lc_list (K := K) (a := D) (xs := List.map V.str ((g.2.map dig).map SX.S)) (fun j H' => GrD L H1 H' ∧ H' L = some (.lst (nV (g.2.take j)))) ⟨GrD.new nL, upd_same⟩ (fun j H' _ hP => SqL.of (hP.1.gr.lst hD)) ?_ ?_
    · rintro j x H2 hx ⟨g2, hL⟩
      rw [List.getElem?_map, List.getElem?_map, List.getElem?_map] at hx
      cases hj : g.2[j]? with
      | none => rw [hj] at hx; cases hx
      | some k =>
        rw [hj] at hx
        cases Option.some.inj hx
        have hjl := (List.getElem?_eq_some_iff.mp hj).1
        have := hg.2.1
        refine ⟨rfl, .str (SX.S (dig k)), rfl, k, rfl, hg.2.2 k (List.mem_of_getElem? hj), (g1.trans g2.gr).2 _ tab, fun H3 g3 => ⟨_, g3.lst hL, ?_, (g2.then hL g3).set, ?_⟩⟩
        · rw [nV_len, List.length_take]
          exact Nat.lt_of_lt_of_le (show _ < 8 by omega) (by decide)
        · rw [upd_same, List.take_add_one, hj]
          show _ = some (HO.lst (nV (g.2.take j ++ [k])))
          rw [nV_app]
          rfl
    · rintro H2 ⟨g2, hL⟩
      rw [List.length_map, List.length_map, List.length_map, List.take_length] at hL
      refine ⟨L, _, rfl, .inl ⟨SqL.of hL, fun ti nti => ⟨sl2, fun tt ntt => ?_⟩⟩⟩
      refine q tt _ ((g1.trans g2.gr).trans ((Gr.none nti).trans (Gr.none ntt))) ?_
      exact gate_new nti ntt
def TabsR (T : Tx K mg) (H : Hp) : Prop := Tabs2 T H ∧ GxR.TabG H T.P_read_number
theorem TabsR.gr {T : Tx K mg} {H H' : Hp} (t : TabsR T H) (g : Gr H H') : TabsR T H' := ⟨t.1.gr g, g.2 _ t.2⟩
def sp_read_net (T : Tx K mg) : Sp := fun vs H Q _ => ∃ (m : Nat) (gs : List Gt), vs = [.str (SX.S (netL m gs))] ∧ 1 ≤ m ∧ m ≤ 6 ∧ 1 ≤ gs.length ∧ gs.length ≤ 400 ∧ NetOk m gs ∧ TabsR T H ∧ ∀ r H', Gr H H' → Tk H' (.ref r) (netD m gs) → Q (.ref r) H'
theorem netS {m : Nat} {gs : List Gt} (ok : NetOk m gs) (m6 : m ≤ 6) (h : gs.length ≤ 400) : ∀ g ∈ gs, GtS g := fun g hg => by
  obtain ⟨i, hi⟩ := List.getElem?_of_mem hg
  have := (List.getElem?_eq_some_iff.mp hi).1
  exact gts_of (ok i g hi) (by omega)
theorem ok_read_net (T : Tx K mg) (B : Tb base T) : FnOk P w K mg base CX0 6 T.f_read_net T.fd_read_net ["text"] (sp_read_net T) := by
  refine T.F_read_net.ok sc_read_net (fun vs H Q E h => ?_) (fun cdv A outer s H vs Q E hr h => ?_)
  · obtain ⟨m, gs, rfl, _⟩ := h
    rfl
  · obtain ⟨m, gs, rfl, m1, m6, l1, l4, ok, tabs, q⟩ := h
    refine ⟨_, (pss_cons (ps_if (pt_not (pt_val (pe_callB call_isi (by rfl) T.m_isinstance (by decide +kernel) (pa_cons (pv 0) (pa_cons (pe_bltn (v := .ty "str") (u := .type "str") (by rfl) T.m_str (by decide +kernel) rfl) pa_nil))))) (pss_one ps_never) pss_nil) (pss_cons (ps_asg (pe_bm PySem.F.plainAttrs_str PySem.F.slot_str_split PySem.F.type_str_split mt_split (pv 0) (pa_cons pe_str pa_nil)) (StarR.pg_star rfl (pgs_cons (pg_name (i := 1) sc_read_net.nd rfl (by first | exact .inl rfl | exact .inr rfl)) (StarR.pgs_star (pg_name (i := 2) sc_read_net.nd rfl (by first | exact .inl rfl | exact .inr rfl)) pgs_nil)))) (pss_cons (ps_set (i := 3) sc_read_net.nd rfl (by first | exact .inl rfl | exact .inr rfl) (pe_tup (pa_cons (pe_call (ok_read_head T B) (hr.mono (by decide)) (by rfl) T.g_read_head T.F_read_head.kp T.b_read_head .nil pass0 (pa_cons (pv 1) pa_nil)) (pa_cons (pe_callTy call_tuple_of (by rfl) T.m_tuple (by decide +kernel) (pa_cons (pe_lc (own := [("line", 4)]) (by rfl) sc_read_net.nd (pi_list (pv 2)) (blkOk_by (own := [("line", 4)]) (N := ["text", "head", "lines", "net", "line"]) (sc := defScope s_read_net) (by decide +kernel)) (fun _ _ _ _ _ => (pg_name (i := 4) sc_read_net.nd rfl (by first | exact .inl rfl | exact .inr rfl))) (fun _ _ _ _ _ => pts_nil) (fun _ _ _ _ _ => (pe_call (ok_read_gate T B) (hr.mono (by decide)) (by rfl) T.g_read_gate T.F_read_gate.kp T.b_read_gate .nil pass0 (pa_cons (pv 4) pa_nil)))) pa_nil)) pa_nil)))) (pss_cons (ps_if (pt_not (pt_val (pe_call (ok_is_net T B) (hr.mono (by decide)) (by rfl) T.g_is_net T.F_is_net.kp T.b_is_net .nil pass0 (pa_cons (pv 3) pa_nil)))) (pss_one ps_never) pss_nil) (pss_one (ps_ret (pv 3))))))), ?_⟩
    have gS := netS ok m6 l4
    refine ⟨.str (SX.S (netL m gs)), rfl, _, _, _, _, _, rfl, .ty _, .base (.str _), kit_ty kSS, _, rfl, iteF ?_⟩
    refine ⟨.str (SX.S (netL m gs)), rfl, rfl, _, _, rfl, rfl, by decide +kernel, ?_, fun p np => ?_⟩
    · rw [SX.S_len]
      have := net_len (m := m) (by omega) gS
      exact Nat.le_trans (show _ ≤ 9000 by omega) (by decide)
    have e : Txt.split (SX.S (netL m gs)) (Str.ofString "\n") = SX.S (inpL ++ dig m) :: (gs.map lineL).map SX.S := by
      rw [nl_S]
      exact split_net (by omega) gS
    rw [e]
    refine ⟨p, _, _, rfl, SqL.of upd_same, fun D nD => ⟨_, _, rfl, _, _, rfl, rfl, ?_⟩⟩
    have hD : (upd (upd H p (.lst (List.map V.str (SX.S (inpL ++ dig m) :: (gs.map lineL).map SX.S)))) D (.lst (List.map V.str ((gs.map lineL).map SX.S)))) D = some (.lst (List.map V.str ((gs.map lineL).map SX.S))) := upd_same
    have g1 : Gr H (upd (upd H p (.lst (List.map V.str (SX.S (inpL ++ dig m) :: (gs.map lineL).map SX.S)))) D (.lst (List.map V.str ((gs.map lineL).map SX.S)))) := (Gr.none np).trans (Gr.none nD)
    revert hD g1
    generalize upd (upd H p (.lst (List.map V.str (SX.S (inpL ++ dig m) :: (gs.map lineL).map SX.S)))) D (.lst (List.map V.str ((gs.map lineL).map SX.S))) = H1
    intro hD g1
    refine ⟨_, rfl, m, rfl, m1, m6, (tabs.gr g1).2, fun H2 g2 => ?_⟩
    have g12 := g1.trans g2
    have hD2 := g2.lst hD
    refine ⟨.ref D, rfl, D, rfl, ⟨_, SqL.of hD2⟩, fun L nL => ?_⟩
    refine lc_list (K := K) (a := D) (xs := List.map V.str ((gs.map lineL).map SX.S)) (fun j H' => GrD L H2 H' ∧ ∃ acc, H' L = some (.lst acc) ∧ TkAll H' acc ((gs.take j).map gD)) ⟨GrD.new nL, [], upd_same, .nil⟩ (fun j H' _ hP => SqL.of (hP.1.gr.lst hD2)) ?_ ?_
    · rintro j x H3 hx ⟨g3, acc, hL, ta⟩
      rw [List.getElem?_map, List.getElem?_map, List.getElem?_map] at hx
      cases hj : gs[j]? with
      | none => rw [hj] at hx; cases hx
      | some gt =>
        rw [hj] at hx
        cases Option.some.inj hx
        have hjl := (List.getElem?_eq_some_iff.mp hj).1
        refine ⟨rfl, .str (SX.S (lineL gt)), rfl, gt, rfl, gS gt (List.mem_of_getElem? hj), (tabs.gr (g12.trans g3.gr)).2, fun r H4 g4 tr => ?_⟩
        have hL4 := g4.lst hL
        refine ⟨acc, hL4, ?_, (g3.then hL g4).set, acc ++ [.ref r], upd_same, ?_⟩
        · have := ta.length
          rw [List.length_map, List.length_take] at this
          exact Nat.lt_of_lt_of_le (show _ < 500 by omega) (by decide)
        · rw [List.take_add_one, hj]
          show TkAll _ _ ((gs.take j ++ [gt]).map gD)
          rw [List.map_append]
          exact ((ta.gr g4).ts (Ts.set hL4) (noL_gates _)).append (.cons (tr.ts (Ts.set hL4) (noL_gate _)) .nil)
    · rintro H3 ⟨g3, acc, hL, ta⟩
      rw [List.length_map, List.length_map, List.length_map, List.take_length] at ta
      refine ⟨L, _, rfl, .inl ⟨SqL.of hL, fun ti nti => ⟨sl2, fun tt ntt => ?_⟩⟩⟩
      have s4 := (same_upd (o := HO.tup acc) nti).trans (same_upd (o := HO.tup [V.int m, .ref ti]) ntt)
      have tk : Tk (upd (upd H3 ti (.tup acc)) tt (.tup [.int m, .ref ti])) (.ref tt) (netD m gs) := .tup upd_same (.cons (.int _) (.cons (.tup (same_upd ntt _ _ upd_same) (ta.same s4)) .nil))
      have g4 : Gr H (upd (upd H3 ti (.tup acc)) tt (.tup [.int m, .ref ti])) := (g12.trans g3.gr).trans (Gr.of s4)
      refine ⟨.ref tt, rfl, .ref tt, m, gs, rfl, tk, m1, m6, l1, ok, (tabs.gr g4).1, fun H5 g5 => ⟨_, rfl, iteF ?_⟩⟩
      exact ⟨_, rfl, q tt H5 (g4.trans g5) (tk.gr g5)⟩

end
end Gk

set_option Elab.async false
set_option linter.all false
set_option maxRecDepth 100000
set_option maxHeartbeats 1000000
namespace Gk
open PySem PySem.Spec PyProof.Rows L2
/-! ### x in a tuple of data -/
def rInT (K : PySem.W.Frag) : R2 := fun x y H Q => ∃ d ds, Dp K H x d ∧ Dp K H y (.tuple ds) ∧ SeqAt.shaped d = true ∧ SeqAt.shaped (.tuple ds) = true ∧ Q (.bl (ds.any fun z => PyData.eqv z d)) H
theorem op_inT {X : Cx} (hu : X.A.units + 65 < cLine) : OpR X (compareOp .In) (rInT X.K) := by
  intro pins s σ H x y v u Q I rx ry h
  obtain ⟨d, ds, hd, he, sd, se, q⟩ := h
  obtain ⟨as, r1⟩ := Dp.reads I d x v hd rx
  obtain ⟨bs, r2⟩ := Dp.reads I (.tuple ds) y u he ry
  exact SeqAt.in_tuple_reads r2 r1 (SeqAt.canLay_of_shaped se) (SeqAt.canLay_of_shaped sd) (room_in_shaped sd hu) ⟨.bl _, H, I, rfl, q⟩

section
variable {P : Program} {w : World} {K : PySem.W.Frag} {mg : Str → Option Value} {base : Heap}
theorem ok_worth (T : Tx K mg) : FnOk P w K mg base CX0 1 T.f_worth T.fd_worth ["_law_table_here", "_law_worths"] (spGate K) := by
  refine T.F_worth.ok sc_worth (fun vs H Q E h => ?_) (fun cdv A outer s H vs Q E hr h => ?_)
  · obtain ⟨bs, la, ws, rfl, _⟩ := h
    rfl
  · obtain ⟨bs, la, ws, rfl, hS, hw, hb, h3, q⟩ := h
    obtain ⟨b, p0, p1, p2, p3, p4⟩ := gate_read hw hb h3
    refine ⟨_, (pss_cons (ps_set (i := 2) sc_worth.nd rfl (by first | exact .inl rfl | exact .inr rfl) pe_int) (pss_cons (ps_for PassesOwn.never rfl (pi_list (pv 1)) (pg_name (i := 3) sc_worth.nd rfl (by first | exact .inl rfl | exact .inr rfl)) (pss_one (ps_set (i := 2) sc_worth.nd rfl (by first | exact .inl rfl | exact .inr rfl) (pe_op op_add (pe_op op_mul pe_int (pv 2)) (pv 3))))) (pss_one (ps_ret (pe_callTy call_int_str (by rfl) T.m_int (by decide +kernel) (pa_cons (pe_item_str (pv 0) (pv 2) (fun _ _ => rfl)) pa_nil)))))), ?_⟩
    refine ⟨.ref la, rfl, la, rfl, ⟨_, hS⟩, for_list (K := K) (a := la) (xs := ws.map V.int) (fun i σ H' => ∃ y, σ = [some (.str (tabOf bs)), some (.ref la), some (.int (plc (ws.take i))), y] ∧ H' = H) ⟨none, rfl, rfl⟩ (fun i σ H' _ ⟨_, _, e⟩ => by rw [e]; exact hS) ?_ ?_⟩
    · rintro i x σ H' hx ⟨y, rfl, rfl⟩
      obtain ⟨u, hu, rfl⟩ : ∃ u, ws[i]? = some u ∧ x = V.int u := by
        rw [List.getElem?_map] at hx
        cases hz : ws[i]? with
        | none => rw [hz] at hx; cases hx
        | some u => rw [hz] at hx; exact ⟨u, rfl, (Option.some.inj hx).symm⟩
      refine ⟨.int (plc (ws.take i)), rfl, 2, _, rfl, rfl, .inl ⟨by decide, by decide⟩, .int u, rfl, _, _, rfl, rfl, some (.int u), ?_, rfl⟩
      rw [plc_take hu]
      rfl
    · rintro σ H' ⟨y, rfl, rfl⟩
      rw [List.length_map, List.take_length]
      refine ⟨.str (tabOf bs), rfl, .int (plc ws), rfl, _, _, _, rfl, rfl, p0, p1, p2, p3, _, _, rfl, int_sign b, (show 1 ≤ 640 by decide), ?_⟩
      rw [← p4]
      exact q

/-! ### a gate's word by all choices of pairs, counted through -/
def mayM (x : Wd) (p : Int × Int) : Bool := x.2.2 || ([(x.1, x.1), (x.1, x.2.1), (x.2.1, x.2.1)] : List (Int × Int)).any fun z => PyData.eqv (prD z) (prD p)
def allPairs : List (Int × Int) := [(0, 0), (0, 1), (1, 0), (1, 1)]
def allWords : List Wd := [(0, 0, false), (0, 1, false), (1, 0, false), (1, 1, false), (0, 0, true), (0, 1, true), (1, 0, true), (1, 1, true)]
theorem may_all : (allWords.all fun x => allPairs.all fun p => mayM x p == decide (p ∈ pw x)) = true := by decide +kernel
theorem word_mem {x : Wd} (h : Wok x) : x ∈ allWords := by
  obtain ⟨f, l, c⟩ := x
  obtain ⟨hf, hl⟩ := h
  dsimp only at hf hl
  rcases hf with rfl | rfl <;> rcases hl with rfl | rfl <;> cases c <;> decide
theorem may_pw {x : Wd} {p : Int × Int} (h : Wok x) (hp : p ∈ allPairs) : mayM x p = decide (p ∈ pw x) :=
  eq_of_beq (List.all_eq_true.mp (List.all_eq_true.mp may_all x (word_mem h)) p hp)
def pr4 (c : Nat) : Int × Int := (((c % 4 / 2 : Nat) : Int), ((c % 2 : Nat) : Int))
theorem pr4_mem (c : Nat) : pr4 c ∈ allPairs := by
  have h1 : c % 4 / 2 = 0 ∨ c % 4 / 2 = 1 := by omega
  have h2 : c % 2 = 0 ∨ c % 2 = 1 := by omega
  unfold pr4
  rcases h1 with h1 | h1 <;> rcases h2 with h2 | h2 <;> rw [h1, h2] <;> decide
theorem pr4_all {p : Int × Int} (h : p ∈ allPairs) : ∃ v : Nat, v < 4 ∧ pr4 v = p := by
  rcases List.mem_cons.mp h with rfl | h
  · exact ⟨0, by decide, rfl⟩
  rcases List.mem_cons.mp h with rfl | h
  · exact ⟨1, by decide, rfl⟩
  rcases List.mem_cons.mp h with rfl | h
  · exact ⟨2, by decide, rfl⟩
  rcases List.mem_cons.mp h with rfl | h
  · exact ⟨3, by decide, rfl⟩
  · cases h
theorem pw_mem {x : Wd} (h : Wok x) {p : Int × Int} (hp : p ∈ pw x) : p ∈ allPairs := by
  obtain ⟨a, b⟩ := p
  obtain ⟨h1, h2⟩ := pairs01 h _ hp
  dsimp only at h1 h2
  rcases h1 with rfl | rfl <;> rcases h2 with rfl | rfl <;> decide
def decL : List Wd → Nat → List (Int × Int)
  | [], _ => []
  | _ :: r, c => pr4 c :: decL r (c / 4)
def mays : List Wd → Nat → Bool
  | [], _ => true
  | x :: r, c => mayM x (pr4 c) && mays r (c / 4)
/-- the pairs kept by the loop -/
def kept : List Wd → Nat → List (Int × Int)
  | [], _ => []
  | x :: r, c => (if mayM x (pr4 c) = true then [pr4 c] else []) ++ kept r (c / 4)
theorem kept_len : ∀ (ws : List Wd) (c : Nat), (kept ws c).length ≤ ws.length
  | [], _ => Nat.le_refl _
  | x :: r, c => by
    have := kept_len r (c / 4)
    unfold kept
    rw [List.length_append, List.length_cons]
    split
    · show 1 + _ ≤ _; omega
    · show 0 + _ ≤ _; omega
theorem kept_all : ∀ (ws : List Wd) (c : Nat), ((kept ws c).length = ws.length ↔ mays ws c = true) ∧ (mays ws c = true → kept ws c = decL ws c)
  | [], _ => ⟨⟨fun _ => rfl, fun _ => rfl⟩, fun _ => rfl⟩
  | x :: r, c => by
    obtain ⟨h1, h2⟩ := kept_all r (c / 4)
    have hl := kept_len r (c / 4)
    unfold kept mays decL
    cases hm : mayM x (pr4 c) with
    | true =>
      rw [if_pos rfl, Bool.true_and]
      refine ⟨⟨fun e => h1.mp ?_, fun e => ?_⟩, fun e => by rw [h2 e]; rfl⟩
      · simp only [List.length_append, List.length_cons, List.length_nil] at e
        omega
      · have := h1.mpr e
        simp only [List.length_append, List.length_cons, List.length_nil]
        omega
    | false =>
      rw [if_neg (by decide), Bool.false_and]
      refine ⟨⟨fun e => ?_, fun e => (by cases e)⟩, fun e => (by cases e)⟩
      rw [List.length_append, List.length_cons] at e
      have : ([] : List (Int × Int)).length = 0 := rfl
      omega
def inA {α : Type} : List α → List (List α) → Prop
  | [], [] => True
  | p :: c, l :: ls => p ∈ l ∧ inA c ls
  | _, _ => False
theorem mem_fold {α : Type} : ∀ (ls : List (List α)) (acc : List (List α)) (c : List α), c ∈ ls.foldl stepC acc ↔ ∃ a ∈ acc, ∃ t, inA t ls ∧ c = a ++ t
  | [], acc, c => by
    constructor
    · intro h
      exact ⟨c, h, [], trivial, (List.append_nil c).symm⟩
    · rintro ⟨a, ha, t, ht, rfl⟩
      cases t with
      | nil => rw [List.append_nil]; exact ha
      | cons p t => exact ht.elim
  | l :: ls, acc, c => by
    rw [List.foldl_cons, mem_fold ls (stepC acc l) c]
    constructor
    · rintro ⟨a, ha, t, ht, rfl⟩
      obtain ⟨a0, h0, ha⟩ := List.mem_flatMap.mp ha
      obtain ⟨o, ho, rfl⟩ := List.mem_map.mp ha
      exact ⟨a0, h0, o :: t, ⟨ho, ht⟩, by rw [List.append_assoc]; rfl⟩
    · rintro ⟨a, ha, t, ht, rfl⟩
      cases t with
      | nil => exact ht.elim
      | cons p t => exact ⟨a ++ [p], List.mem_flatMap.mpr ⟨a, ha, List.mem_map.mpr ⟨p, ht.1, rfl⟩⟩, t, ht.2, by rw [List.append_assoc]; rfl⟩
theorem mem_chs {α : Type} (ls : List (List α)) (c : List α) : c ∈ chs ls ↔ inA c ls := by
  unfold chs
  rw [mem_fold]
  constructor
  · rintro ⟨a, ha, t, ht, rfl⟩
    rw [List.mem_singleton.mp ha, List.nil_append]
    exact ht
  · intro h
    exact ⟨[], List.mem_singleton.mpr rfl, c, h, rfl⟩
theorem inA_code : ∀ (ws : List Wd), (∀ x ∈ ws, Wok x) → ∀ c, inA c (ws.map pw) ↔ ∃ k : Nat, k < 4 ^ ws.length ∧ mays ws k = true ∧ decL ws k = c
  | [], _, c => by
    constructor
    · intro h
      cases c with
      | nil => exact ⟨0, by decide, rfl, rfl⟩
      | cons p c => exact h.elim
    · rintro ⟨k, _, _, rfl⟩
      trivial
  | x :: r, hw, c => by
    have ih := inA_code r fun y hy => hw y (List.mem_cons_of_mem _ hy)
    have hx := hw x (List.mem_cons_self ..)
    constructor
    · intro h
      cases c with
      | nil => exact h.elim
      | cons p c =>
        obtain ⟨k, hk, hm, rfl⟩ := (ih c).mp h.2
        obtain ⟨v, hv, rfl⟩ := pr4_all (pw_mem hx h.1)
        have e1 : pr4 (4 * k + v) = pr4 v := by
          unfold pr4
          rw [show (4 * k + v) % 4 = v % 4 by omega, show (4 * k + v) % 2 = v % 2 by omega]
        have e2 : (4 * k + v) / 4 = k := by omega
        refine ⟨4 * k + v, ?_, ?_, ?_⟩
        · rw [List.length_cons, Nat.pow_succ]
          omega
        · show (mayM x (pr4 (4 * k + v)) && mays r ((4 * k + v) / 4)) = true
          rw [e1, e2, hm, may_pw hx (pr4_mem v), decide_eq_true h.1]
          rfl
        · show pr4 (4 * k + v) :: decL r ((4 * k + v) / 4) = _
          rw [e1, e2]
    · rintro ⟨k, hk, hm, rfl⟩
      have hm : (mayM x (pr4 k) && mays r (k / 4)) = true := hm
      rw [Bool.and_eq_true] at hm
      refine ⟨?_, (ih _).mpr ⟨k / 4, ?_, hm.2, rfl⟩⟩
      · have := hm.1
        rw [may_pw hx (pr4_mem k)] at this
        exact of_decide_eq_true this
      · rw [List.length_cons, Nat.pow_succ] at hk
        omega
/-- what the law asks of one choice -/
def testL (bs : List Bool) (F L : Int) (c : List (Int × Int)) : Bool := !decide (gateM bs (c.map (·.1)) = F) && (decide (F = L) || decide (gateM bs (c.map (·.2)) = F))
theorem test_eq {bs : List Bool} {F L : Int} {c : List (Int × Int)} (hF : F = 0 ∨ F = 1) (hL : L = 0 ∨ L = 1) : testL bs F L c = testC bs F L c := by
  unfold testL testC
  have h1 := gate01 bs (c.map (·.1))
  generalize gateM bs (c.map (·.1)) = x at *
  generalize gateM bs (c.map (·.2)) = y
  rcases hF with rfl | rfl <;> rcases hL with rfl | rfl <;> rcases h1 with rfl | rfl <;> simp
def froL (bs : List Bool) (ws : List Wd) (F L : Int) (n : Nat) : Bool := (List.range n).any fun k => mays ws k && testL bs F L (decL ws k)
theorem froL_eq {bs : List Bool} {ws : List Wd} {F L : Int} (hw : ∀ x ∈ ws, Wok x) (hF : F = 0 ∨ F = 1) (hL : L = 0 ∨ L = 1) : froL bs ws F L (4 ^ ws.length) = froM bs ws F L := by
  rw [Bool.eq_iff_iff]
  unfold froL froM
  rw [List.any_eq_true, List.any_eq_true]
  constructor
  · rintro ⟨k, hk, h⟩
    rw [Bool.and_eq_true] at h
    refine ⟨decL ws k, (mem_chs _ _).mpr ((inA_code ws hw _).mpr ⟨k, List.mem_range.mp hk, h.1, rfl⟩), ?_⟩
    rw [← test_eq hF hL]
    exact h.2
  · rintro ⟨c, hc, h⟩
    obtain ⟨k, hk, hm, rfl⟩ := (inA_code ws hw _).mp ((mem_chs _ _).mp hc)
    refine ⟨k, List.mem_range.mpr hk, ?_⟩
    rw [hm, test_eq hF hL, h]
    rfl
theorem froL_succ (bs : List Bool) (ws : List Wd) (F L : Int) (n : Nat) : froL bs ws F L (n + 1) = (froL bs ws F L n || (mays ws n && testL bs F L (decL ws n))) := by
  unfold froL
  rw [List.range_succ, List.any_append, List.any_cons, List.any_nil, Bool.or_false]

end
end Gk

set_option Elab.async false
set_option linter.all false
set_option maxRecDepth 100000
set_option maxHeartbeats 1000000
namespace Gk
open PySem PySem.Spec PyProof.Rows L2
/-! ### slices and sums of tuples: what is told stands in a heap that has grown -/
theorem cut_all {xs : List V} {lo hi : Option Int} (h : HT.sIx xs.length 0 lo = 0 ∧ HT.sIx xs.length xs.length hi = xs.length) : cutV xs lo hi = xs := by
  unfold cutV
  rw [h.1, h.2, List.drop_zero, Nat.sub_zero, List.take_length]
theorem same_refl {H : Hp} : Same H H := fun _ _ e => e
theorem slA {K : PySem.W.Frag} {a : Addr} {xs : List V} {lo hi : Option Int} {H : Hp} {Q : VK} (h : H a = some (.tup xs)) (q : ∀ p H', Same H H' → H' p = some (.tup (cutV xs lo hi)) → Q (.ref p) H') : rSlA K (.ref a) lo hi H Q :=
  ⟨a, xs, rfl, SqT.of h, fun w => q a H same_refl (by rw [cut_all w]; exact h), fun _ p np => q p _ (same_upd np) upd_same⟩
theorem slAn {K : PySem.W.Frag} {a : Addr} {xs : List V} {lo : Option Int} {H : Hp} {Q : VK} {σ : L2.St} (h : H a = some (.tup xs)) (q : ∀ p H', Same H H' → H' p = some (.tup (cutV xs lo none)) → Q (.ref p) H') : tNoPart σ H (fun u H3 => rSlA K (.ref a) lo u H3 Q) := slA h q
theorem catA {K : PySem.W.Frag} {a b : Addr} {xs ys : List V} {H : Hp} {Q : VK} (ha : H a = some (.tup xs)) (hb : H b = some (.tup ys)) (hl : xs.length + ys.length ≤ sizeLine) (q : ∀ p H', Same H H' → H' p = some (.tup (xs ++ ys)) → Q (.ref p) H') : rCatA K (.ref a) (.ref b) H Q :=
  ⟨a, b, xs, ys, rfl, rfl, SqT.of ha, SqT.of hb, hl, fun e => q b H same_refl (by rw [e]; exact hb), fun _ e => q a H same_refl (by rw [e, List.append_nil]; exact ha), fun _ _ p np => q p _ (same_upd np) upd_same⟩
theorem cut_to {xs : List V} {k : Nat} : cutV xs none (some (k : Int)) = xs.take k := by
  unfold cutV
  rw [HT.sIx_none, HT.sIx_nat, List.drop_zero, Nat.sub_zero]
  apply List.ext_getElem?
  intro i
  rw [List.getElem?_take, List.getElem?_take]
  by_cases h : i < k
  · rw [if_pos h]
    by_cases h2 : i < xs.length
    · rw [if_pos (by omega)]
    · rw [List.getElem?_eq_none (by omega)]
      split <;> rfl
  · rw [if_neg h, if_neg (by omega)]
theorem cut_from {xs : List V} {k : Nat} : cutV xs (some (k : Int)) none = xs.drop k := by
  unfold cutV
  rw [HT.sIx_none, HT.sIx_nat]
  by_cases h : k ≤ xs.length
  · rw [Nat.min_eq_left h]
    exact List.take_of_length_le (by rw [List.length_drop]; exact Nat.le_refl _)
  · rw [Nat.min_eq_right (by omega), Nat.sub_self, List.take_zero, List.drop_eq_nil_of_le (by omega)]
theorem TkAll.take {H : Hp} : ∀ {xs : List V} {ds : List PyData} (k : Nat), TkAll H xs ds → TkAll H (xs.take k) (ds.take k)
  | _, _, 0, _ => by rw [List.take_zero, List.take_zero]; exact .nil
  | _, _, _ + 1, .nil => .nil
  | _, _, k + 1, .cons a t => .cons a (t.take k)
theorem TkAll.drop {H : Hp} : ∀ {xs : List V} {ds : List PyData} (k : Nat), TkAll H xs ds → TkAll H (xs.drop k) (ds.drop k)
  | _, _, 0, t => t
  | _, _, _ + 1, .nil => .nil
  | _, _, k + 1, .cons _ t => t.drop k
theorem set_put {α : Type} {l : List α} {i : Nat} {x : α} (h : i < l.length) : (l.take i ++ [x]) ++ l.drop (i + 1) = l.set i x := by
  rw [List.set_eq_take_append_cons_drop, if_pos h, List.append_assoc]
  rfl
def rJoinK (K : PySem.W.Frag) : V → List V → Hp → VK → Prop := fun x xs H Q => ∃ a p, ∃ ys : List Str, x = .str a ∧ xs = [.ref p] ∧ (SqL K H p (ys.map V.str) ∨ SqT K H p (ys.map V.str)) ∧ (ys.map (·.length)).sum + ys.length * a.length ≤ 16777216 ∧ Q (.str (Txt.join a ys)) H

section
variable {P : Program} {w : World} {K : PySem.W.Frag} {mg : Str → Option Value} {base : Heap}
def sp_may (K : PySem.W.Frag) : Sp := fun vs H Q _ => ∃ (wa pa : Addr) (x : Wd) (p : Int × Int), vs = [.ref wa, .ref pa] ∧ H wa = some (.tup [.int x.1, .int x.2.1, .bl x.2.2]) ∧ H pa = some (.tup [.int p.1, .int p.2]) ∧ ∀ H', Same H H' → Q (.bl (mayM x p)) H'
theorem ok_may (T : Tx K mg) : FnOk P w K mg base CX0 1 T.f_may T.fd_may ["_law_word_here", "_law_pair"] (sp_may K) := by
  refine T.F_may.ok sc_may (fun vs H Q E h => ?_) (fun cdv A outer s H vs Q E hr h => ?_)
  · obtain ⟨wa, pa, x, p, rfl, _⟩ := h
    rfl
  · obtain ⟨wa, pa, ⟨f, l, c⟩, ⟨p, r⟩, rfl, hw, hp, q⟩ := h
    dsimp only at hw hp
    refine ⟨_, (pss_cons (ps_asg (pv 0) (pg_tup rfl (pgs_cons (pg_name (i := 2) sc_may.nd rfl (by first | exact .inl rfl | exact .inr rfl)) (pgs_cons (pg_name (i := 3) sc_may.nd rfl (by first | exact .inl rfl | exact .inr rfl)) (pgs_cons (pg_name (i := 4) sc_may.nd rfl (by first | exact .inl rfl | exact .inr rfl)) pgs_nil))))) (pss_one (ps_ret (pe_or (pv 4) (pe_one (pe_cmpR (op_inT (units65 hr)) (pv 1) (pe_tup (pa_cons (pe_tup (pa_cons (pv 2) (pa_cons (pv 2) pa_nil))) (pa_cons (pe_tup (pa_cons (pv 2) (pa_cons (pv 3) pa_nil))) (pa_cons (pe_tup (pa_cons (pv 3) (pa_cons (pv 3) pa_nil))) pa_nil)))) rfl)))))), ?_⟩
    refine ⟨.ref wa, rfl, wa, _, rfl, SqT.of hw, rfl, _, _, rfl, _, _, rfl, _, _, rfl, rfl, ?_⟩
    refine ⟨.bl c, rfl, _, rfl, ?_⟩
    cases c with
    | true => exact iteT (q H same_refl)
    | false =>
      refine iteF ?_
      refine ⟨.ref pa, rfl, .int f, rfl, .int f, rfl, sl2, fun p1 n1 => ⟨.int f, rfl, .int l, rfl, sl2, fun p2 n2 => ⟨.int l, rfl, .int l, rfl, sl2, fun p3 n3 => ⟨sl3, fun p4 n4 => ?_⟩⟩⟩⟩
      have s4 := same_upd (o := HO.tup [V.ref p1, V.ref p2, V.ref p3]) n4
      have s3 := same_upd (o := HO.tup [V.int l, V.int l]) n3
      have s2 := same_upd (o := HO.tup [V.int f, V.int l]) n2
      have s1 := same_upd (o := HO.tup [V.int f, V.int f]) n1
      have sA := ((s1.trans s2).trans s3).trans s4
      refine ⟨prD (p, r), [prD (f, f), prD (f, l), prD (l, l)], .tup (SqT.of (sA _ _ hp)) (.cons (.int _) (.cons (.int _) .nil)), .tup (SqT.of upd_same) (.cons (.tup (SqT.of ((s2.trans s3).trans s4 _ _ upd_same)) (.cons (.int _) (.cons (.int _) .nil))) (.cons (.tup (SqT.of (s3.trans s4 _ _ upd_same)) (.cons (.int _) (.cons (.int _) .nil))) (.cons (.tup (SqT.of (s4 _ _ upd_same)) (.cons (.int _) (.cons (.int _) .nil))) .nil))), rfl, rfl, ?_⟩
      exact q _ sA
theorem kept_snoc (x : Wd) : ∀ (ws : List Wd) (c : Nat), kept (ws ++ [x]) c = kept ws c ++ (if mayM x (pr4 (c / 4 ^ ws.length)) = true then [pr4 (c / 4 ^ ws.length)] else [])
  | [], c => by
    show (if mayM x (pr4 c) = true then [pr4 c] else []) ++ [] = [] ++ _
    rw [List.append_nil, List.nil_append, List.length_nil, Nat.pow_zero, Nat.div_one]
  | y :: r, c => by
    show (if mayM y (pr4 c) = true then [pr4 c] else []) ++ kept (r ++ [x]) (c / 4) = _
    rw [kept_snoc x r (c / 4), List.length_cons, Nat.pow_succ, Nat.mul_comm (4 ^ r.length) 4, ← Nat.div_div_eq_div_mul, ← List.append_assoc]
    rfl
theorem kept_take {ws : List Wd} {j : Nat} {x : Wd} (h : ws[j]? = some x) (c : Nat) : kept (ws.take (j + 1)) c = kept (ws.take j) c ++ (if mayM x (pr4 (c / 4 ^ j)) = true then [pr4 (c / 4 ^ j)] else []) := by
  have hj := (List.getElem?_eq_some_iff.mp h).1
  rw [List.take_add_one, h]
  show kept (ws.take j ++ [x]) c = _
  rw [kept_snoc, List.length_take, Nat.min_eq_left (by omega)]
theorem pr_at {H : Hp} {xs : List V} {ps : List (Int × Int)} (t : TkAll H xs (ps.map prD)) {j : Nat} {v : V} (h : xs[j]? = some v) : ∃ (p : Int × Int) (a : Addr), ps[j]? = some p ∧ v = .ref a ∧ H a = some (.tup [.int p.1, .int p.2]) := by
  obtain ⟨p, hp, tp⟩ := t.at h
  obtain ⟨a, rfl, ha⟩ := pr_inv tp
  exact ⟨p, a, hp, rfl, ha⟩
def sp_word (K : PySem.W.Frag) : Sp := fun vs H Q _ => ∃ (bs : List Bool) (la : Addr) (xs : List V) (ws : List Wd), vs = [.str (tabOf bs), .ref la] ∧ H la = some (.lst xs) ∧ TkAll H xs (ws.map wD) ∧ (∀ x ∈ ws, Wok x) ∧ bs.length = 2 ^ ws.length ∧ 1 ≤ ws.length ∧ ws.length ≤ 3 ∧ ∀ r H', Same H H' → H' r = some (.tup [.int (gateM bs (ws.map (·.1))), .int (gateM bs (ws.map (·.2.1))), .bl (froM bs ws (gateM bs (ws.map (·.1))) (gateM bs (ws.map (·.2.1))))]) → Q (.ref r) H'
theorem ok_word (T : Tx K mg) : FnOk P w K mg base CX0 2 T.f_word T.fd_word ["_law_table_here", "_law_words_here"] (sp_word K) := by
  refine T.F_word.ok sc_word (fun vs H Q E h => ?_) (fun cdv A outer s H vs Q E hr h => ?_)
  · obtain ⟨bs, la, xs, ws, rfl, _⟩ := h
    rfl
  · obtain ⟨bs, la, xs, ws, rfl, hla, tws, ok, hb, h1', h3, q⟩ := h
    refine ⟨_, (pss_cons (ps_set (i := 2) sc_word.nd rfl (by first | exact .inl rfl | exact .inr rfl) (pe_call (ok_worth T) (hr.mono (by decide)) (by rfl) T.g_worth T.F_worth.kp T.b_worth .nil pass0 (pa_cons (pv 0) (pa_cons (pe_lc (own := [("_law_word_here", 8)]) (by rfl) sc_word.nd (pi_list (pv 1)) (blkOk_by (own := [("_law_word_here", 8)]) (N := ["_law_table_here", "_law_words_here", "_law_first", "_law_last", "_law_fro", "_law_code", "_law_rest", "_law_pairs", "_law_word_here", "_law_pair", "_law_one", "_law_other"]) (sc := defScope s_word) (by decide +kernel)) (fun _ _ _ _ _ => (pg_name (i := 8) sc_word.nd rfl (by first | exact .inl rfl | exact .inr rfl))) (fun _ _ _ _ _ => pts_nil) (fun _ _ _ _ _ => (pe_ix (show IxR _ (rIxT K) from ix_tup) (pv 8) pe_int (fun _ _ => rfl)))) pa_nil)))) (pss_cons (ps_set (i := 3) sc_word.nd rfl (by first | exact .inl rfl | exact .inr rfl) (pe_call (ok_worth T) (hr.mono (by decide)) (by rfl) T.g_worth T.F_worth.kp T.b_worth .nil pass0 (pa_cons (pv 0) (pa_cons (pe_lc (own := [("_law_word_here", 8)]) (by rfl) sc_word.nd (pi_list (pv 1)) (blkOk_by (own := [("_law_word_here", 8)]) (N := ["_law_table_here", "_law_words_here", "_law_first", "_law_last", "_law_fro", "_law_code", "_law_rest", "_law_pairs", "_law_word_here", "_law_pair", "_law_one", "_law_other"]) (sc := defScope s_word) (by decide +kernel)) (fun _ _ _ _ _ => (pg_name (i := 8) sc_word.nd rfl (by first | exact .inl rfl | exact .inr rfl))) (fun _ _ _ _ _ => pts_nil) (fun _ _ _ _ _ => (pe_ix (show IxR _ (rIxT K) from ix_tup) (pv 8) pe_int (fun _ _ => rfl)))) pa_nil)))) (pss_cons (ps_set (i := 4) sc_word.nd rfl (by first | exact .inl rfl | exact .inr rfl) pe_bl) (pss_cons (ps_for PassesOwn.never rfl (pi_range1 (by rfl) T.m_range (pa_cons (pe_ix ix_list (pe_lst (pa_cons pe_int (pa_cons pe_int (pa_cons pe_int pa_nil)))) (pe_op op_sub (pe_callB call_len_seq (by rfl) T.m_len PySem.boot_len (pa_cons (pv 1) pa_nil)) pe_int) (fun _ _ => rfl)) pa_nil)) (pg_name (i := 5) sc_word.nd rfl (by first | exact .inl rfl | exact .inr rfl)) (pss_cons (ps_set (i := 6) sc_word.nd rfl (by first | exact .inl rfl | exact .inr rfl) (pv 5)) (pss_cons (ps_set (i := 7) sc_word.nd rfl (by first | exact .inl rfl | exact .inr rfl) (pe_lst pa_nil)) (pss_cons (ps_for PassesOwn.never rfl (pi_list (pv 1)) (pg_name (i := 8) sc_word.nd rfl (by first | exact .inl rfl | exact .inr rfl)) (pss_cons (ps_set (i := 9) sc_word.nd rfl (by first | exact .inl rfl | exact .inr rfl) (pe_tup (pa_cons (pe_op op_fdiv (pe_op op_mod (pv 6) pe_int) pe_int) (pa_cons (pe_op op_mod (pv 6) pe_int) pa_nil)))) (pss_cons (ps_set (i := 6) sc_word.nd rfl (by first | exact .inl rfl | exact .inr rfl) (pe_op op_fdiv (pv 6) pe_int)) (pss_one (ps_if (pt_val (pe_call (ok_may T) (hr.mono (by decide)) (by rfl) T.g_may T.F_may.kp T.b_may .nil pass0 (pa_cons (pv 8) (pa_cons (pv 9) pa_nil)))) (pss_one (ps_expr (pe_bm PySem.F.plainAttrs_list PySem.F.slot_list_append PySem.F.type_list_append mt_append (pv 7) (pa_cons (pv 9) pa_nil)))) pss_nil))))) (pss_one (ps_if (pt_cmpR op_eq (pe_callB call_len_seq (by rfl) T.m_len PySem.boot_len (pa_cons (pv 7) pa_nil)) (pe_callB call_len_seq (by rfl) T.m_len PySem.boot_len (pa_cons (pv 1) pa_nil)) (nomark _)) (pss_cons (ps_set (i := 10) sc_word.nd rfl (by first | exact .inl rfl | exact .inr rfl) (pe_call (ok_worth T) (hr.mono (by decide)) (by rfl) T.g_worth T.F_worth.kp T.b_worth .nil pass0 (pa_cons (pv 0) (pa_cons (pe_lc (own := [("_law_pair", 9)]) (by rfl) sc_word.nd (pi_list (pv 7)) (blkOk_by (own := [("_law_pair", 9)]) (N := ["_law_table_here", "_law_words_here", "_law_first", "_law_last", "_law_fro", "_law_code", "_law_rest", "_law_pairs", "_law_word_here", "_law_pair", "_law_one", "_law_other"]) (sc := defScope s_word) (by decide +kernel)) (fun _ _ _ _ _ => (pg_name (i := 9) sc_word.nd rfl (by first | exact .inl rfl | exact .inr rfl))) (fun _ _ _ _ _ => pts_nil) (fun _ _ _ _ _ => (pe_ix (show IxR _ (rIxT K) from ix_tup) (pv 9) pe_int (fun _ _ => rfl)))) pa_nil)))) (pss_cons (ps_set (i := 11) sc_word.nd rfl (by first | exact .inl rfl | exact .inr rfl) (pe_call (ok_worth T) (hr.mono (by decide)) (by rfl) T.g_worth T.F_worth.kp T.b_worth .nil pass0 (pa_cons (pv 0) (pa_cons (pe_lc (own := [("_law_pair", 9)]) (by rfl) sc_word.nd (pi_list (pv 7)) (blkOk_by (own := [("_law_pair", 9)]) (N := ["_law_table_here", "_law_words_here", "_law_first", "_law_last", "_law_fro", "_law_code", "_law_rest", "_law_pairs", "_law_word_here", "_law_pair", "_law_one", "_law_other"]) (sc := defScope s_word) (by decide +kernel)) (fun _ _ _ _ _ => (pg_name (i := 9) sc_word.nd rfl (by first | exact .inl rfl | exact .inr rfl))) (fun _ _ _ _ _ => pts_nil) (fun _ _ _ _ _ => (pe_ix (show IxR _ (rIxT K) from ix_tup) (pv 9) pe_int (fun _ _ => rfl)))) pa_nil)))) (pss_one (ps_set (i := 4) sc_word.nd rfl (by first | exact .inl rfl | exact .inr rfl) (pe_cut (pe_or (pv 4) (pe_one (pe_and (pe_cmpR op_ne (pv 10) (pv 2) (nomark _)) (pe_one (pe_or (pe_cmpR op_eq (pv 2) (pv 3) (nomark _)) (pe_one (pe_cmpR op_eq (pv 11) (pv 2) (nomark _))))))))))))) pss_nil)))))) (pss_one (ps_ret (pe_tup (pa_cons (pv 2) (pa_cons (pv 3) (pa_cons (pv 4) pa_nil)))))))))), ?_⟩
    have lx : xs.length = ws.length := by rw [tws.length, List.length_map]
    refine ⟨.str (tabOf bs), rfl, .ref la, rfl, la, rfl, ⟨_, SqL.of hla⟩, fun D nD => ?_⟩
    refine lc_list (K := K) (a := la) (xs := xs) (fun j H' => Same H (hd1 D H') ∧ H' D = some (.lst (((ws.map (·.1)).take j).map V.int))) ⟨hd1_of (same_upd nD) nD, upd_same⟩ (fun j H' _ hP => SqL.of (hd1_le _ _ (hP.1 _ _ hla))) ?_ ?_
    · rintro j v H1 hv ⟨s1, h1⟩
      obtain ⟨x, a, hx, rfl, ha⟩ := words_at tws hv
      refine ⟨rfl, .ref a, rfl, a, _, 0, .int x.1, rfl, rfl, SqT.of (hd1_le _ _ (s1 _ _ ha)), rfl, _, h1, ?_, s1.trans hd1_upd, ?_⟩
      · rw [List.length_map, List.length_take, List.length_map]
        exact Nat.lt_of_lt_of_le (show min j ws.length < 64 by omega) (by decide)
      · rw [upd_same, List.take_add_one, List.getElem?_map, hx, List.map_append]
        rfl
    rintro H1 ⟨s1, h1⟩
    have s01 : Same H H1 := fun b o e => hd1_le _ _ (s1 _ _ e)
    rw [lx, List.take_of_length_le (by rw [List.length_map]; exact Nat.le_refl _)] at h1
    refine ⟨bs, D, _, rfl, SqL.of h1, fun u hu => ?_, by rw [List.length_map]; exact hb, by rw [List.length_map]; exact h3, ?_⟩
    · obtain ⟨x, hx, rfl⟩ := List.mem_map.mp hu
      exact (ok x hx).1
    refine ⟨.str (tabOf bs), rfl, .ref la, rfl, la, rfl, ⟨_, SqL.of (s01 _ _ hla)⟩, fun D2 nD2 => ?_⟩
    refine lc_list (K := K) (a := la) (xs := xs) (fun j H' => Same H1 (hd1 D2 H') ∧ H' D2 = some (.lst (((ws.map (·.2.1)).take j).map V.int))) ⟨hd1_of (same_upd nD2) nD2, upd_same⟩ (fun j H' _ hP => SqL.of (hd1_le _ _ (hP.1 _ _ (s01 _ _ hla)))) ?_ ?_
    · rintro j v H2 hv ⟨s2, h2⟩
      obtain ⟨x, a, hx, rfl, ha⟩ := words_at tws hv
      refine ⟨rfl, .ref a, rfl, a, _, 1, .int x.2.1, rfl, rfl, SqT.of (hd1_le _ _ (s2 _ _ (s01 _ _ ha))), rfl, _, h2, ?_, s2.trans hd1_upd, ?_⟩
      · rw [List.length_map, List.length_take, List.length_map]
        exact Nat.lt_of_lt_of_le (show min j ws.length < 64 by omega) (by decide)
      · rw [upd_same, List.take_add_one, List.getElem?_map, hx, List.map_append]
        rfl
    rintro H2 ⟨s2, h2⟩
    have s12 : Same H1 H2 := fun b o e => hd1_le _ _ (s2 _ _ e)
    rw [lx, List.take_of_length_le (by rw [List.length_map]; exact Nat.le_refl _)] at h2
    refine ⟨bs, D2, _, rfl, SqL.of h2, fun u hu => ?_, by rw [List.length_map]; exact hb, by rw [List.length_map]; exact h3, ?_⟩
    · obtain ⟨x, hx, rfl⟩ := List.mem_map.mp hu
      exact (ok x hx).2
    have sA := s01.trans s12
    have F01 := gate01 bs (ws.map (·.1))
    have L01 := gate01 bs (ws.map (·.2.1))
    revert q
    generalize gateM bs (ws.map (·.1)) = F at F01 ⊢
    generalize gateM bs (ws.map (·.2.1)) = L at L01 ⊢
    intro q
    obtain ⟨N, hN, a2⟩ : ∃ N : Nat, 4 ^ ws.length = N ∧ atI [V.int 4, V.int 16, V.int 64] ((xs.length : Int) - 1) = some (.int (N : Int)) := by
      rw [lx]
      have : ws.length = 1 ∨ ws.length = 2 ∨ ws.length = 3 := by omega
      rcases this with h | h | h <;> rw [h]
      · exact ⟨4, rfl, rfl⟩
      · exact ⟨16, rfl, rfl⟩
      · exact ⟨64, rfl, rfl⟩
    have N64 : N ≤ 64 := by
      rw [← hN]
      have : ws.length = 1 ∨ ws.length = 2 ∨ ws.length = 3 := by omega
      rcases this with h | h | h <;> rw [h] <;> decide
    refine ⟨sl3, fun p5 n5 => ?_⟩
    have s5 := same_upd (o := HO.lst [V.int 4, V.int 16, V.int 64]) n5
    refine ⟨.ref la, rfl, la, _, rfl, .inl (SqL.of (s5 _ _ (sA _ _ hla))), _, _, rfl, rfl, p5, _, _, _, rfl, rfl, SqL.of upd_same, a2, N, rfl, by omega, by omega, ?_⟩
    refine for_range (lo := 0) (n := (N : Int).toNat) (fun i σ H' => ∃ y5 y6 y7 y8 y9 y10 y11, σ = [some (.str (tabOf bs)), some (.ref la), some (.int F), some (.int L), some (.bl (froL bs ws F L i)), y5, y6, y7, y8, y9, y10, y11] ∧ Same H H')
      ⟨_, _, _, _, _, _, _, rfl, sA.trans s5⟩ ?_ ?_
    · rintro i σ H3 hi ⟨y5, y6, y7, y8, y9, y10, y11, rfl, s3⟩
      have hi' : i < N := by simpa using hi
      refine ⟨.int (0 + (i : Int)), rfl, Nat.zero_le _, fun R nR => ?_⟩
      have hla3 := s3 _ _ hla
      have e0 : V.int (0 + (i : Int)) = V.int ((i / 4 ^ 0 : Nat) : Int) := by
        congr 1
        rw [Nat.pow_zero, Nat.div_one]
        omega
      refine ⟨.ref la, rfl, la, rfl, ⟨_, SqL.of (same_upd nR _ _ hla3)⟩, ?_⟩
      refine for_list (K := K) (a := la) (xs := xs) (fun j σ H' => ∃ y8 y9, σ = [some (.str (tabOf bs)), some (.ref la), some (.int F), some (.int L), some (.bl (froL bs ws F L i)), some (.int (0 + (i : Int))), some (.int ((i / 4 ^ j : Nat) : Int)), some (.ref R), y8, y9, y10, y11] ∧ Same H3 (hd1 R H') ∧ ∃ acc, H' R = some (.lst acc) ∧ TkAll (hd1 R H') acc ((kept (ws.take j) i).map prD))
        ⟨_, _, by rw [← e0]; rfl, hd1_of (same_upd nR) nR, [], upd_same, .nil⟩ (fun j σ H' _ ⟨_, _, _, hP, _⟩ => SqL.of (hd1_le _ _ (hP _ _ hla3))) ?_ ?_
      · rintro j v σ H4 hv ⟨y8', y9', rfl, s4, acc, hR, ta⟩
        obtain ⟨x, a, hx, rfl, ha⟩ := words_at tws hv
        have s34 : Same H3 H4 := fun b o e => hd1_le _ _ (s4 _ _ e)
        have e1 : V.int (((i / 4 ^ j : Nat) : Int) % 4 / 2) = V.int (pr4 (i / 4 ^ j)).1 := by
          congr 1
        have e2 : V.int (((i / 4 ^ j : Nat) : Int) % 2) = V.int (pr4 (i / 4 ^ j)).2 := by
          congr 1
        have e3 : V.int (((i / 4 ^ j : Nat) : Int) / 4) = V.int ((i / 4 ^ (j + 1) : Nat) : Int) := by
          congr 1
          rw [Nat.pow_succ, ← Nat.div_div_eq_div_mul]
          omega
        refine ⟨.int ((i / 4 ^ j : Nat) : Int), rfl, _, _, rfl, rfl, (show (0 : Int) < 4 by decide), _, _, rfl, rfl, ⟨by decide, by decide⟩, .int ((i / 4 ^ j : Nat) : Int), rfl, _, _, rfl, rfl, (show (0 : Int) < 2 by decide), sl2, fun pa npa => ?_⟩
        show tSeq _ _ _ _ (upd H4 pa (.tup [V.int (((i / 4 ^ j : Nat) : Int) % 4 / 2), V.int (((i / 4 ^ j : Nat) : Int) % 2)]))
        rw [e1, e2]
        have s5 := same_upd (o := HO.tup [V.int (pr4 (i / 4 ^ j)).1, V.int (pr4 (i / 4 ^ j)).2]) npa
        refine ⟨.int ((i / 4 ^ j : Nat) : Int), rfl, _, _, rfl, rfl, ⟨by decide, by decide⟩, ?_⟩
        refine ⟨.ref a, rfl, .ref pa, rfl, a, pa, x, pr4 (i / 4 ^ j), rfl, s5 _ _ (s34 _ _ (s3 _ _ ha)), upd_same, fun H5 s6 => ⟨_, rfl, ?_⟩⟩
        have s46 := s5.trans s6
        have hR5 := s46 _ _ hR
        have sh : Same (hd1 R H4) (hd1 R H5) := hd1_same s46
        have nRp : pa ≠ R := (ne_of_none hR npa).symm
        have hpa5 := s6 _ _ (show (upd H4 pa (.tup [V.int (pr4 (i / 4 ^ j)).1, V.int (pr4 (i / 4 ^ j)).2])) pa = _ from upd_same)
        refine ite2 (fun z => ?_) (fun z => ?_)
        · refine ⟨.ref R, rfl, .inl ⟨rfl, _, SqL.of hR5⟩, .ref pa, rfl, R, _, _, rfl, rfl, hR5, ?_, ?_⟩
          · have := ta.length
            rw [List.length_map] at this
            have := kept_len (ws.take j) i
            rw [List.length_take] at this
            exact Nat.lt_of_lt_of_le (show acc.length < 64 by omega) (by decide)
          · refine ⟨some (.ref a), some (.ref pa), ?_, (s4.trans sh).trans hd1_upd, acc ++ [.ref pa], upd_same, ?_⟩
            · show [_, _, _, _, _, _, some (V.int (((i / 4 ^ j : Nat) : Int) / 4)), _, _, _, _, _] = _
              rw [e3]
            · rw [kept_take hx, if_pos z, List.map_append]
              refine ((ta.same sh).same hd1_upd).append (.cons (.tup (a := pa) ?_ (.cons (.int _) (.cons (.int _) .nil))) .nil)
              rw [hd1_at nRp, upd_ne nRp]
              exact hpa5
        · refine ⟨some (.ref a), some (.ref pa), ?_, s4.trans sh, acc, hR5, ?_⟩
          · show [_, _, _, _, _, _, some (V.int (((i / 4 ^ j : Nat) : Int) / 4)), _, _, _, _, _] = _
            rw [e3]
          · rw [kept_take hx, if_neg z, List.append_nil]
            exact ta.same sh
      · rintro σ H4 ⟨y8', y9', rfl, s4, acc, hR, ta⟩
        rw [lx, List.take_length] at ta
        have s34 : Same H3 H4 := fun b o e => hd1_le _ _ (s4 _ _ e)
        have la' : acc.length = (kept ws i).length := by rw [ta.length, List.length_map]
        have hla4 := s34 _ _ hla3
        refine ⟨.ref R, rfl, R, _, rfl, .inl (SqL.of hR), .ref la, rfl, la, _, rfl, .inl (SqL.of hla4), rfl, _, rfl, ite2 (fun z => ?_) (fun z => ?_)⟩
        · have hk : (kept ws i).length = ws.length := by
            have := V.int.inj (of_decide_eq_true z)
            omega
          have hm := (kept_all ws i).1.mp hk
          have hd := (kept_all ws i).2 hm
          rw [hd] at ta
          have dl : (decL ws i).length = ws.length := by rw [← hd]; exact hk
          have al : acc.length = (decL ws i).length := by rw [la', hk, dl]
          have tp : TkAll H4 acc ((decL ws i).map prD) := ta.same hd1_le
          have p01 : ∀ p ∈ decL ws i, (p.1 = 0 ∨ p.1 = 1) ∧ (p.2 = 0 ∨ p.2 = 1) := by
            have : ∀ (ws : List Wd) (c : Nat), ∀ p ∈ decL ws c, (p.1 = 0 ∨ p.1 = 1) ∧ (p.2 = 0 ∨ p.2 = 1) := by
              intro ws
              induction ws with
              | nil => intro c p hp; cases hp
              | cons x r ih =>
                intro c p hp
                rcases List.mem_cons.mp hp with rfl | hp
                · have := pr4_mem c
                  revert this
                  generalize pr4 c = p
                  intro h
                  rcases List.mem_cons.mp h with rfl | h
                  · decide
                  rcases List.mem_cons.mp h with rfl | h
                  · decide
                  rcases List.mem_cons.mp h with rfl | h
                  · decide
                  rcases List.mem_cons.mp h with rfl | h
                  · decide
                  · cases h
                · exact ih _ p hp
            exact this ws i
          refine ⟨.str (tabOf bs), rfl, .ref R, rfl, R, rfl, ⟨_, SqL.of hR⟩, fun E1 nE1 => ?_⟩
          refine lc_list (K := K) (a := R) (xs := acc) (fun j H' => Same H4 (hd1 E1 H') ∧ H' E1 = some (.lst ((((decL ws i).map (·.1)).take j).map V.int))) ⟨hd1_of (same_upd nE1) nE1, upd_same⟩ (fun j H' _ hP => SqL.of (hd1_le _ _ (hP.1 _ _ hR))) ?_ ?_
          · rintro j v H5 hv ⟨s5, h5⟩
            obtain ⟨p, a, hp, rfl, ha⟩ := pr_at tp hv
            refine ⟨rfl, .ref a, rfl, a, _, 0, .int p.1, rfl, rfl, SqT.of (hd1_le _ _ (s5 _ _ ha)), rfl, _, h5, ?_, s5.trans hd1_upd, ?_⟩
            · rw [List.length_map, List.length_take, List.length_map]
              exact Nat.lt_of_lt_of_le (show min j (decL ws i).length < 64 by omega) (by decide)
            · rw [upd_same, List.take_add_one, List.getElem?_map, hp, List.map_append]
              rfl
          rintro H5 ⟨s5, h5⟩
          have s45 : Same H4 H5 := fun b o e => hd1_le _ _ (s5 _ _ e)
          rw [al, List.take_of_length_le (by rw [List.length_map]; exact Nat.le_refl _)] at h5
          refine ⟨bs, E1, _, rfl, SqL.of h5, fun u hu => ?_, by rw [List.length_map, dl]; exact hb, by rw [List.length_map, dl]; exact h3, ?_⟩
          · obtain ⟨p, hp, rfl⟩ := List.mem_map.mp hu
            exact (p01 p hp).1
          refine ⟨.str (tabOf bs), rfl, .ref R, rfl, R, rfl, ⟨_, SqL.of (s45 _ _ hR)⟩, fun E2 nE2 => ?_⟩
          refine lc_list (K := K) (a := R) (xs := acc) (fun j H' => Same H5 (hd1 E2 H') ∧ H' E2 = some (.lst ((((decL ws i).map (·.2)).take j).map V.int))) ⟨hd1_of (same_upd nE2) nE2, upd_same⟩ (fun j H' _ hP => SqL.of (hd1_le _ _ (hP.1 _ _ (s45 _ _ hR)))) ?_ ?_
          · rintro j v H6 hv ⟨s6, h6⟩
            obtain ⟨p, a, hp, rfl, ha⟩ := pr_at tp hv
            refine ⟨rfl, .ref a, rfl, a, _, 1, .int p.2, rfl, rfl, SqT.of (hd1_le _ _ (s6 _ _ (s45 _ _ ha))), rfl, _, h6, ?_, s6.trans hd1_upd, ?_⟩
            · rw [List.length_map, List.length_take, List.length_map]
              exact Nat.lt_of_lt_of_le (show min j (decL ws i).length < 64 by omega) (by decide)
            · rw [upd_same, List.take_add_one, List.getElem?_map, hp, List.map_append]
              rfl
          rintro H6 ⟨s6, h6⟩
          have s56 : Same H5 H6 := fun b o e => hd1_le _ _ (s6 _ _ e)
          rw [al, List.take_of_length_le (by rw [List.length_map]; exact Nat.le_refl _)] at h6
          refine ⟨bs, E2, _, rfl, SqL.of h6, fun u hu => ?_, by rw [List.length_map, dl]; exact hb, by rw [List.length_map, dl]; exact h3, ?_⟩
          · obtain ⟨p, hp, rfl⟩ := List.mem_map.mp hu
            exact (p01 p hp).2
          have fs : froL bs ws F L (i + 1) = (froL bs ws F L i || testL bs F L (decL ws i)) := by
            rw [froL_succ, hm]
            rfl
          refine ⟨fun v H' => v = .bl (froL bs ws F L (i + 1)) ∧ H' = H6, ?_, ?_⟩
          · refine ⟨.bl (froL bs ws F L i), rfl, _, rfl, ite2 (fun z1 => ⟨by rw [fs, z1]; rfl, rfl⟩) (fun z1 => ?_)⟩
            have z1' : froL bs ws F L i = false := by
              cases zz : froL bs ws F L i with
              | true => exact absurd zz z1
              | false => rfl
            rw [z1', Bool.false_or] at fs
            unfold testL at fs
            refine ⟨.int _, rfl, .int F, rfl, rfl, _, rfl, ?_⟩
            rw [evI]
            revert fs
            generalize gateM bs (List.map (fun x => x.fst) (decL ws i)) = u
            generalize gateM bs (List.map (fun x => x.snd) (decL ws i)) = v
            intro fs
            refine ite2 (fun z2 => ?_) (fun z2 => ?_)
            · rw [z2, Bool.true_and] at fs
              refine ⟨.int F, rfl, .int L, rfl, rfl, _, rfl, ?_⟩
              rw [evI]
              refine ite2 (fun z3 => ⟨by rw [fs, z3]; rfl, rfl⟩) (fun z3 => ⟨.int v, rfl, .int F, rfl, rfl, ?_, rfl⟩)
              have z3' : decide (F = L) = false := by
                cases zz : decide (F = L) with
                | true => exact absurd zz z3
                | false => rfl
              rw [z3', Bool.false_or] at fs
              rw [fs, evI]
            · have z2' : (!decide (u = F)) = false := by
                cases zz : (!decide (u = F)) with
                | true => exact absurd zz z2
                | false => rfl
              rw [z2', Bool.false_and] at fs
              exact ⟨by rw [fs], rfl⟩
          · rintro v H7 ⟨rfl, rfl⟩
            exact ⟨_, _, _, _, _, _, _, rfl, ((s3.trans s34).trans s45).trans s56⟩
        · have hm : mays ws i = false := by
            cases zz : mays ws i with
            | false => rfl
            | true =>
              refine absurd ?_ z
              have := (kept_all ws i).1.mpr zz
              exact decide_eq_true (by rw [la', this, lx])
          refine ⟨some (.int (0 + (i : Int))), some (.int ((i / 4 ^ xs.length : Nat) : Int)), some (.ref R), y8', y9', y10, y11, ?_, s3.trans s34⟩
          rw [froL_succ, hm, Bool.false_and, Bool.or_false]
    · rintro σ H3 ⟨y5, y6, y7, y8, y9, y10, y11, rfl, s3⟩
      refine ⟨.int F, rfl, .int L, rfl, .bl _, rfl, sl3, fun r nr => ?_⟩
      have e : froL bs ws F L (N : Int).toNat = froM bs ws F L := by
        rw [show (N : Int).toNat = 4 ^ ws.length by omega]
        exact froL_eq ok F01 L01
      rw [e]
      exact q r _ (s3.trans (same_upd nr)) upd_same

end
end Gk

set_option Elab.async false
set_option linter.all false
set_option maxRecDepth 100000
set_option maxHeartbeats 1000000
namespace Gk
open PySem PySem.Spec PyProof.Rows L2
section
variable {P : Program} {w : World} {K : PySem.W.Frag} {mg : Str → Option Value} {base : Heap}
def sp_words (K : PySem.W.Frag) : Sp := fun vs H Q _ => ∃ (nv cv : V) (m : Int) (gs : List Gt) (a b : List Int), vs = [nv, cv] ∧ Tk H nv (netD m gs) ∧ Tk H cv (chD a b) ∧ a.length = b.length ∧ Row01 a ∧ Row01 b ∧ a.length ≤ 16 ∧ gs.length ≤ 1000 ∧ NetOk a.length gs ∧
  ∀ r H', Same H H' → Tk H' (.ref r) (.tuple ((wordsM gs (w0M a b)).map wD)) → Q (.ref r) H'
theorem ok_words (T : Tx K mg) : FnOk P w K mg base CX0 3 T.f_words T.fd_words ["_law_net_here", "_law_change_here"] (sp_words K) := by
  refine T.F_words.ok sc_words (fun vs H Q E h => ?_) (fun cdv A outer s H vs Q E hr h => ?_)
  · obtain ⟨nv, cv, m, gs, a, b, rfl, _⟩ := h
    rfl
  · obtain ⟨nv, cv, m, gs, a, b, rfl, tn, tc, el, ha, hb, h16, h64, ok, q⟩ := h
    refine ⟨_, (pss_cons (ps_set (i := 2) sc_words.nd rfl (by first | exact .inl rfl | exact .inr rfl) (pe_lc (own := [("_law_one", 5), ("_law_other", 6)]) (by rfl) sc_words.nd (RZ.pi_zipA (by rfl) T.m_zip (pa_cons (pe_ix ix_tup (pv 1) pe_int (fun _ _ => rfl)) (pa_cons (pe_ix ix_tup (pv 1) pe_int (fun _ _ => rfl)) pa_nil))) (blkOk_by (own := [("_law_one", 5), ("_law_other", 6)]) (N := ["_law_net_here", "_law_change_here", "_law_found", "_law_table_here", "_law_ins", "_law_one", "_law_other", "_law_wire"]) (sc := defScope s_words) (by decide +kernel)) (fun _ _ _ _ _ => (show PG _ _ (gTup K 2 _) from pg_tup rfl (pgs_cons (pg_name (i := 5) sc_words.nd rfl (by first | exact .inl rfl | exact .inr rfl)) (pgs_cons (pg_name (i := 6) sc_words.nd rfl (by first | exact .inl rfl | exact .inr rfl)) pgs_nil)))) (fun _ _ _ _ _ => pts_nil) (fun _ _ _ _ _ => (pe_tup (pa_cons (pv 5) (pa_cons (pv 6) (pa_cons pe_bl pa_nil))))))) (pss_cons (ps_for PassesOwn.never rfl (pi_tup (pe_ix ix_tup (pv 0) pe_int (fun _ _ => rfl))) (pg_tup rfl (pgs_cons (pg_name (i := 3) sc_words.nd rfl (by first | exact .inl rfl | exact .inr rfl)) (pgs_cons (pg_name (i := 4) sc_words.nd rfl (by first | exact .inl rfl | exact .inr rfl)) pgs_nil))) (pss_one (ps_expr (pe_bm PySem.F.plainAttrs_list PySem.F.slot_list_append PySem.F.type_list_append mt_append (pv 2) (pa_cons (pe_call (ok_word T) (hr.mono (by decide)) (by rfl) T.g_word T.F_word.kp T.b_word .nil pass0 (pa_cons (pv 3) (pa_cons (pe_lc (own := [("_law_wire", 7)]) (by rfl) sc_words.nd (pi_tup (pv 4)) (blkOk_by (own := [("_law_wire", 7)]) (N := ["_law_net_here", "_law_change_here", "_law_found", "_law_table_here", "_law_ins", "_law_one", "_law_other", "_law_wire"]) (sc := defScope s_words) (by decide +kernel)) (fun _ _ _ _ _ => (pg_name (i := 7) sc_words.nd rfl (by first | exact .inl rfl | exact .inr rfl))) (fun _ _ _ _ _ => pts_nil) (fun _ _ _ _ _ => (pe_ix (show IxR _ (rIxL K) from ix_list) (pv 2) (pv 7) (fun _ _ => rfl)))) pa_nil))) pa_nil))))) (pss_one (ps_ret (pe_callTy call_tuple_of (by rfl) T.m_tuple (by decide +kernel) (pa_cons (pv 2) pa_nil)))))), ?_⟩
    obtain ⟨c, ra, rb, rfl, hc, hra, hrb⟩ := tc.ch_inv
    obtain ⟨n, g, xs, rfl, hn, hg, tg⟩ := tn.net_inv
    have w0len := w0_len el
    refine ⟨.ref c, rfl, c, _, 0, .ref ra, rfl, rfl, SqT.of hc, rfl, .ref c, rfl, c, _, 1, .ref rb, rfl, rfl, SqT.of hc, rfl, ra, rb, _, _, rfl, .inr ⟨SqT.of hra, SqT.of hrb, fun D nD => ?_⟩⟩
    refine lc_zipT (K := K) (a := ra) (b := rb) (xs := a.map V.int) (ys := b.map V.int) (by rw [List.length_map, List.length_map]; exact el)
      (fun i H' => Same H (hd1 D H') ∧ ∃ acc, H' D = some (.lst acc) ∧ TkAll (hd1 D H') acc (((w0M a b).take i).map wD)) ⟨hd1_of (same_upd nD) nD, [], upd_same, .nil⟩ (fun i H' _ hP => ⟨SqT.of (hd1_le _ _ (hP.1 _ _ hra)), SqT.of (hd1_le _ _ (hP.1 _ _ hrb))⟩) ?_ ?_
    · rintro i x y Tq H1 hx hy nT ⟨gr, acc, hD, ta⟩
      obtain ⟨p1, q1, rfl, rfl, hw⟩ := w0_get hx hy
      refine ⟨Tq, _, rfl, SqT.of upd_same, rfl, _, _, rfl, _, _, rfl, rfl, rfl, ?_⟩
      refine ⟨.int p1, rfl, .int q1, rfl, sl3, fun p np => ?_⟩
      have n1 : D ≠ Tq := ne_of_none hD nT
      have hD1 : (upd H1 Tq (.tup [.int p1, .int q1])) D = some (.lst acc) := by rw [upd_ne n1]; exact hD
      have hD2 : (upd (upd H1 Tq (.tup [.int p1, .int q1])) p (.tup [.int p1, .int q1, .bl false])) D = some (.lst acc) := by
        rw [upd_ne (ne_of_none hD1 np)]
        exact hD1
      have sD : Same (hd1 D H1) (hd1 D (upd (upd (upd H1 Tq (.tup [.int p1, .int q1])) p (.tup [.int p1, .int q1, .bl false])) D (.lst (acc ++ [.ref p])))) := ((hd1_same (same_upd nT)).trans (hd1_same (same_upd np))).trans hd1_upd
      refine ⟨acc, hD2, ?_, gr.trans sD, acc ++ [.ref p], upd_same, ?_⟩
      · have := ta.length
        rw [List.length_map, List.length_take] at this
        exact Nat.lt_of_lt_of_le (show acc.length < 64 by omega) (by decide)
      · rw [List.take_add_one, hw]
        show TkAll _ _ (((w0M a b).take i ++ [(p1, q1, false)]).map _)
        rw [List.map_append]
        have pD : p ≠ D := (ne_of_none hD1 np).symm
        refine (ta.same sD).append (.cons (.tup (a := p) ?_ (.cons (.int _) (.cons (.int _) (.cons (.bl _) .nil)))) .nil)
        rw [hd1_at pD, upd_ne pD, upd_same]
    · rintro H1 ⟨gr, acc, hD, ta⟩
      rw [List.length_map, List.take_of_length_le (by omega)] at ta
      refine ⟨.ref n, rfl, n, _, 1, .ref g, rfl, rfl, SqT.of (hd1_le _ _ (gr _ _ hn)), rfl, g, rfl, ⟨_, SqT.of (hd1_le _ _ (gr _ _ hg))⟩, ?_⟩
      refine for_tup (K := K) (a := g) (xs := xs) (fun i σ H' => ∃ y3 y4, σ = [some (.ref n), some (.ref c), some (.ref D), y3, y4, none, none, none] ∧ Same H (hd1 D H') ∧ ∃ acc, H' D = some (.lst acc) ∧ TkAll (hd1 D H') acc ((wordsM (gs.take i) (w0M a b)).map wD))
        ⟨_, _, rfl, gr, acc, hD, ta⟩ (fun i σ H' _ ⟨_, _, _, hP, _⟩ => SqT.of (hd1_le _ _ (hP _ _ hg))) ?_ ?_
      · rintro i v σ H2 hv ⟨y3, y4, rfl, s2, acc2, hD2, ta2⟩
        have s02 : Same H H2 := fun b o e => hd1_le _ _ (s2 _ _ e)
        obtain ⟨gt, hgt, tgt⟩ := tg.at hv
        obtain ⟨ga, ii, rfl, hga, hii⟩ := (tgt.same s02).gt_inv
        obtain ⟨ok1, ok2, ok3, ok4⟩ := ok i gt hgt
        refine ⟨ga, _, rfl, SqT.of hga, rfl, _, _, rfl, _, _, rfl, rfl, ?_⟩
        have wlen : (wordsM (gs.take i) (w0M a b)).length = a.length + i := by
          rw [wordsM_len, w0len, List.length_take]
          have := (List.getElem?_eq_some_iff.mp hgt).1
          omega
        have alen : acc2.length = a.length + i := by
          have := ta2.length
          rw [List.length_map] at this
          omega
        have hi64 := (List.getElem?_eq_some_iff.mp hgt).1
        refine ⟨.ref D, rfl, .inl ⟨rfl, _, SqL.of hD2⟩, .str (tabOf gt.1), rfl, .ref ii, rfl, ii, rfl, ⟨_, SqT.of hii⟩, fun L nL => ?_⟩
        refine lc_tup (K := K) (a := ii) (xs := (gt.2.map Int.ofNat).map V.int) (fun j H' => Same H2 (hd1 L H') ∧ ∃ zs, H' L = some (.lst zs) ∧ TkAll (hd1 D H2) zs ((pick (wordsM (gs.take i) (w0M a b)) (gt.2.take j)).map wD)) ⟨hd1_of (same_upd nL) nL, [], upd_same, .nil⟩ (fun j H' _ hP => SqT.of (hd1_le _ _ (hP.1 _ _ hii))) ?_ ?_
        · rintro j x H3 hx ⟨s3, zs, hL, tz⟩
          rw [List.getElem?_map, List.getElem?_map] at hx
          cases hj : gt.2[j]? with
          | none => rw [hj] at hx; cases hx
          | some k =>
            rw [hj] at hx
            cases Option.some.inj hx
            have hk := ok4 k (List.mem_of_getElem? hj)
            have hwk : (wordsM (gs.take i) (w0M a b))[k]? = some ((wordsM (gs.take i) (w0M a b)).getD k (0, 0, false)) := by
              rw [List.getD_eq_getElem?_getD, List.getElem?_eq_getElem (by omega)]
              rfl
            obtain ⟨u, hu, tu⟩ := ta2.at' hwk
            have hjl := (List.getElem?_eq_some_iff.mp hj).1
            refine ⟨rfl, .ref D, rfl, .int (Int.ofNat k), rfl, D, _, Int.ofNat k, u, rfl, rfl, SqL.of (hd1_le _ _ (s3 _ _ hD2)), atI_nat hu, zs, hL, ?_, s3.trans hd1_upd, zs ++ [u], upd_same, ?_⟩
            · have := tz.length
              rw [List.length_map] at this
              unfold pick at this
              rw [List.length_map, List.length_take] at this
              exact Nat.lt_of_lt_of_le (show zs.length < 64 by omega) (by decide)
            · rw [List.take_add_one, hj]
              unfold pick
              rw [List.map_append, List.map_append]
              exact tz.append (.cons tu .nil)
        · rintro H3 ⟨s3, zs, hL, tz⟩
          rw [List.length_map, List.length_map, List.take_length] at tz
          have s23 : Same H2 H3 := fun b o e => hd1_le _ _ (s3 _ _ e)
          have pl : (pick (wordsM (gs.take i) (w0M a b)) gt.2).length = gt.2.length := by unfold pick; rw [List.length_map]
          refine ⟨gt.1, L, zs, _, rfl, hL, (tz.same hd1_le).same s23, fun x hx => ?_, by rw [pl]; exact ok1, by rw [pl]; exact ok2, by rw [pl]; exact ok3, fun r H4 s4 hr4 => ?_⟩
          · obtain ⟨k, hk, rfl⟩ := List.mem_map.mp hx
            refine wordsM_ok (gs.take i) (w0M a b) (w0_ok ha hb) _ ?_
            rw [List.getD_eq_getElem?_getD, List.getElem?_eq_getElem (by rw [wlen]; exact ok4 k hk)]
            exact List.getElem_mem _
          · have s24 := s23.trans s4
            have hD4 : H4 D = some (.lst acc2) := s24 _ _ hD2
            refine ⟨D, acc2, _, rfl, rfl, hD4, Nat.lt_of_lt_of_le (show acc2.length < 2000 by omega) (by decide), ?_⟩
            have sD := (hd1_same (p := D) s24).trans (hd1_upd (o := HO.lst (acc2 ++ [V.ref r])))
            refine ⟨_, _, rfl, s2.trans sD, _, upd_same, ?_⟩
            rw [wordsM_take hgt]
            unfold stepW
            rw [List.map_append]
            have rD : r ≠ D := (ne_of hD4 hr4 (by intro z; cases z)).symm
            refine (ta2.same sD).append (.cons (.tup (a := r) ?_ (.cons (.int _) (.cons (.int _) (.cons (.bl _) .nil)))) .nil)
            rw [hd1_at rD, upd_ne rD]
            exact hr4
      · rintro σ H2 ⟨y3, y4, rfl, s2, acc2, hD2, ta2⟩
        have xl : xs.length = gs.length := by rw [tg.length, List.length_map]
        rw [xl, List.take_length] at ta2
        refine ⟨.ref D, rfl, D, acc2, rfl, .inl ⟨SqL.of hD2, fun l nl => ?_⟩⟩
        exact q l _ (Same.trans (fun b o e => hd1_le _ _ (s2 _ _ e)) (same_upd nl)) (.tup upd_same ((ta2.same hd1_le).same (same_upd nl)))

/-! ### the same, kinds and all -/
theorem kIT : kitB "int" "tuple" = some false := by decide +kernel
theorem kBT : kitB "bool" "tuple" = some false := by decide +kernel
theorem kBI : kitB "bool" "int" = some true := by decide +kernel
def spS (Pd : PyData → Prop) : Sp := fun vs H Q _ => ∃ (x y : V) (d : PyData), vs = [x, y] ∧ Pd d ∧ Tk H x d ∧ Tk H y d ∧ ∀ H', Same H H' → Q (.bl true) H'
def leafD (d : PyData) : Prop := (∃ i, d = .int i) ∨ ∃ b, d = .bool b
theorem never_ok {f : Addr} {fd : FuncData} {ps : List Str} : FnOk P w K mg base CX0 0 f fd ps (fun _ _ _ _ => False) := ⟨fun _ _ _ _ h => h.elim, fun _ _ _ _ _ _ _ _ _ _ _ _ _ h => h.elim⟩
theorem ok_same1 (T : Tx K mg) : FnOk P w K mg base CX0 1 T.f_same T.fd_same ["_law_found", "_law_due"] (spS leafD) := by
  refine T.F_same.ok sc_same (fun vs H Q E h => ?_) (fun cdv A outer s H vs Q E hr h => ?_)
  · obtain ⟨x, y, d, rfl, _⟩ := h
    rfl
  · obtain ⟨x, y, d, rfl, hd, tx, ty, q⟩ := h
    refine ⟨_, (pss_cons (ps_if (pt_val (pe_callB call_isi (by rfl) T.m_isinstance (by decide +kernel) (pa_cons (pv 1) (pa_cons (pe_bltn (v := .ty "tuple") (u := .type "tuple") (by rfl) T.m_tuple (by decide +kernel) rfl) pa_nil)))) (pss_cons (ps_if (pw_or (pt_not (pt_val (pe_callB call_isi (by rfl) T.m_isinstance (by decide +kernel) (pa_cons (pv 0) (pa_cons (pe_bltn (v := .ty "tuple") (u := .type "tuple") (by rfl) T.m_tuple (by decide +kernel) rfl) pa_nil))))) (pw_or1 (pt_cmpR op_ne (pe_callB call_len_seq (by rfl) T.m_len PySem.boot_len (pa_cons (pv 0) pa_nil)) (pe_callB call_len_seq (by rfl) T.m_len PySem.boot_len (pa_cons (pv 1) pa_nil)) (nomark _)))).pt (pss_one (ps_ret pe_bl)) pss_nil) (pss_one (ps_ret (pe_callB (cr_all rfl) (by rfl) T.m_all (by decide +kernel) (pa_cons (pe_lc (own := [("_law_one", 2), ("_law_other", 3)]) (by rfl) sc_same.nd (RZ.pi_zipA (by rfl) T.m_zip (pa_cons (pv 0) (pa_cons (pv 1) pa_nil))) (blkOk_by (own := [("_law_one", 2), ("_law_other", 3)]) (N := ["_law_found", "_law_due", "_law_one", "_law_other"]) (sc := defScope s_same) (by decide +kernel)) (fun _ _ _ _ _ => (show PG _ _ (gTup K 2 _) from pg_tup rfl (pgs_cons (pg_name (i := 2) sc_same.nd rfl (by first | exact .inl rfl | exact .inr rfl)) (pgs_cons (pg_name (i := 3) sc_same.nd rfl (by first | exact .inl rfl | exact .inr rfl)) pgs_nil)))) (fun _ _ _ _ _ => pts_nil) (fun _ _ _ _ _ => (pe_call (never_ok) (hr.mono (by decide)) (by rfl) T.g_same T.F_same.kp T.b_same .nil pass0 (pa_cons (pv 2) (pa_cons (pv 3) pa_nil))))) pa_nil))))) pss_nil) (pss_one (ps_ret (pe_and (pe_cmpR op_eq (pe_callB call_isi (by rfl) T.m_isinstance (by decide +kernel) (pa_cons (pv 0) (pa_cons (pe_bltn (v := .ty "bool") (u := .type "bool") (by rfl) T.m_bool (by decide +kernel) rfl) pa_nil))) (pe_callB call_isi (by rfl) T.m_isinstance (by decide +kernel) (pa_cons (pv 1) (pa_cons (pe_bltn (v := .ty "bool") (u := .type "bool") (by rfl) T.m_bool (by decide +kernel) rfl) pa_nil))) (nomark _)) (pe_and (pe_callB call_isi (by rfl) T.m_isinstance (by decide +kernel) (pa_cons (pv 0) (pa_cons (pe_bltn (v := .ty "int") (u := .type "int") (by rfl) T.m_int (by decide +kernel) rfl) pa_nil))) (pe_one (pe_cmpR op_eq (pv 0) (pv 1) (nomark _)))))))), ?_⟩
    rcases hd with ⟨i, rfl⟩ | ⟨b, rfl⟩
    · cases tx
      cases ty
      refine ⟨.int i, rfl, _, _, _, _, _, rfl, .ty _, .base (.int i), kit_ty kIT, _, rfl, iteF ?_⟩
      refine ⟨.int i, rfl, _, _, _, _, _, rfl, .ty _, .base (.int i), kit_ty kIB, .int i, rfl, _, _, _, _, _, rfl, .ty _, .base (.int i), kit_ty kIB, rfl, _, rfl, iteT ?_⟩
      refine ⟨.int i, rfl, _, _, _, _, _, rfl, .ty _, .base (.int i), kit_ty kII, _, rfl, iteT ?_⟩
      refine ⟨.int i, rfl, .int i, rfl, rfl, ?_⟩
      rw [decide_eq_true rfl]
      exact q H same_refl
    · cases tx
      cases ty
      refine ⟨.bl b, rfl, _, _, _, _, _, rfl, .ty _, .base (.bl b), kit_ty kBT, _, rfl, iteF ?_⟩
      refine ⟨.bl b, rfl, _, _, _, _, _, rfl, .ty _, .base (.bl b), kit_ty kBB, .bl b, rfl, _, _, _, _, _, rfl, .ty _, .base (.bl b), kit_ty kBB, rfl, _, rfl, iteT ?_⟩
      refine ⟨.bl b, rfl, _, _, _, _, _, rfl, .ty _, .base (.bl b), kit_ty kBI, _, rfl, iteT ?_⟩
      refine ⟨.bl b, rfl, .bl b, rfl, rfl, ?_⟩
      rw [decide_eq_true rfl]
      exact q H same_refl
def wordDD (d : PyData) : Prop := ∃ ds, d = .tuple ds ∧ (∀ e ∈ ds, leafD e) ∧ ds.length ≤ 1100
theorem ok_same2 (T : Tx K mg) : FnOk P w K mg base CX0 2 T.f_same T.fd_same ["_law_found", "_law_due"] (spS wordDD) := by
  refine T.F_same.ok sc_same (fun vs H Q E h => ?_) (fun cdv A outer s H vs Q E hr h => ?_)
  · obtain ⟨x, y, d, rfl, _⟩ := h
    rfl
  · obtain ⟨x, y, d, rfl, ⟨ds, rfl, hds, hl⟩, tx, ty, q⟩ := h
    refine ⟨_, (pss_cons (ps_if (pt_val (pe_callB call_isi (by rfl) T.m_isinstance (by decide +kernel) (pa_cons (pv 1) (pa_cons (pe_bltn (v := .ty "tuple") (u := .type "tuple") (by rfl) T.m_tuple (by decide +kernel) rfl) pa_nil)))) (pss_cons (ps_if (pw_or (pt_not (pt_val (pe_callB call_isi (by rfl) T.m_isinstance (by decide +kernel) (pa_cons (pv 0) (pa_cons (pe_bltn (v := .ty "tuple") (u := .type "tuple") (by rfl) T.m_tuple (by decide +kernel) rfl) pa_nil))))) (pw_or1 (pt_cmpR op_ne (pe_callB call_len_seq (by rfl) T.m_len PySem.boot_len (pa_cons (pv 0) pa_nil)) (pe_callB call_len_seq (by rfl) T.m_len PySem.boot_len (pa_cons (pv 1) pa_nil)) (nomark _)))).pt (pss_one (ps_ret pe_bl)) pss_nil) (pss_one (ps_ret (pe_callB (cr_all rfl) (by rfl) T.m_all (by decide +kernel) (pa_cons (pe_lc (own := [("_law_one", 2), ("_law_other", 3)]) (by rfl) sc_same.nd (RZ.pi_zipA (by rfl) T.m_zip (pa_cons (pv 0) (pa_cons (pv 1) pa_nil))) (blkOk_by (own := [("_law_one", 2), ("_law_other", 3)]) (N := ["_law_found", "_law_due", "_law_one", "_law_other"]) (sc := defScope s_same) (by decide +kernel)) (fun _ _ _ _ _ => (show PG _ _ (gTup K 2 _) from pg_tup rfl (pgs_cons (pg_name (i := 2) sc_same.nd rfl (by first | exact .inl rfl | exact .inr rfl)) (pgs_cons (pg_name (i := 3) sc_same.nd rfl (by first | exact .inl rfl | exact .inr rfl)) pgs_nil)))) (fun _ _ _ _ _ => pts_nil) (fun _ _ _ _ _ => (pe_call (ok_same1 T) (hr.mono (by decide)) (by rfl) T.g_same T.F_same.kp T.b_same .nil pass0 (pa_cons (pv 2) (pa_cons (pv 3) pa_nil))))) pa_nil))))) pss_nil) (pss_one (ps_ret (pe_and (pe_cmpR op_eq (pe_callB call_isi (by rfl) T.m_isinstance (by decide +kernel) (pa_cons (pv 0) (pa_cons (pe_bltn (v := .ty "bool") (u := .type "bool") (by rfl) T.m_bool (by decide +kernel) rfl) pa_nil))) (pe_callB call_isi (by rfl) T.m_isinstance (by decide +kernel) (pa_cons (pv 1) (pa_cons (pe_bltn (v := .ty "bool") (u := .type "bool") (by rfl) T.m_bool (by decide +kernel) rfl) pa_nil))) (nomark _)) (pe_and (pe_callB call_isi (by rfl) T.m_isinstance (by decide +kernel) (pa_cons (pv 0) (pa_cons (pe_bltn (v := .ty "int") (u := .type "int") (by rfl) T.m_int (by decide +kernel) rfl) pa_nil))) (pe_one (pe_cmpR op_eq (pv 0) (pv 1) (nomark _)))))))), ?_⟩
    obtain ⟨a, xs, rfl, hx, ax⟩ := tx.tup_inv
    obtain ⟨b, ys, rfl, hy, ay⟩ := ty.tup_inv
    have el : xs.length = ys.length := by rw [ax.length, ay.length]
    refine ⟨.ref b, rfl, _, _, _, _, _, rfl, .ty _, .base (.tup hy), kit_ty kTT, _, rfl, iteT ?_⟩
    refine ⟨.ref a, rfl, _, _, _, _, _, rfl, .ty _, .base (.tup hx), kit_ty kTT, _, rfl, iteF ⟨.ref a, rfl, a, _, rfl, .inr (SqT.of hx), .ref b, rfl, b, _, rfl, .inr (SqT.of hy), rfl, _, rfl, ?_⟩⟩
    rw [el, decide_eq_true rfl]
    refine iteF ?_
    refine ⟨.ref a, rfl, .ref b, rfl, a, b, _, _, rfl, .inr ⟨SqT.of hx, SqT.of hy, fun D nD => ?_⟩⟩
    refine lc_zipT (K := K) (a := a) (b := b) (xs := xs) (ys := ys) el (fun i H' => Same H (hd1 D H') ∧ H' D = some (.lst ((List.replicate i true).map V.bl))) ⟨hd1_of (same_upd nD) nD, upd_same⟩ (fun i H' _ hP => ⟨SqT.of (hd1_le _ _ (hP.1 _ _ hx)), SqT.of (hd1_le _ _ (hP.1 _ _ hy))⟩) ?_ ?_
    · rintro i u v Tq H1 hu hv nT ⟨s1, hD⟩
      obtain ⟨e, he, te⟩ := ax.get hu
      obtain ⟨e', he', te'⟩ := ay.get hv
      cases Option.some.inj (he.symm.trans he')
      have hi := (List.getElem?_eq_some_iff.mp hu).1
      have lx := ax.length
      have sT := same_upd (o := HO.tup [u, v]) nT
      have s01 : Same H H1 := fun b o e => hd1_le _ _ (s1 _ _ e)
      refine ⟨Tq, _, rfl, SqT.of upd_same, rfl, _, _, rfl, _, _, rfl, rfl, rfl, ?_⟩
      refine ⟨u, rfl, v, rfl, u, v, e, rfl, hds e (List.mem_of_getElem? he), (te.same s01).same sT, (te'.same s01).same sT, fun H2 s2 => ⟨_, s2 _ _ (sT _ _ hD), ?_, s1.trans ((hd1_same (sT.trans s2)).trans hd1_upd), ?_⟩⟩
      · rw [List.length_map, List.length_replicate]
        exact Nat.lt_of_lt_of_le (show i < 2000 by omega) (by decide)
      · rw [upd_same, List.replicate_succ', List.map_append]
        rfl
    · rintro H1 ⟨s1, hD⟩
      refine ⟨D, _, rfl, SqL.of hD, ?_⟩
      have : (List.replicate xs.length true).all id = true := by
        rw [List.all_eq_true]
        intro z hz
        exact (List.mem_replicate.mp hz).2
      rw [this]
      exact q H1 fun b o e => hd1_le _ _ (s1 _ _ e)
def wordsDD (d : PyData) : Prop := ∃ ds, d = .tuple ds ∧ (∀ e ∈ ds, wordDD e) ∧ ds.length ≤ 1100
theorem ok_same (T : Tx K mg) : FnOk P w K mg base CX0 3 T.f_same T.fd_same ["_law_found", "_law_due"] (spS wordsDD) := by
  refine T.F_same.ok sc_same (fun vs H Q E h => ?_) (fun cdv A outer s H vs Q E hr h => ?_)
  · obtain ⟨x, y, d, rfl, _⟩ := h
    rfl
  · obtain ⟨x, y, d, rfl, ⟨ds, rfl, hds, hl⟩, tx, ty, q⟩ := h
    refine ⟨_, (pss_cons (ps_if (pt_val (pe_callB call_isi (by rfl) T.m_isinstance (by decide +kernel) (pa_cons (pv 1) (pa_cons (pe_bltn (v := .ty "tuple") (u := .type "tuple") (by rfl) T.m_tuple (by decide +kernel) rfl) pa_nil)))) (pss_cons (ps_if (pw_or (pt_not (pt_val (pe_callB call_isi (by rfl) T.m_isinstance (by decide +kernel) (pa_cons (pv 0) (pa_cons (pe_bltn (v := .ty "tuple") (u := .type "tuple") (by rfl) T.m_tuple (by decide +kernel) rfl) pa_nil))))) (pw_or1 (pt_cmpR op_ne (pe_callB call_len_seq (by rfl) T.m_len PySem.boot_len (pa_cons (pv 0) pa_nil)) (pe_callB call_len_seq (by rfl) T.m_len PySem.boot_len (pa_cons (pv 1) pa_nil)) (nomark _)))).pt (pss_one (ps_ret pe_bl)) pss_nil) (pss_one (ps_ret (pe_callB (cr_all rfl) (by rfl) T.m_all (by decide +kernel) (pa_cons (pe_lc (own := [("_law_one", 2), ("_law_other", 3)]) (by rfl) sc_same.nd (RZ.pi_zipA (by rfl) T.m_zip (pa_cons (pv 0) (pa_cons (pv 1) pa_nil))) (blkOk_by (own := [("_law_one", 2), ("_law_other", 3)]) (N := ["_law_found", "_law_due", "_law_one", "_law_other"]) (sc := defScope s_same) (by decide +kernel)) (fun _ _ _ _ _ => (show PG _ _ (gTup K 2 _) from pg_tup rfl (pgs_cons (pg_name (i := 2) sc_same.nd rfl (by first | exact .inl rfl | exact .inr rfl)) (pgs_cons (pg_name (i := 3) sc_same.nd rfl (by first | exact .inl rfl | exact .inr rfl)) pgs_nil)))) (fun _ _ _ _ _ => pts_nil) (fun _ _ _ _ _ => (pe_call (ok_same2 T) (hr.mono (by decide)) (by rfl) T.g_same T.F_same.kp T.b_same .nil pass0 (pa_cons (pv 2) (pa_cons (pv 3) pa_nil))))) pa_nil))))) pss_nil) (pss_one (ps_ret (pe_and (pe_cmpR op_eq (pe_callB call_isi (by rfl) T.m_isinstance (by decide +kernel) (pa_cons (pv 0) (pa_cons (pe_bltn (v := .ty "bool") (u := .type "bool") (by rfl) T.m_bool (by decide +kernel) rfl) pa_nil))) (pe_callB call_isi (by rfl) T.m_isinstance (by decide +kernel) (pa_cons (pv 1) (pa_cons (pe_bltn (v := .ty "bool") (u := .type "bool") (by rfl) T.m_bool (by decide +kernel) rfl) pa_nil))) (nomark _)) (pe_and (pe_callB call_isi (by rfl) T.m_isinstance (by decide +kernel) (pa_cons (pv 0) (pa_cons (pe_bltn (v := .ty "int") (u := .type "int") (by rfl) T.m_int (by decide +kernel) rfl) pa_nil))) (pe_one (pe_cmpR op_eq (pv 0) (pv 1) (nomark _)))))))), ?_⟩
    obtain ⟨a, xs, rfl, hx, ax⟩ := tx.tup_inv
    obtain ⟨b, ys, rfl, hy, ay⟩ := ty.tup_inv
    have el : xs.length = ys.length := by rw [ax.length, ay.length]
    refine ⟨.ref b, rfl, _, _, _, _, _, rfl, .ty _, .base (.tup hy), kit_ty kTT, _, rfl, iteT ?_⟩
    refine ⟨.ref a, rfl, _, _, _, _, _, rfl, .ty _, .base (.tup hx), kit_ty kTT, _, rfl, iteF ⟨.ref a, rfl, a, _, rfl, .inr (SqT.of hx), .ref b, rfl, b, _, rfl, .inr (SqT.of hy), rfl, _, rfl, ?_⟩⟩
    rw [el, decide_eq_true rfl]
    refine iteF ?_
    refine ⟨.ref a, rfl, .ref b, rfl, a, b, _, _, rfl, .inr ⟨SqT.of hx, SqT.of hy, fun D nD => ?_⟩⟩
    refine lc_zipT (K := K) (a := a) (b := b) (xs := xs) (ys := ys) el (fun i H' => Same H (hd1 D H') ∧ H' D = some (.lst ((List.replicate i true).map V.bl))) ⟨hd1_of (same_upd nD) nD, upd_same⟩ (fun i H' _ hP => ⟨SqT.of (hd1_le _ _ (hP.1 _ _ hx)), SqT.of (hd1_le _ _ (hP.1 _ _ hy))⟩) ?_ ?_
    · rintro i u v Tq H1 hu hv nT ⟨s1, hD⟩
      obtain ⟨e, he, te⟩ := ax.get hu
      obtain ⟨e', he', te'⟩ := ay.get hv
      cases Option.some.inj (he.symm.trans he')
      have hi := (List.getElem?_eq_some_iff.mp hu).1
      have lx := ax.length
      have sT := same_upd (o := HO.tup [u, v]) nT
      have s01 : Same H H1 := fun b o e => hd1_le _ _ (s1 _ _ e)
      refine ⟨Tq, _, rfl, SqT.of upd_same, rfl, _, _, rfl, _, _, rfl, rfl, rfl, ?_⟩
      refine ⟨u, rfl, v, rfl, u, v, e, rfl, hds e (List.mem_of_getElem? he), (te.same s01).same sT, (te'.same s01).same sT, fun H2 s2 => ⟨_, s2 _ _ (sT _ _ hD), ?_, s1.trans ((hd1_same (sT.trans s2)).trans hd1_upd), ?_⟩⟩
      · rw [List.length_map, List.length_replicate]
        exact Nat.lt_of_lt_of_le (show i < 2000 by omega) (by decide)
      · rw [upd_same, List.replicate_succ', List.map_append]
        rfl
    · rintro H1 ⟨s1, hD⟩
      refine ⟨D, _, rfl, SqL.of hD, ?_⟩
      have : (List.replicate xs.length true).all id = true := by
        rw [List.all_eq_true]
        intro z hz
        exact (List.mem_replicate.mp hz).2
      rw [this]
      exact q H1 fun b o e => hd1_le _ _ (s1 _ _ e)
theorem dd_words {ws : List Wd} (h : ws.length ≤ 1100) : wordsDD (.tuple (ws.map wD)) := by
  refine ⟨_, rfl, fun e he => ?_, by rw [List.length_map]; exact h⟩
  obtain ⟨x, _, rfl⟩ := List.mem_map.mp he
  refine ⟨_, rfl, fun y hy => ?_, (show 3 ≤ 1100 by decide)⟩
  rcases List.mem_cons.mp hy with rfl | hy
  · exact .inl ⟨_, rfl⟩
  rcases List.mem_cons.mp hy with rfl | hy
  · exact .inl ⟨_, rfl⟩
  rcases List.mem_cons.mp hy with rfl | hy
  · exact .inr ⟨_, rfl⟩
  · cases hy

end
end Gk

set_option Elab.async false
set_option linter.all false
set_option maxRecDepth 100000
set_option maxHeartbeats 1000000
namespace Gk
open PySem PySem.Spec PyProof.Rows L2
section
variable {P : Program} {w : World} {K : PySem.W.Frag} {mg : Str → Option Value} {base : Heap}
/-! ### long nets, and their texts -/
theorem inp_S : Str.ofString "inputs " = SX.S inpL := by decide +kernel
theorem lens_ok {k n : Nat} {sep : Str} (l : List (List Nat)) (h : ∀ p ∈ l, p.length ≤ k) (hl : l.length ≤ n) (hn : n * (k + 1) ≤ 16777216) (hs : sep.length = 1) : ((l.map SX.S).map (·.length)).sum + (l.map SX.S).length * sep.length ≤ 16777216 := by
  rw [SX.lens, List.length_map, hs]
  have a := sum_le (f := fun x : List Nat => x.length) l h
  have b : l.length * (k + 1) ≤ n * (k + 1) := Nat.mul_le_mul_right _ hl
  rw [Nat.mul_add] at b
  omega
theorem sp_1 : (Str.ofString " ").length = 1 := by decide +kernel
theorem nl_1 : (Str.ofString "\n").length = 1 := by decide +kernel
theorem line_join (g : Gt) : Txt.join (Str.ofString " ") (SX.S (g.1.map sgn) :: (g.2.map dig).map SX.S) = SX.S (lineL g) := by
  rw [sp_S]
  exact SX.join_S [32] (g.1.map sgn :: g.2.map dig)
theorem net_join (m : Nat) (gs : List Gt) : Txt.join (Str.ofString "\n") (SX.S (inpL ++ dig m) :: (gs.map lineL).map SX.S) = SX.S (netL m gs) := by
  rw [nl_S]
  exact SX.join_S [10] ((inpL ++ dig m) :: gs.map lineL)
theorem log_dig (n : Nat) (h : n < 1000) : (n : Int).natAbs.log2 < 1920 := by
  rw [Int.natAbs_natCast]
  by_cases z : n = 0
  · subst z; decide
  · have : n.log2 < 10 := (Nat.log2_lt z).mpr (by omega)
    omega
def sp_long (K : PySem.W.Frag) : Sp := fun vs H Q _ => ∃ (d l : Addr) (n : Int) (many : Nat), vs = [.ref d, .int many] ∧ DeckB H d l n ∧ n < 1000 ∧ 1 ≤ many ∧ many ≤ 6 ∧
  ∀ r nr H' gs, DeckB H' d l (n + 10000) → Fr d l H H' → H' r = some (.tup [.ref nr, .str (SX.S (netL many gs))]) → Tk H' (.ref nr) (netD many gs) → 1 ≤ gs.length → gs.length ≤ 300 → NetOk many gs → Q (.ref r) H'
theorem ok_long (T : Tx K mg) : FnOk P w K mg base CX0 3 T.f_long T.fd_long ["_law_deck_here", "_law_many"] (sp_long K) := by
  refine T.F_long.ok sc_long (fun vs H Q E h => ?_) (fun cdv A outer s H vs Q E hr h => ?_)
  · obtain ⟨d, l, n, many, rfl, _⟩ := h
    rfl
  · obtain ⟨d, l, n, many, rfl, D, hn, m1, m6, q⟩ := h
    refine ⟨_, (pss_cons (ps_set (i := 2) sc_long.nd rfl (by first | exact .inl rfl | exact .inr rfl) (pe_lst pa_nil)) (pss_cons (ps_for PassesOwn.never rfl (pi_range1 (by rfl) T.m_range (pa_cons (pe_op op_add pe_int (pe_call (ok_draw T) (hr.mono (by decide)) (by rfl) T.g_draw T.F_draw.kp T.b_draw .nil pass0 (pa_cons (pv 0) (pa_cons pe_int pa_nil)))) pa_nil)) (pg_name (i := 3) sc_long.nd rfl (by first | exact .inl rfl | exact .inr rfl)) (pss_cons (ps_set (i := 4) sc_long.nd rfl (by first | exact .inl rfl | exact .inr rfl) (pe_callB (call_max2 rfl) (by rfl) T.m_max (by decide +kernel) (pa_cons pe_int (pa_cons (pe_op op_sub (pe_op op_sub (pe_op op_add (pv 1) (pv 3)) pe_int) (pe_call (ok_draw T) (hr.mono (by decide)) (by rfl) T.g_draw T.F_draw.kp T.b_draw .nil pass0 (pa_cons (pv 0) (pa_cons pe_int pa_nil)))) pa_nil)))) (pss_cons (ps_set (i := 5) sc_long.nd rfl (by first | exact .inl rfl | exact .inr rfl) (pe_ix ix_list (pe_lst (pa_cons (pe_lst (pa_cons (pv 4) pa_nil)) (pa_cons (pe_lst (pa_cons (pv 4) (pa_cons (pe_call (ok_draw T) (hr.mono (by decide)) (by rfl) T.g_draw T.F_draw.kp T.b_draw .nil pass0 (pa_cons (pv 0) (pa_cons (pe_op op_add (pv 1) (pv 3)) pa_nil))) pa_nil))) (pa_cons (pe_lst (pa_cons (pe_call (ok_draw T) (hr.mono (by decide)) (by rfl) T.g_draw T.F_draw.kp T.b_draw .nil pass0 (pa_cons (pv 0) (pa_cons (pv 1) pa_nil))) (pa_cons (pv 4) pa_nil))) pa_nil)))) (pe_call (ok_draw T) (hr.mono (by decide)) (by rfl) T.g_draw T.F_draw.kp T.b_draw .nil pass0 (pa_cons (pv 0) (pa_cons pe_int pa_nil))) (fun _ _ => rfl))) (pss_one (ps_expr (pe_bm PySem.F.plainAttrs_list PySem.F.slot_list_append PySem.F.type_list_append mt_append (pv 2) (pa_cons (pe_tup (pa_cons (pe_call (ok_table T) (hr.mono (by decide)) (by rfl) T.g_table T.F_table.kp T.b_table .nil pass0 (pa_cons (pv 0) (pa_cons (pe_callB call_len_seq (by rfl) T.m_len PySem.boot_len (pa_cons (pv 5) pa_nil)) pa_nil))) (pa_cons (pe_callTy call_tuple_of (by rfl) T.m_tuple (by decide +kernel) (pa_cons (pv 5) pa_nil)) pa_nil))) pa_nil))))))) (pss_cons (ps_set (i := 6) sc_long.nd rfl (by first | exact .inl rfl | exact .inr rfl) (pe_lst (pa_cons (pe_op op_add_str pe_str (pe_callTy call_str_int (by rfl) T.m_str (by decide +kernel) (pa_cons (pv 1) pa_nil))) pa_nil))) (pss_cons (ps_for PassesOwn.never rfl (pi_list (pv 2)) (pg_tup rfl (pgs_cons (pg_name (i := 7) sc_long.nd rfl (by first | exact .inl rfl | exact .inr rfl)) (pgs_cons (pg_name (i := 5) sc_long.nd rfl (by first | exact .inl rfl | exact .inr rfl)) pgs_nil))) (pss_one (ps_expr (pe_bm PySem.F.plainAttrs_list PySem.F.slot_list_append PySem.F.type_list_append mt_append (pv 6) (pa_cons (pe_join pe_str (pe_op op_cat (pe_lst (pa_cons (pv 7) pa_nil)) (pe_lc (own := [("_law_wire", 8)]) (by rfl) sc_long.nd (pi_tup (pv 5)) (blkOk_by (own := [("_law_wire", 8)]) (N := ["_law_deck_here", "_law_many", "_law_gates", "_law_k", "_law_near", "_law_ins", "_law_rows", "_law_table_here", "_law_wire"]) (sc := defScope s_long) (by decide +kernel)) (fun _ _ _ _ _ => (pg_name (i := 8) sc_long.nd rfl (by first | exact .inl rfl | exact .inr rfl))) (fun _ _ _ _ _ => pts_nil) (fun _ _ _ _ _ => (pe_callTy call_str_int (by rfl) T.m_str (by decide +kernel) (pa_cons (pv 8) pa_nil)))))) pa_nil))))) (pss_one (ps_ret (pe_tup (pa_cons (pe_tup (pa_cons (pv 1) (pa_cons (pe_callTy call_tuple_of (by rfl) T.m_tuple (by decide +kernel) (pa_cons (pv 2) pa_nil)) pa_nil))) (pa_cons (pe_join pe_str (pv 6)) pa_nil))))))))), ?_⟩
    refine ⟨Nat.zero_le _, fun G nG => ?_⟩
    have oG := D.off nG
    have DG := D.same (same_upd (o := HO.lst []) nG)
    refine ⟨.ref d, rfl, d, l, 260, _, rfl, DG, by omega, by decide, by decide, fun H0 v D0 fr0 v0 v1 => ⟨_, _, rfl, rfl, 41 + v, rfl, by omega, by omega, ?_⟩⟩
    have hG0 := fr0 _ _ oG.1 oG.2 (show (upd H G (.lst [])) G = some (.lst []) from upd_same)
    obtain ⟨cn, hcn, c1, c300⟩ : ∃ cn : Nat, (41 + v).toNat = cn ∧ 1 ≤ cn ∧ cn ≤ 300 := ⟨(41 + v).toNat, rfl, by omega, by omega⟩
    refine for_range (lo := 0) (n := (41 + v).toNat) (fun i σ H' => ∃ y3 y4 y5, σ = [some (.ref d), some (.int many), some (.ref G), y3, y4, y5, none, none, none] ∧ DeckB H' d l (n + 1 + 20 * i) ∧ Fr d l H H' ∧ ∃ acc gs, H' G = some (.lst acc) ∧ TkAll H' acc (gs.map gD) ∧ gs.length = i ∧ NetOk many gs)
      ⟨_, _, _, rfl, D0.mono (by omega), (Fr.new nG).trans fr0, [], [], hG0, .nil, rfl, fun k g e => by simp at e⟩ ?_ ?_
    · rintro i σ H1 hi ⟨y3, y4, y5, rfl, D1, fr1, acc, gs, hG, tg, lg, ok⟩
      have hi' : i < 300 := by omega
      refine ⟨.int many, rfl, .int (0 + (i : Int)), rfl, _, _, rfl, rfl, _, _, rfl, rfl, .ref d, rfl, d, l, 4, _, rfl, D1, by omega, by decide, by decide, fun H2 u D2 fr2 u0 u1 => ⟨_, _, rfl, rfl, 0, _, rfl, ?_⟩⟩
      obtain ⟨nn, hnn, nlt⟩ : ∃ nn : Nat, (if (many : Int) + (0 + (i : Int)) - 1 - u > 0 then (many : Int) + (0 + (i : Int)) - 1 - u else 0) = Int.ofNat nn ∧ nn < many + i := by
        by_cases z : (many : Int) + (0 + (i : Int)) - 1 - u > 0
        · refine ⟨((many : Int) + (0 + (i : Int)) - 1 - u).toNat, ?_, by omega⟩
          rw [if_pos z]
          show _ = ((((many : Int) + (0 + (i : Int)) - 1 - u).toNat : Nat) : Int)
          omega
        · exact ⟨0, by rw [if_neg z]; rfl, by omega⟩
      have en : V.int (if (many : Int) + (0 + (i : Int)) - 1 - u > 0 then (many : Int) + (0 + (i : Int)) - 1 - u else 0) = .int (Int.ofNat nn) := by rw [hnn]
      show tSeq _ _ _ ([some (V.ref d), some (.int many), some (.ref G), some (.int (0 + (i : Int))), some (V.int (if (many : Int) + (0 + (i : Int)) - 1 - u > 0 then (many : Int) + (0 + (i : Int)) - 1 - u else 0)), y5, none, none, none]) H2
      rw [en]
      have hG2 := fr2 _ _ oG.1 oG.2 hG
      refine ⟨.int (Int.ofNat nn), rfl, sl1, fun p1 n1 => ?_⟩
      have o1 := D2.off n1
      have D2' := D2.same (same_upd (o := HO.lst [V.int (Int.ofNat nn)]) n1)
      refine ⟨.int (Int.ofNat nn), rfl, .ref d, rfl, .int many, rfl, .int (0 + (i : Int)), rfl, _, _, rfl, rfl, d, l, _, _, rfl, D2', by omega, by omega, by omega, fun H3 x D3 fr3 x0 x1 => ⟨sl2, fun p2 n2 => ?_⟩⟩
      obtain ⟨xn, rfl⟩ := Int.eq_ofNat_of_zero_le x0
      have o2 := D3.off n2
      have h13 := fr3 _ _ o1.1 o1.2 (show (upd H2 p1 (.lst [V.int (Int.ofNat nn)])) p1 = _ from upd_same)
      have s3 := same_upd (o := HO.lst [V.int (Int.ofNat nn), V.int (xn : Int)]) n2
      have D3' := D3.same s3
      refine ⟨.ref d, rfl, .int many, rfl, d, l, _, _, rfl, D3', by omega, by omega, by omega, fun H4 y D4 fr4 y0 y1 => ⟨.int (Int.ofNat nn), rfl, sl2, fun p3 n3 => ⟨sl3, fun p4 n4 => ?_⟩⟩⟩
      obtain ⟨yn, rfl⟩ := Int.eq_ofNat_of_zero_le y0
      have o3 := D4.off n3
      have s4a := same_upd (o := HO.lst [V.int (yn : Int), V.int (Int.ofNat nn)]) n3
      have D4a := D4.same s4a
      have o4 := D4a.off n4
      have s4b := same_upd (o := HO.lst [V.ref p1, V.ref p2, V.ref p3]) n4
      have D4b := D4a.same s4b
      have h14 := s4b _ _ (s4a _ _ (fr4 _ _ o1.1 o1.2 (s3 _ _ h13)))
      have h24 := s4b _ _ (s4a _ _ (fr4 _ _ o2.1 o2.2 (show (upd H3 p2 (.lst [V.int (Int.ofNat nn), V.int (xn : Int)])) p2 = _ from upd_same)))
      have h34 := s4b _ _ (show (upd H4 p3 (.lst [V.int (yn : Int), V.int (Int.ofNat nn)])) p3 = _ from upd_same)
      refine ⟨.ref d, rfl, d, l, 3, _, rfl, D4b, by omega, by decide, by decide, fun H5 z D5 fr5 z0 z1 => ?_⟩
      have h15 := fr5 _ _ o1.1 o1.2 h14
      have h25 := fr5 _ _ o2.1 o2.2 h24
      have h35 := fr5 _ _ o3.1 o3.2 h34
      have h45 := fr5 _ _ o4.1 o4.2 (show (upd (upd H4 p3 (.lst [V.int (yn : Int), V.int (Int.ofNat nn)])) p4 (.lst [V.ref p1, V.ref p2, V.ref p3])) p4 = _ from upd_same)
      obtain ⟨pk, ws, hpk, hk, c1, c3, okw, opk⟩ : ∃ pk ws, atI [V.ref p1, V.ref p2, V.ref p3] z = some (.ref pk) ∧ H5 pk = some (.lst (nV ws)) ∧ 1 ≤ ws.length ∧ ws.length ≤ 3 ∧ (∀ w ∈ ws, w < many + i) ∧ pk ≠ d ∧ pk ≠ l := by
        have : z = 0 ∨ z = 1 ∨ z = 2 := by omega
        rcases this with rfl | rfl | rfl
        · exact ⟨p1, [nn], rfl, h15, (show 1 ≤ 1 by decide), (show 1 ≤ 3 by decide), fun w hw => by rw [List.mem_singleton.mp hw]; exact nlt, o1⟩
        · refine ⟨p2, [nn, xn], rfl, h25, (show 1 ≤ 2 by decide), (show 2 ≤ 3 by decide), fun w hw => ?_, o2⟩
          rcases List.mem_cons.mp hw with rfl | hw
          · exact nlt
          · rw [List.mem_singleton.mp hw]; omega
        · refine ⟨p3, [yn, nn], rfl, h35, (show 1 ≤ 2 by decide), (show 2 ≤ 3 by decide), fun w hw => ?_, o3⟩
          rcases List.mem_cons.mp hw with rfl | hw
          · omega
          · rw [List.mem_singleton.mp hw]; exact nlt
      have hG5 := fr5 _ _ oG.1 oG.2 (s4b _ _ (s4a _ _ (fr4 _ _ oG.1 oG.2 (s3 _ _ (fr3 _ _ oG.1 oG.2 (same_upd n1 _ _ hG2))))))
      have frA : Fr d l H H5 := (((((((fr1.trans fr2).trans (Fr.new n1)).trans fr3).trans (Fr.of s3)).trans fr4).trans (Fr.of s4a)).trans (Fr.of s4b)).trans fr5
      have tg5 := tg.ts ((((((((Ts.fr D1 fr2).trans (Ts.new n1)).trans (Ts.fr D2' fr3)).trans (Ts.same s3)).trans (Ts.fr D3' fr4)).trans (Ts.same s4a)).trans (Ts.same s4b)).trans (Ts.fr D4b fr5)) (noL_gates gs)
      refine ⟨p4, _, z, _, rfl, rfl, SqL.of h45, hpk, ?_⟩
      refine ⟨.ref G, rfl, .inl ⟨rfl, _, SqL.of hG5⟩, .ref d, rfl, .ref pk, rfl, pk, _, rfl, .inl (SqL.of hk), ?_⟩
      rw [nV_len]
      refine ⟨d, l, _, ws.length, rfl, D5, by omega, c1, c3, fun H6 bs D6 fr6 lb => ?_⟩
      have hk6 := fr6 _ _ opk.1 opk.2 hk
      have hG6 := fr6 _ _ oG.1 oG.2 hG5
      have tg6 := tg5.ts (Ts.fr D5 fr6) (noL_gates gs)
      refine ⟨.ref pk, rfl, pk, _, rfl, .inl ⟨SqL.of hk6, fun ti nti => ⟨sl2, fun tt ntt => ?_⟩⟩⟩
      have s6 := (same_upd (o := HO.tup (nV ws)) nti).trans (same_upd (o := HO.tup [V.str (tabOf bs), .ref ti]) ntt)
      have hG7 := s6 _ _ hG6
      refine ⟨G, _, _, rfl, rfl, hG7, ?_, ?_⟩
      · have := tg6.length
        rw [List.length_map, lg] at this
        exact Nat.lt_of_lt_of_le (show acc.length < 400 by omega) (by decide)
      · refine ⟨_, _, _, rfl, ((D6.same s6).upd oG.1 oG.2).mono (by push_cast; omega), Fr.upd ((frA.trans fr6).trans (Fr.of s6)) nG, _, gs ++ [(bs, ws)], upd_same, ?_, by rw [List.length_append, lg]; rfl, ok.snoc ⟨lb, c1, c3, by rw [lg]; exact okw⟩⟩
        rw [List.map_append]
        exact (tg6.ts ((Ts.same s6).trans (Ts.set hG7)) (noL_gates gs)).append (.cons ((gate_new nti ntt).ts (Ts.set hG7) (noL_gate _)) .nil)
    · rintro σ H1 ⟨y3, y4, y5, rfl, D1, fr1, acc, gs, hG, tg, lg, ok⟩
      rw [hcn] at lg D1
      have gS := netS ok m6 (by omega)
      have ds : (toString ((many : Nat) : Int) : Str) = SX.S (dig many) := dig_S many
      refine ⟨.int many, rfl, (many : Int), rfl, log_dig many (by omega), Str.ofString "inputs ", _, rfl, rfl, ?_, sl1, fun R nR => ?_⟩
      · rw [ds, inp_S, SX.S_len, SX.S_len]
        have := (dig_ok (n := many) (by omega)).2.1
        exact Nat.le_trans (show _ ≤ 20 by have : inpL.length = 7 := rfl; omega) (by decide)
      rw [ds, inp_S, SX.S_cat]
      have hGn : G ≠ R := ne_of_none hG nR
      refine ⟨.ref G, rfl, G, rfl, ⟨_, SqL.of (same_upd nR _ _ hG)⟩, ?_⟩
      have al : acc.length = gs.length := by rw [tg.length, List.length_map]
      refine for_list (K := K) (a := G) (xs := acc) (fun j σ H' => ∃ y5 y7, σ = [some (.ref d), some (.int many), some (.ref G), y3, y4, y5, some (.ref R), y7, none] ∧ Same H1 (hd1 R H') ∧ H' R = some (.lst (List.map V.str (SX.S (inpL ++ dig many) :: ((gs.take j).map lineL).map SX.S))))
        ⟨_, _, rfl, hd1_of (same_upd nR) nR, upd_same⟩ (fun j σ H' _ ⟨_, _, _, hP, _⟩ => SqL.of (hd1_le _ _ (hP _ _ hG))) ?_ ?_
      · rintro j vv σ H2 hv ⟨y5', y7, rfl, s2, hR⟩
        have s12 : Same H1 H2 := fun b o e => hd1_le _ _ (s2 _ _ e)
        obtain ⟨gt, hgt, tgt⟩ := tg.at hv
        have hgl := (List.getElem?_eq_some_iff.mp hgt).1
        have gtS := gS gt (List.mem_of_getElem? hgt)
        obtain ⟨ga, ii, rfl, hga, hii⟩ := (tgt.same s12).gt_inv
        refine ⟨ga, _, rfl, SqT.of hga, rfl, _, _, rfl, _, _, rfl, rfl, ?_⟩
        refine ⟨.ref R, rfl, .inl ⟨rfl, _, SqL.of hR⟩, ⟨_, rfl⟩, .str (tabOf gt.1), rfl, sl1, fun p1 n1 => ?_⟩
        have s3 := same_upd (o := HO.lst [V.str (tabOf gt.1)]) n1
        refine ⟨.ref ii, rfl, ii, rfl, ⟨_, SqT.of (s3 _ _ hii)⟩, fun L nL => ?_⟩
        refine lc_tup (K := K) (a := ii) (xs := (gt.2.map Int.ofNat).map V.int) (fun k H' => Same (upd H2 p1 (.lst [V.str (tabOf gt.1)])) (hd1 L H') ∧ H' L = some (.lst (List.map V.str (((gt.2.take k).map dig).map SX.S)))) ⟨hd1_of (same_upd nL) nL, upd_same⟩ (fun k H' _ hP => SqT.of (hd1_le _ _ (hP.1 _ _ (s3 _ _ hii)))) ?_ ?_
        · rintro k x H3 hx ⟨s4, hL⟩
          rw [List.getElem?_map, List.getElem?_map] at hx
          cases hj : gt.2[k]? with
          | none => rw [hj] at hx; cases hx
          | some wn =>
            rw [hj] at hx
            cases Option.some.inj hx
            have hkl := (List.getElem?_eq_some_iff.mp hj).1
            have := gtS.2.1
            have hw := gtS.2.2 wn (List.mem_of_getElem? hj)
            refine ⟨rfl, .int (Int.ofNat wn), rfl, (wn : Int), rfl, log_dig wn hw, _, hL, ?_, s4.trans hd1_upd, ?_⟩
            · rw [List.length_map, List.length_map, List.length_map, List.length_take]
              exact Nat.lt_of_lt_of_le (show _ < 8 by omega) (by decide)
            · rw [upd_same, dig_S wn, List.take_add_one, hj]
              show _ = some (HO.lst (List.map V.str (((gt.2.take k ++ [wn]).map dig).map SX.S)))
              rw [List.map_append, List.map_append, List.map_append]
              rfl
        · rintro H3 ⟨s4, hL⟩
          rw [List.length_map, List.length_map, List.take_length] at hL
          have s24 : Same H2 H3 := s3.trans fun b o e => hd1_le _ _ (s4 _ _ e)
          have hp1 := hd1_le _ _ (s4 _ _ (show (upd H2 p1 (.lst [V.str (tabOf gt.1)])) p1 = _ from upd_same))
          have g3 := gtS.2.1
          refine ⟨p1, L, _, _, rfl, rfl, hp1, hL, ?_, fun qq nq => ?_⟩
          · rw [List.length_map, List.length_map, List.length_map]
            exact Nat.le_trans (show _ ≤ 8 by simp only [List.length_cons, List.length_nil]; omega) (by decide)
          have s5 := same_upd (o := HO.lst ([V.str (tabOf gt.1)] ++ List.map V.str ((gt.2.map dig).map SX.S))) nq
          refine ⟨Str.ofString " ", qq, SX.S (gt.1.map sgn) :: (gt.2.map dig).map SX.S, rfl, rfl, .inl (SqL.of upd_same), ?_, ?_⟩
          · refine lens_ok (k := 8) (n := 4) (gt.1.map sgn :: gt.2.map dig) (fun p hp => ?_) ?_ (by decide) sp_1
            rotate_left
            · rw [List.length_cons, List.length_map]
              omega
            · rcases List.mem_cons.mp hp with rfl | hp
              · rw [List.length_map]; exact gtS.1
              · obtain ⟨wn, hw, rfl⟩ := List.mem_map.mp hp
                have := (dig_ok (gtS.2.2 wn hw)).2.1
                omega
          rw [line_join]
          have hR3 := s5 _ _ (s24 _ _ hR)
          refine ⟨R, _, _, rfl, rfl, hR3, ?_, ?_⟩
          · rw [List.length_map, List.length_cons, List.length_map, List.length_map, List.length_take]
            exact Nat.lt_of_lt_of_le (show _ < 500 by omega) (by decide)
          · refine ⟨_, _, rfl, s2.trans ((hd1_same (s24.trans s5)).trans hd1_upd), ?_⟩
            rw [upd_same, List.take_add_one, hgt]
            show _ = some (HO.lst (List.map V.str (SX.S (inpL ++ dig many) :: ((gs.take j ++ [gt]).map lineL).map SX.S)))
            rw [List.map_append, List.map_append, ← List.cons_append, List.map_append]
            rfl
      · rintro σ H2 ⟨y5', y7, rfl, s2, hR⟩
        have s12 : Same H1 H2 := fun b o e => hd1_le _ _ (s2 _ _ e)
        rw [al, List.take_length] at hR
        refine ⟨.int many, rfl, .ref G, rfl, G, _, rfl, .inl ⟨SqL.of (s12 _ _ hG), fun tq ntq => ⟨sl2, fun nr nnr => ?_⟩⟩⟩
        have s3 := (same_upd (o := HO.tup acc) ntq).trans (same_upd (o := HO.tup [V.int many, .ref tq]) nnr)
        refine ⟨⟨_, rfl⟩, .ref R, rfl, Str.ofString "\n", R, SX.S (inpL ++ dig many) :: (gs.map lineL).map SX.S, rfl, rfl, .inl (SqL.of (s3 _ _ hR)), ?_, sl2, fun r nr' => ?_⟩
        · refine lens_ok (k := 21) (n := 400) ((inpL ++ dig many) :: gs.map lineL) (fun p hp => ?_) ?_ (by decide) nl_1
          rotate_left
          · rw [List.length_cons, List.length_map]
            omega
          · rcases List.mem_cons.mp hp with rfl | hp
            · rw [List.length_append]
              have := (dig_ok (n := many) (by omega)).2.1
              have : inpL.length = 7 := rfl
              omega
            · obtain ⟨g, hg, rfl⟩ := List.mem_map.mp hp
              exact line_len (gS g hg)
        rw [net_join]
        have s4 := same_upd (o := HO.tup [V.ref nr, V.str (SX.S (netL many gs))]) nr'
        have sA := (s12.trans s3).trans s4
        refine q r nr _ gs ((D1.same sA).mono (by omega)) (fr1.trans (Fr.of sA)) upd_same ?_ (by omega) (by omega) ok
        exact (Tk.tup upd_same (.cons (.int _) (.cons (.tup (same_upd nnr _ _ upd_same) ((tg.same s12).same s3)) .nil))).same s4

end
end Gk

set_option Elab.async false
set_option linter.all false
set_option maxRecDepth 100000
set_option maxHeartbeats 0
namespace Gk
open PySem PySem.Spec PyProof.Rows L2
/-! ### comparing, cutting and joining data of tuples -/
mutual
theorem Tk.dp {K : PySem.W.Frag} {H : Hp} : ∀ {v : V} {d : PyData}, Tk H v d → Dp K H v d
  | _, _, .bl b => .bl b
  | _, _, .int i => .int i
  | _, _, .str x => .str x
  | _, _, .lst h t => .lst (SqL.of h) t.dp
  | _, _, .tup h t => .tup (SqT.of h) t.dp
theorem TkAll.dp {K : PySem.W.Frag} {H : Hp} : ∀ {vs : List V} {ds : List PyData}, TkAll H vs ds → DpAll K H vs ds
  | _, _, .nil => .nil
  | _, _, .cons h t => .cons h.dp t.dp
end
theorem ne_same {K : PySem.W.Frag} {H : Hp} {x y : V} {d : PyData} {Q : VK} (hx : Dp K H x d) (hy : Dp K H y d) (sh : SeqAt.shaped d = true) (q : Q (.bl false) H) : rNeD K x y H Q := by
  refine ⟨d, d, hx, hy, sh, sh, ?_⟩
  rw [SeqAt.eqv_refl d (SeqAt.canLay_of_shaped sh)]
  exact q
theorem eq_same {K : PySem.W.Frag} {H : Hp} {x y : V} {d : PyData} {Q : VK} (hx : Dp K H x d) (hy : Dp K H y d) (sh : SeqAt.shaped d = true) (q : Q (.bl true) H) : rEqD K x y H Q := by
  refine ⟨d, d, hx, hy, sh, sh, ?_⟩
  rw [SeqAt.eqv_refl d (SeqAt.canLay_of_shaped sh)]
  exact q
theorem lay_words (ws : List Wd) : PyData.canLayAll0 (ws.map wD) = true := by
  induction ws with
  | nil => rfl
  | cons w r ih =>
    show (PyData.canLay0 (wD w) && PyData.canLayAll0 (r.map wD)) = true
    rw [ih]
    rfl
theorem depth_words (ws : List Wd) : PyData.depthAll (ws.map wD) ≤ 2 := by
  induction ws with
  | nil => exact Nat.zero_le _
  | cons w r ih =>
    show max (PyData.depth (wD w)) (PyData.depthAll (r.map wD)) ≤ 2
    exact Nat.max_le.mpr ⟨Nat.le_of_lt (show 1 < 2 by decide), ih⟩
theorem sh_words (ws : List Wd) : SeqAt.shaped (.tuple (ws.map wD)) = true := by
  unfold SeqAt.shaped
  rw [Bool.and_eq_true]
  refine ⟨lay_words ws, decide_eq_true ?_⟩
  have := depth_words ws
  show PyData.depthAll (ws.map wD) + 1 ≤ 64
  omega

section
variable {P : Program} {w : World} {K : PySem.W.Frag} {mg : Str → Option Value} {base : Heap}
theorem tab_fr {H H' : Hp} {d l P : Addr} {n : Int} (D : DeckB H d l n) (f : Fr d l H H') (t : GxR.TabG H P) : GxR.TabG H' P := by
  obtain ⟨ps, e, tr⟩ := t
  obtain ⟨ne, cs, z, y, hd, hl, r⟩ := D
  exact ⟨ps, f _ _ (ne_of e hd (by intro z; cases z)) (ne_of e hl (by intro z; cases z)) e, tr⟩
theorem Tabs.fr {H H' : Hp} {Ps : List Addr} {d l : Addr} {n : Int} (t : Tabs H Ps) (D : DeckB H d l n) (f : Fr d l H H') : Tabs H' Ps := fun P hP => tab_fr D f (t P hP)
theorem Tabs.gr {H H' : Hp} {Ps : List Addr} (t : Tabs H Ps) (g : Gr H H') : Tabs H' Ps := fun P hP => g.2 _ (t P hP)
theorem tabsR {T : Tx K mg} {H : Hp} (t : Tabs H T.tabs) : TabsR T H := ⟨⟨t _ (by simp [Tx.tabs]), t _ (by simp [Tx.tabs]), t _ (by simp [Tx.tabs])⟩, t _ (by simp [Tx.tabs])⟩
theorem tabW {T : Tx K mg} {H : Hp} (t : Tabs H T.tabs) : GxR.TabG H T.P_words_of := t _ (by simp [Tx.tabs])
theorem lay_nums (ns : List Int) : PyData.canLayAll0 (ns.map PyData.int) = true := by
  induction ns with
  | nil => rfl
  | cons x r ih => exact ih
theorem lay_tab (bs : List Bool) : PyData.strOk (tabOf bs) = true := by
  unfold PyData.strOk
  rw [← Array.all_toList]
  refine List.all_eq_true.mpr fun c hc => ?_
  rcases sgn_mem (bs := bs) hc with rfl | rfl <;> decide
theorem lay_gates (gs : List Gt) : PyData.canLayAll0 (gs.map gD) = true := by
  induction gs with
  | nil => rfl
  | cons g r ih =>
    show ((PyData.strOk (tabOf g.1) && (PyData.canLayAll0 ((g.2.map Int.ofNat).map PyData.int) && true)) && PyData.canLayAll0 (r.map gD)) = true
    rw [ih, lay_tab, lay_nums]
    rfl
theorem depth_nums (ns : List Int) : PyData.depthAll (ns.map PyData.int) ≤ 1 := by
  induction ns with
  | nil => exact Nat.zero_le _
  | cons x r ih => exact Nat.max_le.mpr ⟨(show 0 ≤ 1 by decide), ih⟩
theorem depth_gates (gs : List Gt) : PyData.depthAll (gs.map gD) ≤ 5 := by
  induction gs with
  | nil => exact Nat.zero_le _
  | cons g r ih =>
    refine Nat.max_le.mpr ⟨?_, ih⟩
    have := depth_nums (g.2.map Int.ofNat)
    show max 0 (max (PyData.depthAll ((g.2.map Int.ofNat).map PyData.int) + 1) 0) + 1 ≤ 5
    omega
theorem sh_net (m : Int) (gs : List Gt) : SeqAt.shaped (netD m gs) = true := by
  unfold SeqAt.shaped
  rw [Bool.and_eq_true]
  refine ⟨?_, decide_eq_true ?_⟩
  · show (true && (PyData.canLayAll0 (gs.map gD) && true)) = true
    rw [lay_gates]
    rfl
  · have := depth_gates gs
    show max 0 (max (PyData.depthAll (gs.map gD) + 1) 0) + 1 ≤ 64
    omega
def sp_long_right (T : Tx K mg) : Sp := fun vs H Q _ => ∃ (d l : Addr) (n : Int), vs = [.ref d] ∧ DeckB H d l n ∧ n < 500 ∧ Tabs H T.tabs ∧ ∀ H', DeckB H' d l (n + 11000) → Tabs H' T.tabs → Q (.bl true) H'
theorem ok_long_right (T : Tx K mg) (B : Tb base T) : FnOk P w K mg base CX0 7 T.f_long_right T.fd_long_right ["_law_deck_here"] (sp_long_right T) := by
  refine T.F_long_right.ok sc_long_right (fun vs H Q E h => ?_) (fun cdv A outer s H vs Q E hr h => ?_)
  · obtain ⟨d, l, n, rfl, _⟩ := h
    rfl
  · obtain ⟨d, l, n, rfl, D, hn, tabs, q⟩ := h
    refine ⟨_, (pss_cons (ps_set (i := 1) sc_long_right.nd rfl (by first | exact .inl rfl | exact .inr rfl) (pe_op op_add pe_int (pe_call (ok_draw T) (hr.mono (by decide)) (by rfl) T.g_draw T.F_draw.kp T.b_draw .nil pass0 (pa_cons (pv 0) (pa_cons pe_int pa_nil))))) (pss_cons (ps_asg (pe_call (ok_long T) (hr.mono (by decide)) (by rfl) T.g_long T.F_long.kp T.b_long .nil pass0 (pa_cons (pv 0) (pa_cons (pv 1) pa_nil))) (pg_tup rfl (pgs_cons (pg_name (i := 2) sc_long_right.nd rfl (by first | exact .inl rfl | exact .inr rfl)) (pgs_cons (pg_name (i := 3) sc_long_right.nd rfl (by first | exact .inl rfl | exact .inr rfl)) pgs_nil)))) (pss_cons (ps_set (i := 4) sc_long_right.nd rfl (by first | exact .inl rfl | exact .inr rfl) (pe_call (ok_change T) (hr.mono (by decide)) (by rfl) T.g_change T.F_change.kp T.b_change .nil pass0 (pa_cons (pv 0) (pa_cons (pv 1) pa_nil)))) (pss_cons (ps_set (i := 5) sc_long_right.nd rfl (by first | exact .inl rfl | exact .inr rfl) (pe_call (ok_read_net T B) (hr.mono (by decide)) (by rfl) T.g_read_net T.F_read_net.kp T.b_read_net .nil pass0 (pa_cons (pv 3) pa_nil))) (pss_one (ps_ret (pe_and (pe_cmpR (op_eqD hr.units) (pv 5) (pv 2) (nomark _)) (pe_one (pe_call (ok_same T) (hr.mono (by decide)) (by rfl) T.g_same T.F_same.kp T.b_same .nil pass0 (pa_cons (pe_call (ok_words_of T B) (hr.mono (by decide)) (by rfl) T.g_words_of T.F_words_of.kp T.b_words_of .nil pass0 (pa_cons (pv 5) (pa_cons (pv 4) pa_nil))) (pa_cons (pe_call (ok_words T) (hr.mono (by decide)) (by rfl) T.g_words T.F_words.kp T.b_words .nil pass0 (pa_cons (pv 2) (pa_cons (pv 4) pa_nil))) pa_nil))))))))))), ?_⟩
    refine ⟨.ref d, rfl, d, l, 6, _, rfl, D, by omega, by decide, by decide, fun H1 x D1 fr1 x0 x1 => ⟨_, _, rfl, rfl, ?_⟩⟩
    have t1 := tabs.fr D fr1
    obtain ⟨m, hm, m1, m6⟩ : ∃ m : Nat, 1 + x = (m : Int) ∧ 1 ≤ m ∧ m ≤ 6 := ⟨(1 + x).toNat, by omega, by omega, by omega⟩
    have em : (fun i j : Int => V.int (i + j)) 1 x = V.int m := by
      show V.int (1 + x) = _
      rw [hm]
    rw [em]
    refine ⟨.ref d, rfl, .int m, rfl, d, l, _, m, rfl, D1, by omega, m1, m6, fun r nr H2 gs D2 fr2 hr2 tn l1 l3 ok => ?_⟩
    have t2 := t1.fr D1 fr2
    refine ⟨r, _, rfl, SqT.of hr2, rfl, _, _, rfl, _, _, rfl, rfl, ?_⟩
    refine ⟨.ref d, rfl, .int m, rfl, d, l, _, m, rfl, D2, by omega, m1, m6, fun cr H3 ra rb D3 fr3 tc la lb ha hb => ?_⟩
    have t3 := t2.fr D2 fr3
    have tn3 := tn.ts (Ts.fr D2 fr3) (noL_net _ _)
    refine ⟨.str (SX.S (netL m gs)), rfl, m, gs, rfl, m1, m6, l1, by omega, ok, tabsR t3, fun fr H4 g4 tf => ?_⟩
    have t4 := t3.gr g4
    refine ⟨.ref fr, rfl, .ref nr, rfl, eq_same tf.dp (tn3.gr g4).dp (sh_net _ _) ?_⟩
    refine ⟨_, rfl, iteT ?_⟩
    subst la
    refine ⟨.ref fr, rfl, .ref cr, rfl, .ref fr, .ref cr, _, gs, ra, rb, rfl, tf, tc.gr g4, by omega, ha, hb, by omega, by omega, ok, tabW t4, fun r5 H5 g5 tw5 => ?_⟩
    refine ⟨.ref nr, rfl, .ref cr, rfl, .ref nr, .ref cr, _, gs, ra, rb, rfl, (tn3.gr g4).gr g5, (tc.gr g4).gr g5, by omega, ha, hb, by omega, by omega, ok, fun r6 H6 s6 tw6 => ?_⟩
    refine ⟨.ref r5, .ref r6, _, rfl, dd_words ?_, tw5.same s6, tw6, fun H7 s7 => ?_⟩
    · rw [wordsM_len, w0_len (by omega)]
      omega
    · have g7 := (g5.trans (Gr.of s6)).trans (Gr.of s7)
      exact q H7 (((D3.gr g4).gr g7).mono (by omega)) (t4.gr g7)
def sp_law (K : PySem.W.Frag) (Ps : List Addr) : Sp := fun vs H Q _ => ∃ (a : Addr) (ns : List Int), vs = [.ref a] ∧ SqL K H a (ns.map V.int) ∧ ns.length ≤ 63 ∧ Tabs H Ps ∧ ∀ H', Q (.bl true) H'
theorem ok_law (T : Tx K mg) (B : Tb base T) : FnOk P w K mg base CX0 8 T.f_law T.fd_law ["_law_script"] (sp_law K T.tabs) := by
  refine T.F_law.ok sc_law (fun vs H Q E h => ?_) (fun cdv A outer s H vs Q E hr h => ?_)
  · obtain ⟨a, ns, rfl, _⟩ := h
    rfl
  · obtain ⟨a, ns, rfl, hS, hlen, tabs, q⟩ := h
    refine ⟨_, (pss_cons (ps_set (i := 1) sc_law.nd rfl (by first | exact .inl rfl | exact .inr rfl) (pe_call (ok_deck T) (hr.mono (by decide)) (by rfl) T.g_deck T.F_deck.kp T.b_deck .nil pass0 (pa_cons (pv 0) pa_nil))) (pss_cons (ps_if (pt_cut (pw_and (pt_cmpR op_eq (pe_call (ok_draw T) (hr.mono (by decide)) (by rfl) T.g_draw T.F_draw.kp T.b_draw .nil pass0 (pa_cons (pv 1) (pa_cons pe_int pa_nil))) pe_int (nomark _)) (pw_and1 (pt_not (pt_val (pe_call (ok_long_right T B) (hr.mono (by decide)) (by rfl) T.g_long_right T.F_long_right.kp T.b_long_right .nil pass0 (pa_cons (pv 1) pa_nil)))))).pt) (pss_one (ps_ret pe_bl)) pss_nil) (pss_cons (ps_for PassesOwn.never rfl (pi_range1 (by rfl) T.m_range (pa_cons pe_int pa_nil)) (pg_name (i := 2) sc_law.nd rfl (by first | exact .inl rfl | exact .inr rfl)) (pss_cons (ps_set (i := 3) sc_law.nd rfl (by first | exact .inl rfl | exact .inr rfl) (pe_call (ok_draw T) (hr.mono (by decide)) (by rfl) T.g_draw T.F_draw.kp T.b_draw .nil pass0 (pa_cons (pv 1) (pa_cons pe_int pa_nil)))) (pss_cons (ps_set (i := 4) sc_law.nd rfl (by first | exact .inl rfl | exact .inr rfl) (pe_ix ix_list (pe_lst (pa_cons (pe_op op_add pe_int (pe_call (ok_draw T) (hr.mono (by decide)) (by rfl) T.g_draw T.F_draw.kp T.b_draw .nil pass0 (pa_cons (pv 1) (pa_cons pe_int pa_nil)))) (pa_cons pe_int pa_nil))) (pe_callTy call_int1 (by rfl) T.m_int (by decide +kernel) (pa_cons (pe_cmpR op_eq (pe_call (ok_draw T) (hr.mono (by decide)) (by rfl) T.g_draw T.F_draw.kp T.b_draw .nil pass0 (pa_cons (pv 1) (pa_cons pe_int pa_nil))) pe_int (nomark _)) pa_nil)) (fun _ _ => rfl))) (pss_cons (ps_set (i := 5) sc_law.nd rfl (by first | exact .inl rfl | exact .inr rfl) (pe_op op_add pe_int (pe_call (ok_draw T) (hr.mono (by decide)) (by rfl) T.g_draw T.F_draw.kp T.b_draw .nil pass0 (pa_cons (pv 1) (pa_cons pe_int pa_nil))))) (pss_cons (ps_set (i := 6) sc_law.nd rfl (by first | exact .inl rfl | exact .inr rfl) (pe_call (ok_net T) (hr.mono (by decide)) (by rfl) T.g_net T.F_net.kp T.b_net .nil pass0 (pa_cons (pv 1) (pa_cons (pv 3) (pa_cons (pv 5) (pa_cons (pv 4) pa_nil)))))) (pss_cons (ps_set (i := 7) sc_law.nd rfl (by first | exact .inl rfl | exact .inr rfl) (pe_call (ok_change T) (hr.mono (by decide)) (by rfl) T.g_change T.F_change.kp T.b_change .nil pass0 (pa_cons (pv 1) (pa_cons (pv 5) pa_nil)))) (pss_cons (ps_set (i := 8) sc_law.nd rfl (by first | exact .inl rfl | exact .inr rfl) (pe_call (ok_words T) (hr.mono (by decide)) (by rfl) T.g_words T.F_words.kp T.b_words .nil pass0 (pa_cons (pv 6) (pa_cons (pv 7) pa_nil)))) (pss_one (ps_if (pw_or (pt_not (pt_val (pe_call (ok_same T) (hr.mono (by decide)) (by rfl) T.g_same T.F_same.kp T.b_same .nil pass0 (pa_cons (pe_call (ok_words_of T B) (hr.mono (by decide)) (by rfl) T.g_words_of T.F_words_of.kp T.b_words_of .nil pass0 (pa_cons (pv 6) (pa_cons (pv 7) pa_nil))) (pa_cons (pv 8) pa_nil))))) (pw_or1 (pt_cmpR (op_neD hr.units) (pe_call (ok_words_of T B) (hr.mono (by decide)) (by rfl) T.g_words_of T.F_words_of.kp T.b_words_of .nil pass0 (pa_cons (pv 6) (pa_cons (pv 7) pa_nil))) (pv 8) (nomark _)))).pt (pss_one (ps_ret pe_bl)) pss_nil))))))))) (pss_one (ps_ret pe_bl))))), ?_⟩
    refine ⟨.ref a, rfl, a, ns, rfl, hS, hlen, fun H1 d l s1 D1 => ?_⟩
    have t1 : Tabs H1 T.tabs := tabs.gr (Gr.of s1)
    -- the long one
    refine ⟨fun b H' => b = false ∧ DeckB H' d l 12000 ∧ Tabs H' T.tabs, ?_, ?_⟩
    · refine ⟨.ref d, rfl, d, l, 16, _, rfl, D1, by decide, by decide, by decide, fun H2 v D2 fr2 v0 v1 => ⟨rfl, _, rfl, ite2 (fun _ => ?_) (fun _ => ⟨rfl, D2.mono (by omega), t1.fr D1 fr2⟩)⟩⟩
      exact ⟨.ref d, rfl, d, l, _, rfl, D2, by omega, t1.fr D1 fr2, fun H3 D3 t3 => ⟨_, rfl, rfl, D3.mono (by omega), t3⟩⟩
    rintro b H2 ⟨rfl, D2, t2⟩
    refine iteF ?_
    refine ⟨3, rfl, by decide, by decide, ?_⟩
    refine for_range (lo := 0) (n := (3 : Int).toNat) (fun i σ H' => ∃ y2 y3 y4 y5 y6 y7 y8, σ = [some (.ref a), some (.ref d), y2, y3, y4, y5, y6, y7, y8] ∧ DeckB H' d l (12000 + 1000 * i) ∧ Tabs H' T.tabs) ⟨_, _, _, _, _, _, _, rfl, D2.mono (by omega), t2⟩ ?_ ?_
    · rintro i σ H3 hi ⟨y2, y3, y4, y5, y6, y7, y8, rfl, D3, t3⟩
      have hi' : i < 3 := hi
      refine ⟨.ref d, rfl, d, l, 4, _, rfl, D3, by omega, by decide, by decide, fun H4 way D4 fr4 w0 w1 => ?_⟩
      have t4 := t3.fr D3 fr4
      refine ⟨.ref d, rfl, d, l, 8, _, rfl, D4, by omega, by decide, by decide, fun H5 v D5 fr5 v0 v1 => ⟨_, _, rfl, rfl, sl2, fun p np => ?_⟩⟩
      have D5' := D5.same (same_upd (o := HO.lst [V.int (1 + v), .int 40]) np)
      have op := D5.off np
      refine ⟨.ref d, rfl, d, l, 8, _, rfl, D5', by omega, by decide, by decide, fun H6 u D6 fr6 u0 u1 => ?_⟩
      have hp6 := fr6 _ _ op.1 op.2 (show (upd H5 p (.lst [.int (1 + v), .int 40])) p = some (.lst [.int (1 + v), .int 40]) from upd_same)
      have t6 := ((t4.fr D4 fr5).gr (Gr.none (o := HO.lst [V.int (1 + v), .int 40]) np)).fr D5' fr6
      obtain ⟨cn, hcn, c1, c40⟩ : ∃ cn : Nat, atI [V.int (1 + v), V.int 40] (if decide (V.int u = V.int 5) = true then 1 else 0) = some (.int (cn : Int)) ∧ 1 ≤ cn ∧ cn ≤ 40 := by
        cases decide (V.int u = V.int 5) with
        | true => exact ⟨40, rfl, by decide, by decide⟩
        | false =>
          refine ⟨(1 + v).toNat, ?_, by omega, by omega⟩
          show some (V.int (1 + v)) = _
          rw [Int.toNat_of_nonneg (by omega)]
      refine ⟨rfl, .inr ⟨_, rfl, p, _, _, _, rfl, rfl, SqL.of hp6, hcn, ?_⟩⟩
      refine ⟨.ref d, rfl, d, l, 6, _, rfl, D6, by omega, by decide, by decide, fun H7 x D7 fr7 x0 x1 => ⟨_, _, rfl, rfl, ?_⟩⟩
      have t7 := t6.fr D6 fr7
      obtain ⟨m, hm, m1, m6⟩ : ∃ m : Nat, 1 + x = (m : Int) ∧ 1 ≤ m ∧ m ≤ 6 := ⟨(1 + x).toNat, by omega, by omega, by omega⟩
      have em : (fun i j : Int => V.int (i + j)) 1 x = V.int m := by
        show V.int (1 + x) = _
        rw [hm]
      rw [em]
      refine ⟨.ref d, rfl, .int way, rfl, .int m, rfl, .int cn, rfl, d, l, 0, way, m, cn, rfl, d, l, _, m, cn, rfl, D7, by omega, m1, m6, c40, fun nr H8 gs D8 fr8 tn lg ok => ?_⟩
      have t8 := t7.fr D7 fr8
      refine ⟨.ref d, rfl, .int m, rfl, d, l, _, m, rfl, D8, by omega, m1, m6, fun cr H9 ra rb D9 fr9 tc la lb ha hb => ?_⟩
      have t9 := t8.fr D8 fr9
      have tn9 := tn.ts (Ts.fr D8 fr9) (noL_net _ _)
      subst la
      refine ⟨.ref nr, rfl, .ref cr, rfl, .ref nr, .ref cr, _, gs, ra, rb, rfl, tn9, tc, by omega, ha, hb, by omega, by omega, ok, fun r10 H10 s10 tw10 => ?_⟩
      have g10 := Gr.of s10
      refine ⟨.ref nr, rfl, .ref cr, rfl, .ref nr, .ref cr, _, gs, ra, rb, rfl, tn9.gr g10, tc.gr g10, by omega, ha, hb, by omega, by omega, ok, tabW (t9.gr g10), fun r11 H11 g11 tw11 => ?_⟩
      refine ⟨.ref r10, rfl, .ref r11, .ref r10, _, rfl, dd_words ?_, tw11, tw10.gr g11, fun H12 s12 => ⟨_, rfl, iteF ?_⟩⟩
      · rw [wordsM_len, w0_len (by omega)]
        omega
      have g12 := (g10.trans g11).trans (Gr.of s12)
      refine ⟨.ref nr, rfl, .ref cr, rfl, .ref nr, .ref cr, _, gs, ra, rb, rfl, tn9.gr g12, tc.gr g12, by omega, ha, hb, by omega, by omega, ok, tabW (t9.gr g12), fun r13 H13 g13 tw13 => ?_⟩
      have tw10' := (tw10.gr g11).gr ((Gr.of s12).trans g13)
      refine ⟨.ref r10, rfl, ne_same tw13.dp tw10'.dp (sh_words _) ⟨_, rfl, iteF ?_⟩⟩
      exact ⟨_, _, _, _, _, _, _, rfl, (D9.gr (g12.trans g13)).mono (by push_cast; omega), t9.gr (g12.trans g13)⟩
    · rintro σ H3 ⟨y2, y3, y4, y5, y6, y7, y8, rfl, _, _⟩
      exact q H3
end
def d_is_whole : He.DefD := ⟨("is_whole", none), "is_whole", "is_whole", defArgs s_is_whole, defBody s_is_whole, defScope s_is_whole, [], []⟩
def d_is_signs : He.DefD := ⟨("is_signs", none), "is_signs", "is_signs", defArgs s_is_signs, defBody s_is_signs, defScope s_is_signs, [], []⟩
def d_is_net : He.DefD := ⟨("is_net", none), "is_net", "is_net", defArgs s_is_net, defBody s_is_net, defScope s_is_net, [], []⟩
def d_is_gate : He.DefD := ⟨("is_gate", none), "is_gate", "is_gate", defArgs s_is_gate, defBody s_is_gate, defScope s_is_gate, [], []⟩
def d_choices_of : He.DefD := ⟨("choices_of", none), "choices_of", "choices_of", defArgs s_choices_of, defBody s_choices_of, defScope s_choices_of, [], []⟩
def d_table_worth : He.DefD := ⟨("table_worth", none), "table_worth", "table_worth", defArgs s_table_worth, defBody s_table_worth, defScope s_table_worth, [], []⟩
def d_pairs_of : He.DefD := ⟨("pairs_of", none), "pairs_of", "pairs_of", defArgs s_pairs_of, defBody s_pairs_of, defScope s_pairs_of, [], []⟩
def d_gate_word : He.DefD := ⟨("gate_word", none), "gate_word", "gate_word", defArgs s_gate_word, defBody s_gate_word, defScope s_gate_word, [], []⟩
def d_goes_fro : He.DefD := ⟨("goes_fro", none), "goes_fro", "goes_fro", defArgs s_goes_fro, defBody s_goes_fro, defScope s_goes_fro, [], []⟩
def d_pair_by : He.DefD := ⟨("pair_by", none), "pair_by", "pair_by", defArgs s_pair_by, defBody s_pair_by, defScope s_pair_by, [], []⟩
def d_words_of : He.DefD := ⟨("words_of", none), "words_of", "words_of", defArgs s_words_of, defBody s_words_of, defScope s_words_of, [], []⟩
def d_read_net : He.DefD := ⟨("read_net", none), "read_net", "read_net", defArgs s_read_net, defBody s_read_net, defScope s_read_net, [], []⟩
def d_read_head : He.DefD := ⟨("read_head", none), "read_head", "read_head", defArgs s_read_head, defBody s_read_head, defScope s_read_head, [], []⟩
def d_read_gate : He.DefD := ⟨("read_gate", none), "read_gate", "read_gate", defArgs s_read_gate, defBody s_read_gate, defScope s_read_gate, [], []⟩
def d_read_number : He.DefD := ⟨("read_number", none), "read_number", "read_number", defArgs s_read_number, defBody s_read_number, defScope s_read_number, [], []⟩
def d_deck : He.DefD := ⟨("_law_deck", none), "_law_deck", "_law_deck", defArgs s_deck, defBody s_deck, defScope s_deck, [], []⟩
def d_draw : He.DefD := ⟨("_law_draw", none), "_law_draw", "_law_draw", defArgs s_draw, defBody s_draw, defScope s_draw, [], []⟩
def d_table : He.DefD := ⟨("_law_table", none), "_law_table", "_law_table", defArgs s_table, defBody s_table, defScope s_table, [], []⟩
def d_formula : He.DefD := ⟨("_law_formula", none), "_law_formula", "_law_formula", defArgs s_formula, defBody s_formula, defScope s_formula, [], []⟩
def d_chain : He.DefD := ⟨("_law_chain", none), "_law_chain", "_law_chain", defArgs s_chain, defBody s_chain, defScope s_chain, [], []⟩
def d_shared : He.DefD := ⟨("_law_shared", none), "_law_shared", "_law_shared", defArgs s_shared, defBody s_shared, defScope s_shared, [], []⟩
def d_net : He.DefD := ⟨("_law_net", none), "_law_net", "_law_net", defArgs s_net, defBody s_net, defScope s_net, [], []⟩
def d_change : He.DefD := ⟨("_law_change", none), "_law_change", "_law_change", defArgs s_change, defBody s_change, defScope s_change, [], []⟩
def d_worth : He.DefD := ⟨("_law_worth", none), "_law_worth", "_law_worth", defArgs s_worth, defBody s_worth, defScope s_worth, [], []⟩
def d_may : He.DefD := ⟨("_law_may", none), "_law_may", "_law_may", defArgs s_may, defBody s_may, defScope s_may, [], []⟩
def d_word : He.DefD := ⟨("_law_word", none), "_law_word", "_law_word", defArgs s_word, defBody s_word, defScope s_word, [], []⟩
def d_words : He.DefD := ⟨("_law_words", none), "_law_words", "_law_words", defArgs s_words, defBody s_words, defScope s_words, [], []⟩
def d_same : He.DefD := ⟨("_law_same", none), "_law_same", "_law_same", defArgs s_same, defBody s_same, defScope s_same, [], []⟩
def d_long : He.DefD := ⟨("_law_long", none), "_law_long", "_law_long", defArgs s_long, defBody s_long, defScope s_long, [], []⟩
def d_long_right : He.DefD := ⟨("_law_long_right", none), "_law_long_right", "_law_long_right", defArgs s_long_right, defBody s_long_right, defScope s_long_right, [], []⟩
def d_law : He.DefD := ⟨("law", none), "law", "law", defArgs s_law, defBody s_law, defScope s_law, [], []⟩
def fn : List He.DefD := [d_is_whole, d_is_signs, d_is_net, d_is_gate, d_choices_of, d_table_worth, d_pairs_of, d_gate_word, d_goes_fro, d_pair_by, d_words_of, d_read_net, d_read_head, d_read_gate, d_read_number, d_deck, d_draw, d_table, d_formula, d_chain, d_shared, d_net, d_change, d_worth, d_may, d_word, d_words, d_same, d_long, d_long_right, d_law]
def fa : List He.Fa := [.glo "is_whole", .glo "is_signs", .glo "is_net", .glo "is_gate", .glo "choices_of", .glo "table_worth", .glo "pairs_of", .glo "gate_word", .glo "goes_fro", .glo "pair_by", .glo "words_of", .glo "read_net", .glo "read_head", .glo "read_gate", .glo "read_number", .glo "_law_deck", .glo "_law_draw", .glo "_law_table", .glo "_law_formula", .glo "_law_chain", .glo "_law_shared", .glo "_law_net", .glo "_law_change", .glo "_law_worth", .glo "_law_may", .glo "_law_word", .glo "_law_words", .glo "_law_same", .glo "_law_long", .glo "_law_long_right", .glo "law", .free "all", .free "bool", .free "enumerate", .free "int", .free "isinstance", .free "len", .free "list", .free "max", .free "range", .free "set", .free "sorted", .free "str", .free "sum", .free "tuple", .free "zip", .int "MOST_INPUTS" 6, .int "MOST_INS" 3, .int "MOST_FIGURES" 40]
def tf : List He.Defn := [("is_signs", none), ("is_net", none), ("is_gate", none), ("words_of", none), ("read_number", none)]
abbrev RR : PySem.W.OpenRow := PySem.W.OpenLaw.row PySem.Challenge.rw_glitchnet_k20_words_of_nets
def yes : PySem.W.Frag → Bool := fun _ => true
abbrev hk : PySem.W.Hook := He.hookX 4 fa fn [] tf yes
def ob (s : PySem.W.SharedT) : He.AlX := He.obsX 4 fa fn [] tf yes (HandSHeadRun.getT s)
theorem ob_eq (s : PySem.W.SharedT) : ob s = hk.obs s.abs := He.obsX_eq (HandSHeadRun.getT_eq s)
theorem run (w : World) : HandSHeadRun.RunEq RR (PySem.W.view RR.prog [42]) hk ob 3000 [("is_whole" : PySem.Str), ("is_signs" : PySem.Str), ("MOST_INPUTS" : PySem.Str), ("MOST_INS" : PySem.Str), ("is_net" : PySem.Str), ("is_gate" : PySem.Str), ("choices_of" : PySem.Str), ("table_worth" : PySem.Str), ("pairs_of" : PySem.Str), ("gate_word" : PySem.Str), ("goes_fro" : PySem.Str), ("pair_by" : PySem.Str), ("words_of" : PySem.Str), ("NetError" : PySem.Str), ("NoText" : PySem.Str), ("MOST_FIGURES" : PySem.Str), ("read_net" : PySem.Str), ("read_head" : PySem.Str), ("read_gate" : PySem.Str), ("read_number" : PySem.Str), ("_law_deck" : PySem.Str), ("_law_draw" : PySem.Str), ("_law_table" : PySem.Str), ("_law_formula" : PySem.Str), ("_law_chain" : PySem.Str), ("_law_shared" : PySem.Str), ("_law_net" : PySem.Str), ("_law_change" : PySem.Str), ("_law_worth" : PySem.Str), ("_law_may" : PySem.Str), ("_law_word" : PySem.Str), ("_law_words" : PySem.Str), ("_law_same" : PySem.Str), ("_law_long" : PySem.Str), ("_law_long_right" : PySem.Str)] w := by
  intro os
  kernel_rfl
theorem facts {w : World} {K : PySem.W.Frag} {h : Heap} {mg : Str → Option Value} {f : Addr} (X : K.In h) (G : h.Ns mainGlobals mg) (hfa : mg ("law" : Str) = some (.ref f)) (c : He.SaysX fa fn [] tf yes w h K) : LamX.LawAtS PySem.Challenge.rw_glitchnet_k20_words_of_nets w K CX0 8 63 "_law_script" mg f h := by
  obtain ⟨fd0, D0⟩ := c.t.d.def_ 0 (d := d_is_whole) rfl
  have F0 : Fun K "is_whole" "is_whole" s_is_whole (He.fAd K ("is_whole", none)) fd0 := fun_of D0
  have b0 := F0.binds (ps := ["thing"]) fun _ _ _ _ _ _ us hl => match us, hl with | [_], _ => rfl
  obtain ⟨fd1, D1⟩ := c.t.d.def_ 1 (d := d_is_signs) rfl
  have F1 : Fun K "is_signs" "is_signs" s_is_signs (He.fAd K ("is_signs", none)) fd1 := fun_of D1
  have b1 := F1.binds (ps := ["many", "thing"]) fun _ _ _ _ _ _ us hl => match us, hl with | [_, _], _ => rfl
  obtain ⟨fd2, D2⟩ := c.t.d.def_ 2 (d := d_is_net) rfl
  have F2 : Fun K "is_net" "is_net" s_is_net (He.fAd K ("is_net", none)) fd2 := fun_of D2
  have b2 := F2.binds (ps := ["thing"]) fun _ _ _ _ _ _ us hl => match us, hl with | [_], _ => rfl
  obtain ⟨fd3, D3⟩ := c.t.d.def_ 3 (d := d_is_gate) rfl
  have F3 : Fun K "is_gate" "is_gate" s_is_gate (He.fAd K ("is_gate", none)) fd3 := fun_of D3
  have b3 := F3.binds (ps := ["wires", "thing"]) fun _ _ _ _ _ _ us hl => match us, hl with | [_, _], _ => rfl
  obtain ⟨fd4, D4⟩ := c.t.d.def_ 4 (d := d_choices_of) rfl
  have F4 : Fun K "choices_of" "choices_of" s_choices_of (He.fAd K ("choices_of", none)) fd4 := fun_of D4
  have b4 := F4.binds (ps := ["lists"]) fun _ _ _ _ _ _ us hl => match us, hl with | [_], _ => rfl
  obtain ⟨fd5, D5⟩ := c.t.d.def_ 5 (d := d_table_worth) rfl
  have F5 : Fun K "table_worth" "table_worth" s_table_worth (He.fAd K ("table_worth", none)) fd5 := fun_of D5
  have b5 := F5.binds (ps := ["table", "worths"]) fun _ _ _ _ _ _ us hl => match us, hl with | [_, _], _ => rfl
  obtain ⟨fd6, D6⟩ := c.t.d.def_ 6 (d := d_pairs_of) rfl
  have F6 : Fun K "pairs_of" "pairs_of" s_pairs_of (He.fAd K ("pairs_of", none)) fd6 := fun_of D6
  have b6 := F6.binds (ps := ["word"]) fun _ _ _ _ _ _ us hl => match us, hl with | [_], _ => rfl
  obtain ⟨fd7, D7⟩ := c.t.d.def_ 7 (d := d_gate_word) rfl
  have F7 : Fun K "gate_word" "gate_word" s_gate_word (He.fAd K ("gate_word", none)) fd7 := fun_of D7
  have b7 := F7.binds (ps := ["table", "words"]) fun _ _ _ _ _ _ us hl => match us, hl with | [_, _], _ => rfl
  obtain ⟨fd8, D8⟩ := c.t.d.def_ 8 (d := d_goes_fro) rfl
  have F8 : Fun K "goes_fro" "goes_fro" s_goes_fro (He.fAd K ("goes_fro", none)) fd8 := fun_of D8
  have b8 := F8.binds (ps := ["table", "words", "first", "last"]) fun _ _ _ _ _ _ us hl => match us, hl with | [_, _, _, _], _ => rfl
  obtain ⟨fd9, D9⟩ := c.t.d.def_ 9 (d := d_pair_by) rfl
  have F9 : Fun K "pair_by" "pair_by" s_pair_by (He.fAd K ("pair_by", none)) fd9 := fun_of D9
  have b9 := F9.binds (ps := ["table", "pairs"]) fun _ _ _ _ _ _ us hl => match us, hl with | [_, _], _ => rfl
  obtain ⟨fd10, D10⟩ := c.t.d.def_ 10 (d := d_words_of) rfl
  have F10 : Fun K "words_of" "words_of" s_words_of (He.fAd K ("words_of", none)) fd10 := fun_of D10
  have b10 := F10.binds (ps := ["net", "change"]) fun _ _ _ _ _ _ us hl => match us, hl with | [_, _], _ => rfl
  obtain ⟨fd11, D11⟩ := c.t.d.def_ 11 (d := d_read_net) rfl
  have F11 : Fun K "read_net" "read_net" s_read_net (He.fAd K ("read_net", none)) fd11 := fun_of D11
  have b11 := F11.binds (ps := ["text"]) fun _ _ _ _ _ _ us hl => match us, hl with | [_], _ => rfl
  obtain ⟨fd12, D12⟩ := c.t.d.def_ 12 (d := d_read_head) rfl
  have F12 : Fun K "read_head" "read_head" s_read_head (He.fAd K ("read_head", none)) fd12 := fun_of D12
  have b12 := F12.binds (ps := ["line"]) fun _ _ _ _ _ _ us hl => match us, hl with | [_], _ => rfl
  obtain ⟨fd13, D13⟩ := c.t.d.def_ 13 (d := d_read_gate) rfl
  have F13 : Fun K "read_gate" "read_gate" s_read_gate (He.fAd K ("read_gate", none)) fd13 := fun_of D13
  have b13 := F13.binds (ps := ["line"]) fun _ _ _ _ _ _ us hl => match us, hl with | [_], _ => rfl
  obtain ⟨fd14, D14⟩ := c.t.d.def_ 14 (d := d_read_number) rfl
  have F14 : Fun K "read_number" "read_number" s_read_number (He.fAd K ("read_number", none)) fd14 := fun_of D14
  have b14 := F14.binds (ps := ["word"]) fun _ _ _ _ _ _ us hl => match us, hl with | [_], _ => rfl
  obtain ⟨fd15, D15⟩ := c.t.d.def_ 15 (d := d_deck) rfl
  have F15 : Fun K "_law_deck" "_law_deck" s_deck (He.fAd K ("_law_deck", none)) fd15 := fun_of D15
  have b15 := F15.binds (ps := ["_law_script"]) fun _ _ _ _ _ _ us hl => match us, hl with | [_], _ => rfl
  obtain ⟨fd16, D16⟩ := c.t.d.def_ 16 (d := d_draw) rfl
  have F16 : Fun K "_law_draw" "_law_draw" s_draw (He.fAd K ("_law_draw", none)) fd16 := fun_of D16
  have b16 := F16.binds (ps := ["_law_deck_here", "_law_most"]) fun _ _ _ _ _ _ us hl => match us, hl with | [_, _], _ => rfl
  obtain ⟨fd17, D17⟩ := c.t.d.def_ 17 (d := d_table) rfl
  have F17 : Fun K "_law_table" "_law_table" s_table (He.fAd K ("_law_table", none)) fd17 := fun_of D17
  have b17 := F17.binds (ps := ["_law_deck_here", "_law_ins"]) fun _ _ _ _ _ _ us hl => match us, hl with | [_, _], _ => rfl
  obtain ⟨fd18, D18⟩ := c.t.d.def_ 18 (d := d_formula) rfl
  have F18 : Fun K "_law_formula" "_law_formula" s_formula (He.fAd K ("_law_formula", none)) fd18 := fun_of D18
  have b18 := F18.binds (ps := ["_law_deck_here", "_law_many", "_law_count"]) fun _ _ _ _ _ _ us hl => match us, hl with | [_, _, _], _ => rfl
  obtain ⟨fd19, D19⟩ := c.t.d.def_ 19 (d := d_chain) rfl
  have F19 : Fun K "_law_chain" "_law_chain" s_chain (He.fAd K ("_law_chain", none)) fd19 := fun_of D19
  have b19 := F19.binds (ps := ["_law_deck_here", "_law_many", "_law_count"]) fun _ _ _ _ _ _ us hl => match us, hl with | [_, _, _], _ => rfl
  obtain ⟨fd20, D20⟩ := c.t.d.def_ 20 (d := d_shared) rfl
  have F20 : Fun K "_law_shared" "_law_shared" s_shared (He.fAd K ("_law_shared", none)) fd20 := fun_of D20
  have b20 := F20.binds (ps := ["_law_deck_here", "_law_many", "_law_count"]) fun _ _ _ _ _ _ us hl => match us, hl with | [_, _, _], _ => rfl
  obtain ⟨fd21, D21⟩ := c.t.d.def_ 21 (d := d_net) rfl
  have F21 : Fun K "_law_net" "_law_net" s_net (He.fAd K ("_law_net", none)) fd21 := fun_of D21
  have b21 := F21.binds (ps := ["_law_deck_here", "_law_way", "_law_many", "_law_count"]) fun _ _ _ _ _ _ us hl => match us, hl with | [_, _, _, _], _ => rfl
  obtain ⟨fd22, D22⟩ := c.t.d.def_ 22 (d := d_change) rfl
  have F22 : Fun K "_law_change" "_law_change" s_change (He.fAd K ("_law_change", none)) fd22 := fun_of D22
  have b22 := F22.binds (ps := ["_law_deck_here", "_law_many"]) fun _ _ _ _ _ _ us hl => match us, hl with | [_, _], _ => rfl
  obtain ⟨fd23, D23⟩ := c.t.d.def_ 23 (d := d_worth) rfl
  have F23 : Fun K "_law_worth" "_law_worth" s_worth (He.fAd K ("_law_worth", none)) fd23 := fun_of D23
  have b23 := F23.binds (ps := ["_law_table_here", "_law_worths"]) fun _ _ _ _ _ _ us hl => match us, hl with | [_, _], _ => rfl
  obtain ⟨fd24, D24⟩ := c.t.d.def_ 24 (d := d_may) rfl
  have F24 : Fun K "_law_may" "_law_may" s_may (He.fAd K ("_law_may", none)) fd24 := fun_of D24
  have b24 := F24.binds (ps := ["_law_word_here", "_law_pair"]) fun _ _ _ _ _ _ us hl => match us, hl with | [_, _], _ => rfl
  obtain ⟨fd25, D25⟩ := c.t.d.def_ 25 (d := d_word) rfl
  have F25 : Fun K "_law_word" "_law_word" s_word (He.fAd K ("_law_word", none)) fd25 := fun_of D25
  have b25 := F25.binds (ps := ["_law_table_here", "_law_words_here"]) fun _ _ _ _ _ _ us hl => match us, hl with | [_, _], _ => rfl
  obtain ⟨fd26, D26⟩ := c.t.d.def_ 26 (d := d_words) rfl
  have F26 : Fun K "_law_words" "_law_words" s_words (He.fAd K ("_law_words", none)) fd26 := fun_of D26
  have b26 := F26.binds (ps := ["_law_net_here", "_law_change_here"]) fun _ _ _ _ _ _ us hl => match us, hl with | [_, _], _ => rfl
  obtain ⟨fd27, D27⟩ := c.t.d.def_ 27 (d := d_same) rfl
  have F27 : Fun K "_law_same" "_law_same" s_same (He.fAd K ("_law_same", none)) fd27 := fun_of D27
  have b27 := F27.binds (ps := ["_law_found", "_law_due"]) fun _ _ _ _ _ _ us hl => match us, hl with | [_, _], _ => rfl
  obtain ⟨fd28, D28⟩ := c.t.d.def_ 28 (d := d_long) rfl
  have F28 : Fun K "_law_long" "_law_long" s_long (He.fAd K ("_law_long", none)) fd28 := fun_of D28
  have b28 := F28.binds (ps := ["_law_deck_here", "_law_many"]) fun _ _ _ _ _ _ us hl => match us, hl with | [_, _], _ => rfl
  obtain ⟨fd29, D29⟩ := c.t.d.def_ 29 (d := d_long_right) rfl
  have F29 : Fun K "_law_long_right" "_law_long_right" s_long_right (He.fAd K ("_law_long_right", none)) fd29 := fun_of D29
  have b29 := F29.binds (ps := ["_law_deck_here"]) fun _ _ _ _ _ _ us hl => match us, hl with | [_], _ => rfl
  obtain ⟨fd30, D30⟩ := c.t.d.def_ 30 (d := d_law) rfl
  have F30 : Fun K "law" "law" s_law (He.fAd K ("law", none)) fd30 := fun_of D30
  have b30 := F30.binds (ps := ["_law_script"]) fun _ _ _ _ _ _ us hl => match us, hl with | [_], _ => rfl
  have e := hfa.symm.trans (He.glo_ok X G (c.t.d.fact 30 (f := .glo "law") rfl))
  cases e
  let T : Tx K mg := { f_is_whole := _, fd_is_whole := _, F_is_whole := F0, g_is_whole := He.glo_ok X G (c.t.d.fact 0 (f := .glo "is_whole") rfl), b_is_whole := b0, f_is_signs := _, fd_is_signs := _, F_is_signs := F1, g_is_signs := He.glo_ok X G (c.t.d.fact 1 (f := .glo "is_signs") rfl), b_is_signs := b1, c_is_signs := (He.cT K ("is_signs", none)).1, P_is_signs := (He.cT K ("is_signs", none)).2, cd_is_signs := code_of F1, f_is_net := _, fd_is_net := _, F_is_net := F2, g_is_net := He.glo_ok X G (c.t.d.fact 2 (f := .glo "is_net") rfl), b_is_net := b2, c_is_net := (He.cT K ("is_net", none)).1, P_is_net := (He.cT K ("is_net", none)).2, cd_is_net := code_of F2, f_is_gate := _, fd_is_gate := _, F_is_gate := F3, g_is_gate := He.glo_ok X G (c.t.d.fact 3 (f := .glo "is_gate") rfl), b_is_gate := b3, c_is_gate := (He.cT K ("is_gate", none)).1, P_is_gate := (He.cT K ("is_gate", none)).2, cd_is_gate := code_of F3, f_choices_of := _, fd_choices_of := _, F_choices_of := F4, g_choices_of := He.glo_ok X G (c.t.d.fact 4 (f := .glo "choices_of") rfl), b_choices_of := b4, f_table_worth := _, fd_table_worth := _, F_table_worth := F5, g_table_worth := He.glo_ok X G (c.t.d.fact 5 (f := .glo "table_worth") rfl), b_table_worth := b5, f_pairs_of := _, fd_pairs_of := _, F_pairs_of := F6, g_pairs_of := He.glo_ok X G (c.t.d.fact 6 (f := .glo "pairs_of") rfl), b_pairs_of := b6, f_gate_word := _, fd_gate_word := _, F_gate_word := F7, g_gate_word := He.glo_ok X G (c.t.d.fact 7 (f := .glo "gate_word") rfl), b_gate_word := b7, f_goes_fro := _, fd_goes_fro := _, F_goes_fro := F8, g_goes_fro := He.glo_ok X G (c.t.d.fact 8 (f := .glo "goes_fro") rfl), b_goes_fro := b8, f_pair_by := _, fd_pair_by := _, F_pair_by := F9, g_pair_by := He.glo_ok X G (c.t.d.fact 9 (f := .glo "pair_by") rfl), b_pair_by := b9, f_words_of := _, fd_words_of := _, F_words_of := F10, g_words_of := He.glo_ok X G (c.t.d.fact 10 (f := .glo "words_of") rfl), b_words_of := b10, c_words_of := (He.cT K ("words_of", none)).1, P_words_of := (He.cT K ("words_of", none)).2, cd_words_of := code_of F10, f_read_net := _, fd_read_net := _, F_read_net := F11, g_read_net := He.glo_ok X G (c.t.d.fact 11 (f := .glo "read_net") rfl), b_read_net := b11, f_read_head := _, fd_read_head := _, F_read_head := F12, g_read_head := He.glo_ok X G (c.t.d.fact 12 (f := .glo "read_head") rfl), b_read_head := b12, f_read_gate := _, fd_read_gate := _, F_read_gate := F13, g_read_gate := He.glo_ok X G (c.t.d.fact 13 (f := .glo "read_gate") rfl), b_read_gate := b13, f_read_number := _, fd_read_number := _, F_read_number := F14, g_read_number := He.glo_ok X G (c.t.d.fact 14 (f := .glo "read_number") rfl), b_read_number := b14, c_read_number := (He.cT K ("read_number", none)).1, P_read_number := (He.cT K ("read_number", none)).2, cd_read_number := code_of F14, f_deck := _, fd_deck := _, F_deck := F15, g_deck := He.glo_ok X G (c.t.d.fact 15 (f := .glo "_law_deck") rfl), b_deck := b15, f_draw := _, fd_draw := _, F_draw := F16, g_draw := He.glo_ok X G (c.t.d.fact 16 (f := .glo "_law_draw") rfl), b_draw := b16, f_table := _, fd_table := _, F_table := F17, g_table := He.glo_ok X G (c.t.d.fact 17 (f := .glo "_law_table") rfl), b_table := b17, f_formula := _, fd_formula := _, F_formula := F18, g_formula := He.glo_ok X G (c.t.d.fact 18 (f := .glo "_law_formula") rfl), b_formula := b18, f_chain := _, fd_chain := _, F_chain := F19, g_chain := He.glo_ok X G (c.t.d.fact 19 (f := .glo "_law_chain") rfl), b_chain := b19, f_shared := _, fd_shared := _, F_shared := F20, g_shared := He.glo_ok X G (c.t.d.fact 20 (f := .glo "_law_shared") rfl), b_shared := b20, f_net := _, fd_net := _, F_net := F21, g_net := He.glo_ok X G (c.t.d.fact 21 (f := .glo "_law_net") rfl), b_net := b21, f_change := _, fd_change := _, F_change := F22, g_change := He.glo_ok X G (c.t.d.fact 22 (f := .glo "_law_change") rfl), b_change := b22, f_worth := _, fd_worth := _, F_worth := F23, g_worth := He.glo_ok X G (c.t.d.fact 23 (f := .glo "_law_worth") rfl), b_worth := b23, f_may := _, fd_may := _, F_may := F24, g_may := He.glo_ok X G (c.t.d.fact 24 (f := .glo "_law_may") rfl), b_may := b24, f_word := _, fd_word := _, F_word := F25, g_word := He.glo_ok X G (c.t.d.fact 25 (f := .glo "_law_word") rfl), b_word := b25, f_words := _, fd_words := _, F_words := F26, g_words := He.glo_ok X G (c.t.d.fact 26 (f := .glo "_law_words") rfl), b_words := b26, f_same := _, fd_same := _, F_same := F27, g_same := He.glo_ok X G (c.t.d.fact 27 (f := .glo "_law_same") rfl), b_same := b27, f_long := _, fd_long := _, F_long := F28, g_long := He.glo_ok X G (c.t.d.fact 28 (f := .glo "_law_long") rfl), b_long := b28, f_long_right := _, fd_long_right := _, F_long_right := F29, g_long_right := He.glo_ok X G (c.t.d.fact 29 (f := .glo "_law_long_right") rfl), b_long_right := b29, f_law := _, fd_law := _, F_law := F30, g_law := He.glo_ok X G (c.t.d.fact 30 (f := .glo "law") rfl), b_law := b30, m_all := He.free_ok X G (c.t.d.fact 31 (f := .free "all") rfl), m_bool := He.free_ok X G (c.t.d.fact 32 (f := .free "bool") rfl), m_enumerate := He.free_ok X G (c.t.d.fact 33 (f := .free "enumerate") rfl), m_int := He.free_ok X G (c.t.d.fact 34 (f := .free "int") rfl), m_isinstance := He.free_ok X G (c.t.d.fact 35 (f := .free "isinstance") rfl), m_len := He.free_ok X G (c.t.d.fact 36 (f := .free "len") rfl), m_list := He.free_ok X G (c.t.d.fact 37 (f := .free "list") rfl), m_max := He.free_ok X G (c.t.d.fact 38 (f := .free "max") rfl), m_range := He.free_ok X G (c.t.d.fact 39 (f := .free "range") rfl), m_set := He.free_ok X G (c.t.d.fact 40 (f := .free "set") rfl), m_sorted := He.free_ok X G (c.t.d.fact 41 (f := .free "sorted") rfl), m_str := He.free_ok X G (c.t.d.fact 42 (f := .free "str") rfl), m_sum := He.free_ok X G (c.t.d.fact 43 (f := .free "sum") rfl), m_tuple := He.free_ok X G (c.t.d.fact 44 (f := .free "tuple") rfl), m_zip := He.free_ok X G (c.t.d.fact 45 (f := .free "zip") rfl), k_MOST_INPUTS := He.int_ok X G (c.t.d.fact 46 (f := .int "MOST_INPUTS" 6) rfl), k_MOST_INS := He.int_ok X G (c.t.d.fact 47 (f := .int "MOST_INS" 3) rfl), k_MOST_FIGURES := He.int_ok X G (c.t.d.fact 48 (f := .int "MOST_FIGURES" 40) rfl) }
  refine ⟨fd30, tf.map (He.cT K), sp_law K T.tabs, ?_, ?_, ?_, ?_, ?_, ?_⟩
  · rintro p hp
    obtain ⟨d, hd, rfl⟩ := List.mem_map.mp hp
    exact c.empty d hd
  · rintro p hp
    obtain ⟨d, hd, rfl⟩ := List.mem_map.mp hp
    exact c.out d hd
  · rintro p hp
    obtain ⟨d, hd, rfl⟩ := List.mem_map.mp hp
    exact PySem.W.codeHd_of_K X (c.hd d hd)
  · obtain ⟨oc, od, kV, doc, pm, an, cdv, ct, osl, rfl, lk, hcd⟩ := F30.ex
    exact fun s v => .of_eq rfl
  · intro H a ns hl hbits hT hS
    refine ⟨a, ns, rfl, hS, hl, fun P hP => ?_, fun _ => rfl⟩
    have hP : P ∈ (tf.map (He.cT K)).map (·.2) := hP
    obtain ⟨p, hp, rfl⟩ := List.mem_map.mp hP
    exact ⟨#[], hT p hp, by trivial⟩
  · intro base KB GB hTB
    have B : Tb base T := ⟨tab_of (hTB (He.cT K ("is_signs", none)) (List.mem_map.mpr ⟨_, (show (("is_signs", none) : He.Defn) ∈ tf by decide), rfl⟩)), tab_of (hTB (He.cT K ("is_net", none)) (List.mem_map.mpr ⟨_, (show (("is_net", none) : He.Defn) ∈ tf by decide), rfl⟩)), tab_of (hTB (He.cT K ("is_gate", none)) (List.mem_map.mpr ⟨_, (show (("is_gate", none) : He.Defn) ∈ tf by decide), rfl⟩)), tab_of (hTB (He.cT K ("words_of", none)) (List.mem_map.mpr ⟨_, (show (("words_of", none) : He.Defn) ∈ tf by decide), rfl⟩)), tab_of (hTB (He.cT K ("read_number", none)) (List.mem_map.mpr ⟨_, (show (("read_number", none) : He.Defn) ∈ tf by decide), rfl⟩))⟩
    exact ok_law T B
end Gk
open PySem PySem.W PyProof.Rows
set_option maxRecDepth 100000 in
set_option maxHeartbeats 0 in
theorem PySem.Challenge.cw_glitchnet_k20_words_of_nets_holds : PySem.Challenge.rw_glitchnet_k20_words_of_nets.Holds := by
  w_on; o_law
  refine HandSHeadRun.head_any (r := OpenLaw.row PySem.Challenge.rw_glitchnet_k20_words_of_nets) (q := view (OpenLaw.row PySem.Challenge.rw_glitchnet_k20_words_of_nets).prog [42]) (H := Gk.hk) (ob := Gk.ob) (M := 3000) (loose := [("is_whole" : PySem.Str), ("is_signs" : PySem.Str), ("MOST_INPUTS" : PySem.Str), ("MOST_INS" : PySem.Str), ("is_net" : PySem.Str), ("is_gate" : PySem.Str), ("choices_of" : PySem.Str), ("table_worth" : PySem.Str), ("pairs_of" : PySem.Str), ("gate_word" : PySem.Str), ("goes_fro" : PySem.Str), ("pair_by" : PySem.Str), ("words_of" : PySem.Str), ("NetError" : PySem.Str), ("NoText" : PySem.Str), ("MOST_FIGURES" : PySem.Str), ("read_net" : PySem.Str), ("read_head" : PySem.Str), ("read_gate" : PySem.Str), ("read_number" : PySem.Str), ("_law_deck" : PySem.Str), ("_law_draw" : PySem.Str), ("_law_table" : PySem.Str), ("_law_formula" : PySem.Str), ("_law_chain" : PySem.Str), ("_law_shared" : PySem.Str), ("_law_net" : PySem.Str), ("_law_change" : PySem.Str), ("_law_worth" : PySem.Str), ("_law_may" : PySem.Str), ("_law_word" : PySem.Str), ("_law_words" : PySem.Str), ("_law_same" : PySem.Str), ("_law_long" : PySem.Str), ("_law_long_right" : PySem.Str)]) (d := HandSHeadRun.topDef (OpenLaw.row PySem.Challenge.rw_glitchnet_k20_words_of_nets).prog 42) (kwd := []) Gk.ob_eq
    (by kernel_rfl) (fun s => by kernel_rfl) Gk.run (by kernel_rfl) (by kernel_rfl) (by kernel_rfl) (by rfl) (by first | assumption | decide +kernel) (by decide +kernel) ⟨rfl, rfl, rfl, rfl, rfl, by decide +kernel⟩ ?hw ?hc
  case hw => w_witness2
  case hc =>
    refine LamX.walk_ofTsE (l := PySem.Challenge.rw_glitchnet_k20_words_of_nets) (n := 63) (k := 8) (x := "_law_script") (CX := fun _ => L2.CX0) rfl (by decide) (by kernel_rfl) ⟨rfl, by decide, by decide⟩ ?F (fun _ _ _ _ _ z => z)
    intro w mg fa h Y G hmg0
    obtain ⟨K, KX, c⟩ := Y
    have hmg : mg ("law" : PySem.Str) = some (.ref fa) := by
      have e : (HandSHeadRun.topDef (OpenLaw.row PySem.Challenge.rw_glitchnet_k20_words_of_nets).prog 42).name = ("law" : PySem.Str) := by kernel_rfl
      rw [← e]
      exact hmg0
    exact ⟨K, KX, Gk.facts KX G hmg c⟩
