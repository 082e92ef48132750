import PyProof.Rows.All
import Wide.All
import OpenK.AllK
import Wide.FinOn
import HandS.ForMost
import HandS.IsInst
import HandS.TupLe
import HandS.TupAny
import HandS.TupMul
import HandS.More
import HandS.Codes
import HandS.Conv
import HandS.Deep
import HandS.TupSets
import HandS.Style
import HandS.Strs
import HandS.AnyAll
import HandS.GenList
import HandS.JoinGen
import HandS.Zip
import HandS.Rev
import HandS.SetFor
import HandS.FStr
import HandS.Text
import KE.KRevSl
import HandS.RevTup
import HandS.Head0
import HandS.Head1
import HandS.Head2
import HandS.HeadEnd
import HandS.HeadHook1
import HandS.HeadHook2
import HandS.HeadHook3
import HandS.HeadHook4
import HandS.HeadWalk
import HandS.Defaults
import HandS.ReplaceLit
import KE.KUnpackStar
import PyProof.ReprLen
import PyProof.ReprRoads
import PySem.Challenge.RW_glitchnet_k56_words_and_numbers_of_forms
import KE.GoesMore
import PyProof.ListStr
import PyProof.TupleOfStr
set_option Elab.async false
set_option linter.all false
set_option maxRecDepth 100000
set_option maxHeartbeats 1000000
namespace Gk
open PySem PySem.Spec PyProof.Rows L2
/-! ### a module's dict with texts as keys -/
namespace KdS
open PySem PySem.Spec PyProof.Rows L2
inductive Kv where
  | i (n : Int)
  | s (x : PySem.Str)
  | r
def Kv.ok : Kv → Value → Bool
  | .i n, .int j _ => decide (j = n)
  | .s x, .str y _ => decide (y = x)
  | .r, .ref _ => true
  | _, _ => false
def kvB : List (PySem.Str × Kv) → List DictEntry → Bool
  | [], [] => true
  | (k, v) :: r, e :: t => (match e.key with
    | .str x _ => decide (x = k)
    | _ => false) && (v.ok e.val && kvB r t)
  | _, _ => false
def kdB (K : PySem.W.Frag) (x : PySem.Str) (kvs : List (PySem.Str × Kv)) : Bool := match K.lookup (He.ga K x) with
  | some ⟨_, _, .dict es _, _⟩ => kvB kvs es.toList
  | _ => false
def find : List (PySem.Str × Kv) → PySem.Str → Option Kv
  | [], _ => none
  | (k, v) :: r, z => if k = z then some v else find r z
/-- what the dict has at a text -/
def At (K : PySem.W.Frag) (a : Addr) (kvs : List (PySem.Str × Kv)) (z : PySem.Str) : Prop := ∃ r : Option Value, PySem.W.nsIn K a z = some r ∧ ((∃ kv u, find kvs z = some kv ∧ r = some u ∧ kv.ok u = true) ∨ (find kvs z = none ∧ r = none))
theorem kv_find : ∀ {kvs : List (PySem.Str × Kv)} {es : List DictEntry}, kvB kvs es = true → ∀ z : PySem.Str, es.any (·.refKey) = false ∧
    ((∃ kv e, find kvs z = some kv ∧ es.find? (·.key.isStr z) = some e ∧ kv.ok e.val = true) ∨ (find kvs z = none ∧ es.find? (·.key.isStr z) = none))
  | [], [], _, z => ⟨rfl, .inr ⟨rfl, rfl⟩⟩
  | [], _ :: _, h, _ => by cases h
  | _ :: _, [], h, _ => by cases h
  | (k, v) :: r, e :: t, h, z => by
    unfold kvB at h
    obtain ⟨h1, h2⟩ := He.ba h
    obtain ⟨h3, h4⟩ := He.ba h2
    obtain ⟨i1, i2⟩ := kv_find h4 z
    obtain ⟨eh, ek, ev⟩ := e
    split at h1
    · rename_i x tk e1
      have e1 : ek = .str x tk := e1
      have h1 : x = k := of_decide_eq_true h1
      subst e1 h1
      refine ⟨?_, ?_⟩
      · rw [List.any_cons, i1, Bool.or_false]
        rfl
      · by_cases hz : x = z
        · refine .inl ⟨v, ⟨eh, .str x tk, ev⟩, if_pos hz, ?_, h3⟩
          rw [List.find?_cons_of_pos]
          show (Value.str x tk).isStr z = true
          subst hz
          exact decide_eq_true rfl
        · have nz : (Value.str x tk).isStr z = false := decide_eq_false hz
          rcases i2 with ⟨kv, e', f1, f2, f3⟩ | ⟨f1, f2⟩
          · refine .inl ⟨kv, e', (if_neg hz).trans f1, ?_, f3⟩
            rw [List.find?_cons_of_neg (by show ¬ (Value.str x tk).isStr z = true; rw [nz]; exact Bool.false_ne_true)]
            exact f2
          · refine .inr ⟨(if_neg hz).trans f1, ?_⟩
            rw [List.find?_cons_of_neg (by show ¬ (Value.str x tk).isStr z = true; rw [nz]; exact Bool.false_ne_true)]
            exact f2
    · cases h1
theorem kdB_ok {K : PySem.W.Frag} {x : PySem.Str} {kvs : List (PySem.Str × Kv)} (h : kdB K x kvs = true) (z : PySem.Str) : At K (He.ga K x) kvs z := by
  unfold kdB at h
  split at h
  · rename_i es n sl e
    obtain ⟨h1, h2⟩ := kv_find h z
    unfold At PySem.W.nsIn
    rw [e]
    dsimp only
    rcases h2 with ⟨kv, e', f1, f2, f3⟩ | ⟨f1, f2⟩
    · rw [f2]
      exact ⟨_, rfl, .inl ⟨kv, _, f1, rfl, f3⟩⟩
    · rw [f2]
      dsimp only
      rw [h1]
      exact ⟨none, rfl, .inr ⟨f1, rfl⟩⟩
  · cases h
end KdS

/-! ### the text -/
def topS (i : Nat) : Stmt := PySem.Challenge.pw_glitchnet_k56_words_and_numbers_of_forms.main.body.getD i (.Pass ⟨0, 0, 0, 0⟩)
abbrev s_inner_of : Stmt := topS 2
abbrev s_still_worth : Stmt := topS 3
abbrev s_form_word : Stmt := topS 5
abbrev s_form_greatest : Stmt := topS 6
abbrev s_most_of : Stmt := topS 7
abbrev s_about : Stmt := topS 8
abbrev s_most_of_and : Stmt := topS 9
abbrev s_deck : Stmt := topS 11
abbrev s_mixed : Stmt := topS 12
abbrev s_take : Stmt := topS 13
abbrev s_form : Stmt := topS 14
abbrev s_inner : Stmt := topS 15
abbrev s_count : Stmt := topS 16
abbrev s_some_form : Stmt := topS 17
abbrev s_tower : Stmt := topS 18
abbrev s_worth : Stmt := topS 19
abbrev s_pairs : Stmt := topS 20
abbrev s_word : Stmt := topS 21
abbrev s_counts : Stmt := topS 22
abbrev s_most : Stmt := topS 23
abbrev s_leaves : Stmt := topS 24
abbrev s_change : Stmt := topS 25
abbrev s_sum : Stmt := topS 26
abbrev s_right : Stmt := topS 27
abbrev s_pulses : Stmt := topS 28
abbrev s_law : Stmt := topS 29
theorem sc_inner_of : FnScope ["form"] ["form"] (defScope s_inner_of) := ⟨rfl, rfl, rfl, by decide +kernel, rfl, by decide +kernel, by decide +kernel⟩
theorem sc_still_worth : FnScope ["form"] ["form"] (defScope s_still_worth) := ⟨rfl, rfl, rfl, by decide +kernel, rfl, by decide +kernel, by decide +kernel⟩
theorem sc_form_word : FnScope ["form", "change", "first", "number"] ["form", "change"] (defScope s_form_word) := ⟨rfl, rfl, rfl, by decide +kernel, rfl, by decide +kernel, by decide +kernel⟩
theorem sc_form_greatest : FnScope ["form", "change"] ["form", "change"] (defScope s_form_greatest) := ⟨rfl, rfl, rfl, by decide +kernel, rfl, by decide +kernel, by decide +kernel⟩
theorem sc_most_of : FnScope ["form", "change", "a", "b", "head", "still", "parts", "part"] ["form", "change"] (defScope s_most_of) := ⟨rfl, rfl, rfl, by decide +kernel, rfl, by decide +kernel, by decide +kernel⟩
theorem sc_about : FnScope ["most", "first", "number"] ["most"] (defScope s_about) := ⟨rfl, rfl, rfl, by decide +kernel, rfl, by decide +kernel, by decide +kernel⟩
theorem sc_most_of_and : FnScope ["parts", "first", "last", "ups", "spells", "begin", "number", "up"] ["parts"] (defScope s_most_of_and) := ⟨rfl, rfl, rfl, by decide +kernel, rfl, by decide +kernel, by decide +kernel⟩
theorem sc_deck : FnScope ["_law_script"] ["_law_script"] (defScope s_deck) := ⟨rfl, rfl, rfl, by decide +kernel, rfl, by decide +kernel, by decide +kernel⟩
theorem sc_mixed : FnScope ["_law_cell", "_law_k", "_law_number"] ["_law_cell", "_law_k"] (defScope s_mixed) := ⟨rfl, rfl, rfl, by decide +kernel, rfl, by decide +kernel, by decide +kernel⟩
theorem sc_take : FnScope ["_law_deck_here", "_law_most_here", "_law_cells", "_law_cell"] ["_law_deck_here", "_law_most_here"] (defScope s_take) := ⟨rfl, rfl, rfl, by decide +kernel, rfl, by decide +kernel, by decide +kernel⟩
theorem sc_form : FnScope ["_law_deck_here", "_law_many", "_law_deep", "_law_left", "_law_way", "_law_fixed", "_law_word_here", "_law_parts", "_law_k"] ["_law_deck_here", "_law_many", "_law_deep", "_law_left"] (defScope s_form) := ⟨rfl, rfl, rfl, by decide +kernel, rfl, by decide +kernel, by decide +kernel⟩
theorem sc_inner : FnScope ["_law_form_here"] ["_law_form_here"] (defScope s_inner) := ⟨rfl, rfl, rfl, by decide +kernel, rfl, by decide +kernel, by decide +kernel⟩
theorem sc_count : FnScope ["_law_form_here", "_law_part"] ["_law_form_here"] (defScope s_count) := ⟨rfl, rfl, rfl, by decide +kernel, rfl, by decide +kernel, by decide +kernel⟩
theorem sc_some_form : FnScope ["_law_deck_here", "_law_many", "_law_way", "_law_found"] ["_law_deck_here", "_law_many"] (defScope s_some_form) := ⟨rfl, rfl, rfl, by decide +kernel, rfl, by decide +kernel, by decide +kernel⟩
theorem sc_tower : FnScope ["_law_deck_here", "_law_many", "_law_found", "_law_k", "_law_way", "_law_leaf", "_law_third", "_law_some"] ["_law_deck_here", "_law_many"] (defScope s_tower) := ⟨rfl, rfl, rfl, by decide +kernel, rfl, by decide +kernel, by decide +kernel⟩
theorem sc_worth : FnScope ["_law_form_here", "_law_row", "_law_word_here", "_law_told", "_law_part"] ["_law_form_here", "_law_row"] (defScope s_worth) := ⟨rfl, rfl, rfl, by decide +kernel, rfl, by decide +kernel, by decide +kernel⟩
theorem sc_pairs : FnScope ["_law_form_here", "_law_change_here", "_law_word_here", "_law_first", "_law_last", "_law_told", "_law_found", "_law_pairs_here", "_law_more", "_law_one", "_law_other", "_law_part", "_law_k", "_law_pair", "_law_there", "_law_then"] ["_law_form_here", "_law_change_here"] (defScope s_pairs) := ⟨rfl, rfl, rfl, by decide +kernel, rfl, by decide +kernel, by decide +kernel⟩
theorem sc_word : FnScope ["_law_form_here", "_law_change_here", "_law_first", "_law_last", "_law_pairs_here", "_law_pair"] ["_law_form_here", "_law_change_here"] (defScope s_word) := ⟨rfl, rfl, rfl, by decide +kernel, rfl, by decide +kernel, by decide +kernel⟩
theorem sc_counts : FnScope ["_law_numbers", "_law_found", "_law_number", "_law_longer", "_law_one", "_law_k"] ["_law_numbers"] (defScope s_counts) := ⟨rfl, rfl, rfl, by decide +kernel, rfl, by decide +kernel, by decide +kernel⟩
theorem sc_most : FnScope ["_law_form_here", "_law_change_here", "_law_word_here", "_law_inner_here", "_law_numbers", "_law_firsts", "_law_best", "_law_counts_here", "_law_worths", "_law_here", "_law_most_here", "_law_k", "_law_more", "_law_there", "_law_then", "_law_part", "_law_first", "_law_count_here"] ["_law_form_here", "_law_change_here"] (defScope s_most) := ⟨rfl, rfl, rfl, by decide +kernel, rfl, by decide +kernel, by decide +kernel⟩
theorem sc_leaves : FnScope ["_law_form_here", "_law_part"] ["_law_form_here"] (defScope s_leaves) := ⟨rfl, rfl, rfl, by decide +kernel, rfl, by decide +kernel, by decide +kernel⟩
theorem sc_change : FnScope ["_law_deck_here", "_law_many", "_law_row", "_law_way", "_law_at", "_law_k", "_law_one"] ["_law_deck_here", "_law_many"] (defScope s_change) := ⟨rfl, rfl, rfl, by decide +kernel, rfl, by decide +kernel, by decide +kernel⟩
theorem sc_sum : FnScope ["_law_deck_here", "_law_many", "_law_parts", "_law_k", "_law_some", "_law_j", "_law_leaf"] ["_law_deck_here", "_law_many"] (defScope s_sum) := ⟨rfl, rfl, rfl, by decide +kernel, rfl, by decide +kernel, by decide +kernel⟩
theorem sc_right : FnScope ["_law_form_here", "_law_change_here", "_law_word_here", "_law_most_here"] ["_law_form_here", "_law_change_here"] (defScope s_right) := ⟨rfl, rfl, rfl, by decide +kernel, rfl, by decide +kernel, by decide +kernel⟩
theorem sc_pulses : FnScope ["_law_deck_here", "_law_inner_here", "_law_ors", "_law_row", "_law_k"] ["_law_deck_here"] (defScope s_pulses) := ⟨rfl, rfl, rfl, by decide +kernel, rfl, by decide +kernel, by decide +kernel⟩
theorem sc_law : FnScope ["_law_script", "_law_deck_here", "_law_turn", "_law_wide", "_law_many", "_law_form_here", "_law_again", "_law_change_here"] ["_law_script"] (defScope s_law) := ⟨rfl, rfl, rfl, by decide +kernel, rfl, by decide +kernel, by decide +kernel⟩
structure Tx (w : World) (K : PySem.W.Frag) (mg : Str → Option Value) where
  f_inner_of : Addr
  fd_inner_of : FuncData
  F_inner_of : Fun K "inner_of" "inner_of" s_inner_of f_inner_of fd_inner_of
  g_inner_of : mg "inner_of" = some (.ref f_inner_of)
  b_inner_of : Binds K fd_inner_of ["form"] []
  f_still_worth : Addr
  fd_still_worth : FuncData
  F_still_worth : Fun K "still_worth" "still_worth" s_still_worth f_still_worth fd_still_worth
  g_still_worth : mg "still_worth" = some (.ref f_still_worth)
  b_still_worth : Binds K fd_still_worth ["form"] []
  f_form_word : Addr
  fd_form_word : FuncData
  F_form_word : Fun K "form_word" "form_word" s_form_word f_form_word fd_form_word
  g_form_word : mg "form_word" = some (.ref f_form_word)
  b_form_word : Binds K fd_form_word ["form", "change"] []
  f_form_greatest : Addr
  fd_form_greatest : FuncData
  F_form_greatest : Fun K "form_greatest" "form_greatest" s_form_greatest f_form_greatest fd_form_greatest
  g_form_greatest : mg "form_greatest" = some (.ref f_form_greatest)
  b_form_greatest : Binds K fd_form_greatest ["form", "change"] []
  f_most_of : Addr
  fd_most_of : FuncData
  F_most_of : Fun K "most_of" "most_of" s_most_of f_most_of fd_most_of
  g_most_of : mg "most_of" = some (.ref f_most_of)
  b_most_of : Binds K fd_most_of ["form", "change"] []
  f_about : Addr
  fd_about : FuncData
  F_about : Fun K "about" "about" s_about f_about fd_about
  g_about : mg "about" = some (.ref f_about)
  b_about : Binds K fd_about ["most"] []
  f_most_of_and : Addr
  fd_most_of_and : FuncData
  F_most_of_and : Fun K "most_of_and" "most_of_and" s_most_of_and f_most_of_and fd_most_of_and
  g_most_of_and : mg "most_of_and" = some (.ref f_most_of_and)
  b_most_of_and : Binds K fd_most_of_and ["parts"] []
  c_most_of_and : Addr
  P_most_of_and : Addr
  cd_most_of_and : fd_most_of_and.code = .ref c_most_of_and
  f_deck : Addr
  fd_deck : FuncData
  F_deck : Fun K "_law_deck" "_law_deck" s_deck f_deck fd_deck
  g_deck : mg "_law_deck" = some (.ref f_deck)
  b_deck : Binds K fd_deck ["_law_script"] []
  f_mixed : Addr
  fd_mixed : FuncData
  F_mixed : Fun K "_law_mixed" "_law_mixed" s_mixed f_mixed fd_mixed
  g_mixed : mg "_law_mixed" = some (.ref f_mixed)
  b_mixed : Binds K fd_mixed ["_law_cell", "_law_k"] []
  f_take : Addr
  fd_take : FuncData
  F_take : Fun K "_law_take" "_law_take" s_take f_take fd_take
  g_take : mg "_law_take" = some (.ref f_take)
  b_take : Binds K fd_take ["_law_deck_here", "_law_most_here"] []
  f_form : Addr
  fd_form : FuncData
  F_form : Fun K "_law_form" "_law_form" s_form f_form fd_form
  g_form : mg "_law_form" = some (.ref f_form)
  b_form : Binds K fd_form ["_law_deck_here", "_law_many", "_law_deep", "_law_left"] []
  f_inner : Addr
  fd_inner : FuncData
  F_inner : Fun K "_law_inner" "_law_inner" s_inner f_inner fd_inner
  g_inner : mg "_law_inner" = some (.ref f_inner)
  b_inner : Binds K fd_inner ["_law_form_here"] []
  f_count : Addr
  fd_count : FuncData
  F_count : Fun K "_law_count" "_law_count" s_count f_count fd_count
  g_count : mg "_law_count" = some (.ref f_count)
  b_count : Binds K fd_count ["_law_form_here"] []
  f_some_form : Addr
  fd_some_form : FuncData
  F_some_form : Fun K "_law_some_form" "_law_some_form" s_some_form f_some_form fd_some_form
  g_some_form : mg "_law_some_form" = some (.ref f_some_form)
  b_some_form : Binds K fd_some_form ["_law_deck_here", "_law_many"] []
  f_tower : Addr
  fd_tower : FuncData
  F_tower : Fun K "_law_tower" "_law_tower" s_tower f_tower fd_tower
  g_tower : mg "_law_tower" = some (.ref f_tower)
  b_tower : Binds K fd_tower ["_law_deck_here", "_law_many"] []
  f_worth : Addr
  fd_worth : FuncData
  F_worth : Fun K "_law_worth" "_law_worth" s_worth f_worth fd_worth
  g_worth : mg "_law_worth" = some (.ref f_worth)
  b_worth : Binds K fd_worth ["_law_form_here", "_law_row"] []
  f_pairs : Addr
  fd_pairs : FuncData
  F_pairs : Fun K "_law_pairs" "_law_pairs" s_pairs f_pairs fd_pairs
  g_pairs : mg "_law_pairs" = some (.ref f_pairs)
  b_pairs : Binds K fd_pairs ["_law_form_here", "_law_change_here"] []
  f_word : Addr
  fd_word : FuncData
  F_word : Fun K "_law_word" "_law_word" s_word f_word fd_word
  g_word : mg "_law_word" = some (.ref f_word)
  b_word : Binds K fd_word ["_law_form_here", "_law_change_here"] []
  f_counts : Addr
  fd_counts : FuncData
  F_counts : Fun K "_law_counts" "_law_counts" s_counts f_counts fd_counts
  g_counts : mg "_law_counts" = some (.ref f_counts)
  b_counts : Binds K fd_counts ["_law_numbers"] []
  f_most : Addr
  fd_most : FuncData
  F_most : Fun K "_law_most" "_law_most" s_most f_most fd_most
  g_most : mg "_law_most" = some (.ref f_most)
  b_most : Binds K fd_most ["_law_form_here", "_law_change_here"] []
  f_leaves : Addr
  fd_leaves : FuncData
  F_leaves : Fun K "_law_leaves" "_law_leaves" s_leaves f_leaves fd_leaves
  g_leaves : mg "_law_leaves" = some (.ref f_leaves)
  b_leaves : Binds K fd_leaves ["_law_form_here"] []
  f_change : Addr
  fd_change : FuncData
  F_change : Fun K "_law_change" "_law_change" s_change f_change fd_change
  g_change : mg "_law_change" = some (.ref f_change)
  b_change : Binds K fd_change ["_law_deck_here", "_law_many"] []
  f_sum : Addr
  fd_sum : FuncData
  F_sum : Fun K "_law_sum" "_law_sum" s_sum f_sum fd_sum
  g_sum : mg "_law_sum" = some (.ref f_sum)
  b_sum : Binds K fd_sum ["_law_deck_here", "_law_many"] []
  f_right : Addr
  fd_right : FuncData
  F_right : Fun K "_law_right" "_law_right" s_right f_right fd_right
  g_right : mg "_law_right" = some (.ref f_right)
  b_right : Binds K fd_right ["_law_form_here", "_law_change_here"] []
  f_pulses : Addr
  fd_pulses : FuncData
  F_pulses : Fun K "_law_pulses" "_law_pulses" s_pulses f_pulses fd_pulses
  g_pulses : mg "_law_pulses" = some (.ref f_pulses)
  b_pulses : Binds K fd_pulses ["_law_deck_here"] []
  f_law : Addr
  fd_law : FuncData
  F_law : Fun K "law" "law" s_law f_law fd_law
  g_law : mg "law" = some (.ref f_law)
  b_law : Binds K fd_law ["_law_script"] []
  m_enumerate : mg "enumerate" = none
  m_int : mg "int" = none
  m_len : mg "len" = none
  m_list : mg "list" = none
  m_max : mg "max" = none
  m_min : mg "min" = none
  m_range : mg "range" = none
  m_repr : mg "repr" = none
  m_reversed : mg "reversed" = none
  m_sum : mg "sum" = none
  m_tuple : mg "tuple" = none
  m_zip : mg "zip" = none
  A_STILL : Addr
  gA_STILL : mg "STILL" = some (.ref A_STILL)
  kd_STILL : ∃ es n, KDict K w A_STILL es n
  kv_STILL : ∀ z : PySem.Str, KdS.At K A_STILL [(("one" : PySem.Str), KdS.Kv.i 1), (("nought" : PySem.Str), KdS.Kv.i 0)] z
structure Tb (base : Heap) {w : World} {K : PySem.W.Frag} {mg : Str → Option Value} (T : Tx w K mg) : Prop where
  TB_most_of_and : GxR.TabB base mg T.c_most_of_and T.P_most_of_and
def Tx.tabs {w : World} {K : PySem.W.Frag} {mg : Str → Option Value} (T : Tx w K mg) : List Addr := [T.P_most_of_and]
/-! ### generator expressions whose elements may call -/
theorem inv_moved {X : Cx} {cp : List (Addr × Obj)} {σ : L2.St} {H : Hp} {s s' : Shared} (I : Inv X cp σ H s) (os : s'.os = s.os) (bare : AllBare s'.gens) (k : ∀ b o, s.heap.get? b = some o → s'.heap.get? b = some o) : Inv X cp σ H s' :=
  I.call' (ch := []) os (Un.kept k) (I.hok.kept k) bare fun b hb => absurd hb (by simp)
/-- the context of a generator expression's frame: C its frame, s, H the entry, fp its iterator's objects -/
abbrev gblk (X : Cx) (A : Around) (s : Shared) (H : Hp) (cenv : Env) (fp : List Addr) : Cx :=
  { X with A := A, s_0 := s, H_0 := H, env := cenv, outer := X.stack, stack := cenv :: X.stack, ex := fp, fn := fun _ => false, pn := [], xe := fun _ _ => False }
section
variable {X : Cx} {pins : List (Addr × Obj)} {σ : L2.St} {H : Hp} {s : Shared}
theorem gen_start {scope : Scope} {own : List (Str × Nat)} {fp : List Addr} {A : Around} {code it : Value} {s5 : Shared} {cp : List (Addr × Obj)}
    (I : Inv X pins σ H s) (ok : BlkOk X.N X.env.scope scope own) (nocell : ∀ y ∈ scope.names, y.2 ≠ .cell) (hN : X.N.Nodup) (hfp : ∀ b ∈ fp, FpOk X pins H b ∧ b < s.heap.objs.size)
    (hh : A.handled = none) (hfr : A.frames = some (genEnv scope (cloFrom X.env.cells scope.names []) s.heap.objs.size code builtinsNs X.env :: X.stack))
    (os : s5.os = s.os) (bare : AllBare s5.gens) (kp : ∀ b o, s.heap.get? b = some o → s5.heap.get? b = some o)
    (hns : s5.heap.Ns s.heap.objs.size fun y => if y = ".0" then some it else none)
    (hcp : ∀ p ∈ cp, s.heap.objs.size < p.1 ∧ s5.heap.get? p.1 = some p.2 ∧ ∀ v, p.2.data ≠ .cell v) :
    Inv (gblk X A s H (genEnv scope (cloFrom X.env.cells scope.names []) s.heap.objs.size code builtinsNs X.env) fp) cp (wipe σ (own.map (·.2))) H s5 := by
  have hfree : ∀ y ∈ scope.names, y.2 = .free → ∃ c, X.env.cells.lookup y.1 = some c := fun y hy e => by
    rcases ok.free y hy e with k | k
    · exact I.ok.has _ (.inl k)
    · exact I.ok.has _ (.inr k)
  generalize hcenv : genEnv scope (cloFrom X.env.cells scope.names []) s.heap.objs.size code builtinsNs X.env = cenv at hfr ⊢
  have hL : cenv.locals = s.heap.objs.size := by rw [← hcenv]; rfl
  have hcl : cenv.cells = cloFrom X.env.cells scope.names [] := by rw [← hcenv]; rfl
  have hsc : cenv.scope = scope := by rw [← hcenv]; rfl
  have cm : ∀ {y c}, (y, c) ∈ cloFrom X.env.cells scope.names [] → X.env.cells.lookup y = some c ∧ c < s.heap.objs.size := fun {y c} hm => by
    rcases cloFrom_mem hm with hm | ⟨h1, rfl⟩
    · cases hm
    · obtain ⟨c, hc⟩ := hfree _ h1 rfl
      rw [hc]
      obtain ⟨w, z⟩ := I.cell _ _ hc
      exact ⟨rfl, z.lt⟩
  have mem : ∀ {y c}, cenv.cells.lookup y = some c → X.env.cells.lookup y = some c ∧ c < s.heap.objs.size := fun {y c} e => by
    rw [hcl] at e
    exact cm (PySem.mem_of_lookup e)
  have look : ∀ {y}, scope.names.lookup y = some .free → ∃ c, cenv.cells.lookup y = some c ∧ X.env.cells.lookup y = some c := fun {y} hl => by
    have hy : (y, NameKind.free) ∈ scope.names := PySem.mem_of_lookup hl
    obtain ⟨c', e'⟩ := mem_lookup (cloFrom_has (cells := X.env.cells) (acc := []) hy)
    rw [← hcl] at e'
    exact ⟨c', e', (mem e').1⟩
  have okB : (gblk X A s H cenv fp).Ok := by
    refine ⟨I.ok.mod, by show cenv.scope.kind = _; rw [hsc]; exact ok.kind, by show cenv.globals = _; rw [← hcenv]; exact I.ok.glob, by show cenv.builtins = _; rw [← hcenv]; rfl, by show s.heap.objs.size ≤ cenv.locals; rw [hL]; exact Nat.le_refl _,
      fun y z c e1 e2 => I.ok.inj y z c (mem e1).1 (mem e2).1, fun y hy => ?_, fun y c z e => (by cases z), fun _ => hh, hfr, .inr ⟨rfl, by show cenv.frame = some cenv.locals; rw [← hcenv]; rfl⟩, fun b hb => ⟨?_, fun y c e z => ?_⟩, I.bs, Nat.le_trans I.ok.bsz I.sz, fun b o e hb => ?_, fun b hb z => ?_, I.stack, I.stkFree⟩
    · have hy' : scope.names.lookup y = some .cell ∨ scope.names.lookup y = some .free := by
        rw [← hsc]
        exact hy
      rcases hy' with e | e
      · exact absurd rfl (nocell _ (PySem.mem_of_lookup e))
      · obtain ⟨c, h1, _⟩ := look e
        exact ⟨c, h1⟩
    · show b ≠ cenv.locals
      rw [hL]; exact Nat.ne_of_lt (hfp b hb).2
    · exact (hfp b hb).1.2.2.2.2.1 y c (mem e).1 z
    · rcases (hfp b hb).1.2.2.2.1 with z | z
      · exact I.ok.noex b o e z
      · exact absurd (Nat.lt_of_lt_of_le (Heap.lt_size e) (Nat.le_trans I.ok.bsz z)) (Nat.lt_irrefl _)
    · rcases List.mem_cons.mp (I.stkSub b z) with z | z
      · exact (hfp b hb).1.2.1 z
      · exact (hfp b hb).1.2.2.1 z
  refine ⟨okB, os, bare, Un.kept kp, ⟨_, (by show s5.heap.Ns cenv.locals _; rw [hL]; exact hns), fun i y av e1 e2 e3 => ?_⟩, fun y c e => ?_, ?_, fun y c e => I.freeC y c (mem e).1, fun p hp => ?_, I.hok.kept kp, by rw [wipe_length]; exact I.len⟩
  · obtain ⟨e2, hne⟩ := wipe_some e2
    have e3 : Vis scope y := by rw [← hsc]; exact e3
    have no : ∀ k, scope.names.lookup y = some k → ¬ (k = .local ∨ k = .cell) := fun k e hh => by
      rcases ok.own _ (PySem.mem_of_lookup e) hh with e' | e'
      · obtain ⟨p, hp, hpy⟩ := List.mem_map.mp e'
        have e3 := ok.ix p hp
        have : p.1 = y := hpy
        rw [this] at e3
        exact hne (List.mem_map.mpr ⟨p, hp, nodup_ix hN e3 e1⟩)
      · exact e' (List.mem_of_getElem? e1)
    have hfr2 : scope.names.lookup y = some .free := by
      rcases e3 with e | e | e
      · exact absurd (.inl rfl) (no _ e)
      · exact absurd (.inr rfl) (no _ e)
      · exact e
    obtain ⟨m, hn, hl⟩ := I.loc
    have hvis : Vis X.env.scope y := (ok.free _ (PySem.mem_of_lookup hfr2) rfl).elim (fun k => .inr (.inl k)) (fun k => .inr (.inr k))
    obtain ⟨w, r, q⟩ := hl i y av e1 e2 hvis
    refine ⟨w, r, .inr ⟨.inr (by show cenv.scope.names.lookup y = some .free; rw [hsc]; exact hfr2), ?_⟩⟩
    obtain ⟨c, h1, h2⟩ := look hfr2
    rcases q with ⟨k, _⟩ | ⟨_, c', e', z⟩
    · have k : X.env.scope.names.lookup y = some .local := k
      rcases ok.free _ (PySem.mem_of_lookup hfr2) rfl with k' | k' <;> rw [show X.env.scope.names.lookup y = _ from k'] at k <;> cases k
    · rw [h2] at e'; cases e'
      exact ⟨c, h1, z.keeps kp⟩
  · obtain ⟨w, z⟩ := I.cell y c (mem e).1
    exact ⟨w, z.keeps kp⟩
  · show H cenv.locals = none
    rw [hL]; exact I.hok.fresh (Nat.le_refl _)
  · have hp : p ∈ cp := by simpa using hp
    obtain ⟨h1, h2, h3⟩ := hcp p hp
    refine ⟨h2, I.hok.fresh (Nat.le_of_lt h1), by show p.1 ≠ cenv.locals; rw [hL]; exact Nat.ne_of_gt h1, fun z => ?_, h3⟩
    rcases List.mem_cons.mp (I.stkSub _ z) with z | z
    · exact absurd (Nat.lt_trans I.lt h1) (by rw [z]; exact Nat.lt_irrefl _)
    · exact I.nofs (Nat.le_of_lt h1) z
end
/-! ### the talk of a generator and who asks it -/
section
variable {α : Type}
/-- handed out: x; the asker's state a (laid down in the pins cp) goes to one with Nx -/
def YG (Xg : Cx) (fp : List Addr) (tn : Nat → Heap → Prop) (AC : α → List (Addr × Obj) → Prop) (Yd : α → V → Hp → (α → Hp → Prop) → Prop) : Protocol := fun _ s0 v s kap =>
  ∃ (a : α) (x : V) (σ : L2.St) (H : Hp) (i : Nat) (cp : List (Addr × Obj)) (Nx : α → Hp → Prop), RelV x v ∧ AC a cp ∧ (∀ p ∈ cp, s0.heap.get? p.1 = some p.2) ∧ Inv Xg cp σ H s ∧ tn i s.heap ∧ (∀ b ∈ fp, H b = none) ∧ Yd a x H Nx ∧
    ∀ a' cp' s', Nx a' H → AC a' cp' → Inv Xg cp' σ H s' → tn i s'.heap → kap (.send .none) s'
def RG (Xg : Cx) (AC : α → List (Addr × Obj) → Prop) (End : α → Hp → Prop) : GenEnd := fun _ s0 r s =>
  ((r = .ok (.ret .none) ∨ r = .ok .next) ∧ ∃ (a : α) (σ : L2.St) (H : Hp) (cp : List (Addr × Obj)), AC a cp ∧ (∀ p ∈ cp, s0.heap.get? p.1 = some p.2) ∧ Inv Xg cp σ H s ∧ End a H) ∨ ∃ e, r = .error e ∧ False
/-- a generator's turns -/
def tGx (J : It) (g : TG) (tt : TT) (te : TE) (σ0 : L2.St) (vs : List Nat) (End : α → Hp → Prop) (Yd : α → V → Hp → (α → Hp → Prop) → Prop) (W : Nat → Nat → α → Hp → Prop) : Prop :=
  ∀ i m a H, W i m a H → (J.stop i H ∧ End a H) ∨ (J.go i H ∧ ∃ Nx : α → Hp → Prop, (∀ a' H', Nx a' H' → ∃ m', m' < m ∧ W (i + 1) m' a' H') ∧
    ∀ x H', J.yld i H x H' → g x σ0 H' fun σ2 H2 => wipe σ2 vs = σ0 ∧ tt σ2 H2 fun b H3 => if b = true then te σ2 H3 fun y H4 => Yd a y H4 Nx else Nx a H3)
theorem wipe_wipe_some {σ σ2 : L2.St} {vs : List Nat} (h : wipe σ2 vs = σ) : ∀ (j : Nat) v, σ[j]? = some (some v) → σ2[j]? = some (some v) := fun j v e => by
  rw [← h] at e
  exact (wipe_some e).1
theorem seg_gx {X : Cx} {A A' : Around} {s_0 : Shared} {H_0 : Hp} {elt tg iter : Expr} {ifs : List Expr} {scope : Scope} {pos : Pos} {it : Addr} {fp : List Addr} {tn : Nat → Heap → Prop} {J : It} {cenv : Env} {g : TG} {tt : TT} {te : TE} {σ0 : L2.St} {vs : List Nat}
    {AC : α → List (Addr × Obj) → Prop} {End : α → Hp → Prop} {Yd : α → V → Hp → (α → Hp → Prop) → Prop} {W : Nat → Nat → α → Hp → Prop}
    (hA : A.over (.compLoop (.GeneratorExp elt [⟨tg, iter, ifs, 0⟩] scope pos) 0 (.ref it) .none cenv) [] = A') (hc : X.calm = true) (hco : cenv.scope.isCoroutine = false)
    (T : Turn X.prog X.w X.K tg J fp it tn) (pg : PG (gblk X A' s_0 H_0 cenv fp) tg g) (pt : PTs (gblk X A' s_0 H_0 cenv fp) ifs tt) (pe : PE (gblk X A' s_0 H_0 cenv fp) elt te)
    (hAC : ∀ a cp, AC a cp → ∀ p ∈ cp, ∀ b ∈ fp, p.1 ≠ b) (turn : tGx J g tt te σ0 vs End Yd W) :
    ∀ (m n i : Nat) (a : α) (H : Hp) (s₀ s : Shared) (cp : List (Addr × Obj)), m < n → W i m a H → AC a cp → (∀ p ∈ cp, s₀.heap.get? p.1 = some p.2) → Inv (gblk X A' s_0 H_0 cenv fp) cp σ0 H s → tn i s.heap → (∀ b ∈ fp, H b = none) →
      Seg (model X.prog X.w) A (RG (gblk X A' s_0 H_0 cenv fp) AC End) (YG (gblk X A' s_0 H_0 cenv fp) fp tn AC Yd) n s₀
        (.compLoop (.GeneratorExp elt [⟨tg, iter, ifs, 0⟩] scope pos) 0 (.ref it) .none cenv)
        ((model X.prog X.w).den (.compLoop (.GeneratorExp elt [⟨tg, iter, ifs, 0⟩] scope pos) 0 (.ref it) .none cenv)) [] s := by
  have stat : ∀ {a : α} {cp : List (Addr × Obj)} {σ' : L2.St} {H' : Hp} {s' : Shared}, AC a cp → Inv (gblk X A' s_0 H_0 cenv fp) cp σ' H' s' → (∀ b ∈ fp, H' b = none) → ∀ b ∈ fp, FpOk (gblk X A' s_0 H_0 cenv fp) cp H' b := fun {a cp σ' H' s'} hac I' hn b hb =>
    ⟨hn b hb, (I'.ok.exf b hb).1, I'.ok.exfs b hb, .inl hb, fun x c e => (I'.ok.exf b hb).2 x c e, fun p hp => hAC a cp hac p (by simpa using hp) b hb⟩
  intro m
  induction m using Nat.strongRecOn with
  | ind m ih =>
    intro n i a H s₀ s cp hmn w hac tie I st nf
    show Seg _ A _ _ _ s₀ _ ((compTurn (.GeneratorExp elt [⟨tg, iter, ifs, 0⟩] scope pos) 0 (.ref it) .none cenv).onRaise (leaving cenv)) [] s
    rw [compTurn_gen, Sem.onRaise_eq_wrap]
    refine seg_bind_wrap (wpAny_standAt ?_)
    rcases turn i m a H w with ⟨stop, hend⟩ | ⟨go, Nx, hNx, step⟩
    · refine seg_bind_wrap ?_
      rw [hA]
      refine thnF (T.done (gblk X A' s_0 H_0 cenv fp) rfl rfl rfl hc i cp s σ0 H (fun _ _ => False) I (stat hac I nf) st stop) fun r s1 ⟨hr, I1⟩ => ?_
      subst hr
      exact seg_end (.ok .next) (.inl ⟨.inr rfl, a, _, H, cp, hac, tie, I1, hend⟩)
    · refine seg_bind_wrap ?_
      rw [hA]
      refine thnF (T.item (gblk X A' s_0 H_0 cenv fp) rfl rfl rfl hc i cp s σ0 H (fun _ _ => False) I (stat hac I nf) st go) fun r s1 ⟨u, hr, h1⟩ => ?_
      subst hr
      refine seg_bind_wrap ?_
      rw [hA]
      refine thnF h1 fun _ s2 ⟨x, H2, I2, r2, y2, st2, n2⟩ => ?_
      have I2' := I2.pinned (stat hac I2 n2) (T.obj _ _ st2)
      refine seg_bind_wrap ?_
      rw [hA]
      refine thnF (pg.run _ s2 _ H2 x u _ I2' r2 (step x H2 y2)) fun _ s3 ⟨σ3, H3, I3, hw3, q3⟩ => ?_
      refine seg_bind_wrap ?_
      rw [hA]
      refine thnF (pt.run _ s3 σ3 H3 _ I3 q3) fun b s4 ⟨H4, I4, q4⟩ => ?_
      have hl : σ0.length = σ3.length := by rw [← hw3, wipe_length]
      have fin : ∀ {s' : Shared} {H' : Hp}, Inv (gblk X A' s_0 H_0 cenv fp) (cp ++ pinsAt fp s2.heap) σ3 H' s' → Inv (gblk X A' s_0 H_0 cenv fp) cp σ0 H' s' ∧ tn (i + 1) s'.heap ∧ ∀ b ∈ fp, H' b = none := fun {s' H'} I' => by
        have pin' : ∀ b ∈ fp, ∀ o, s2.heap.get? b = some o → s'.heap.get? b = some o ∧ H' b = none := fun b hb o e =>
          let z := I'.pin (b, o) (List.mem_append_right _ (List.mem_append_right _ (mem_pinsAt hb e)))
          ⟨z.1, z.2.1⟩
        refine ⟨(I'.unpinned (pins := cp)).weak hl (wipe_wipe_some hw3), T.keep _ _ _ st2 fun b hb o e => (pin' b hb o e).1, fun b hb => ?_⟩
        obtain ⟨o, e, _⟩ := T.obj _ _ st2 b hb
        exact (pin' b hb o e).2
      cases b with
      | false =>
        simp only [Bool.false_eq_true, if_false] at q4 ⊢
        obtain ⟨m', hm, w'⟩ := hNx a H4 q4
        obtain ⟨J1, J2, J3⟩ := fin I4
        exact seg_again rfl (ih m' hm n (i + 1) a H4 s₀ s4 cp (by omega) w' hac tie J1 J2 J3)
      | true =>
        simp only [if_true] at q4 ⊢
        have hy : ∀ v, yieldOut cenv v = yieldValue v := fun v => by simp only [yieldOut, hco, Bool.false_eq_true, if_false]
        simp only [hy]
        rw [Sem.bind_eq_wrap', Sem.bind_eq_wrap', Sem.wrap_wrap, Sem.wrap_wrap]
        refine seg_wrap ?_
        rw [hA]
        refine thnF (pe.run _ s4 σ3 H4 _ I4 q4) fun yv s5 ⟨y, H5, I5, r5, q5⟩ => ?_
        obtain ⟨J1, J2, J3⟩ := fin I5
        -- at least one more
        cases n with
        | zero => exact absurd hmn (Nat.not_lt_zero _)
        | succ n =>
          refine seg_at (seg_yield rfl rfl rfl ⟨a, y, σ0, H5, i + 1, cp, Nx, r5, hac, tie, J1, J2, J3, q5, fun a' cp' s' nx hac' I' st' => ?_⟩)
          obtain ⟨m', hm, w'⟩ := hNx a' H5 nx
          exact seg_again rfl (ih m' hm n (i + 1) a' H5 s' s' cp' (by omega) w' hac' (fun p hp => (I'.pin p (List.mem_append_right _ hp)).1) I' st' J3)
end
/-! ### a generator that is made -/
section
variable {X : Cx} {pins : List (Addr × Obj)} {σ : L2.St} {H : Hp} {s : Shared}
def GenObj (o : Obj) (g : Nat) : Prop := ∃ nm qn, o.cls = .type "generator" ∧ o.data = .fields #[.int g 0, nm, qn] ∧ o.slots = #[]
theorem GenObj.isGen {o : Obj} {g : Nat} (h : GenObj o g) {a : Addr} {hp : Heap} (e : hp.get? a = some o) : hp.IsGen a g := by
  obtain ⟨nm, qn, h1, h2, h3⟩ := h
  exact ⟨o, nm, qn, e, h1, h2, h3⟩
/-- the generator u, made and not begun, in the state s5 -/
def Gx (X : Cx) (pins : List (Addr × Obj)) (σ : L2.St) (A : Around) (J : It) (g : TG) (tt : TT) (te : TE) (vs : List Nat) (H4 : Hp) (u : Value) (s5 : Shared) : Prop :=
  ∃ (A' : Around) (s_0 : Shared) (H_0 : Hp) (cenv : Env) (fp : List Addr) (ga : Addr) (gn : Nat) (go : Obj) (tn : Nat → Heap → Prop) (gs : GenState),
    u = .ref ga ∧ GenObj go gn ∧ s5.gens[gn]? = some gs ∧ gs.bare = true ∧ Inv (gblk X A' s_0 H_0 cenv fp) [(ga, go)] (wipe σ vs) H4 s5 ∧ tn 0 s5.heap ∧ (∀ b ∈ fp, H4 b = none) ∧ (∀ b ∈ fp, b < ga) ∧
    (∀ i h h', tn i h → (∀ b ∈ fp, ∀ o, h.get? b = some o → h'.get? b = some o) → tn i h') ∧ (∀ cp σ' H' s', Inv (gblk X A' s_0 H_0 cenv fp) cp σ' H' s' → Inv X pins σ H' s') ∧
    ∀ (α : Type) (AC : α → List (Addr × Obj) → Prop) (End : α → Hp → Prop) (Yd : α → V → Hp → (α → Hp → Prop) → Prop) (W : Nat → Nat → α → Hp → Prop) (m n : Nat) (a : α) (cp : List (Addr × Obj)) (s' : Shared),
      tGx J g tt te (wipe σ vs) vs End Yd W → W 0 m a H4 → m < n → (∀ a cp, AC a cp → ∀ p ∈ cp, ∀ b ∈ fp, p.1 ≠ b) → AC a cp → Inv (gblk X A' s_0 H_0 cenv fp) cp (wipe σ vs) H4 s' → tn 0 s'.heap →
      gs.Goes (model X.prog X.w) A (RG (gblk X A' s_0 H_0 cenv fp) AC End) (YG (gblk X A' s_0 H_0 cenv fp) fp tn AC Yd) n (.send .none) s'
/-- what stands about an asker -/
structure Near (A B : Around) : Prop where
  hd : B.handled = A.handled
  fr : B.frames = A.frames
  gd : B.guards = A.guards
  dp : B.depth = A.depth
  un : B.units ≤ A.units + 8
theorem gx_make {c P : Addr} {elt tg iter : Expr} {ifs : List Expr} {gpos : Pos} {scope : Scope} {own : List (Str × Nat)} {wi : TI} {g : TG} {tt : TT} {te : TE} {k : Nat} {Q' : Value → Shared → Prop} {R : It → Hp → Prop} {A : Around}
    (hr : Room (k + 1) X.A) (near : Near X.A A) (hc : X.calm = true) (hN : X.N.Nodup) (TB : GxR.TabB X.base X.mg c P) (hcode : X.env.code = .ref c) (hco : scope.isCoroutine = false) (hdot : scope.names.lookup (".0" : Str) = some NameKind.local)
    (nocell : ∀ y ∈ scope.names, y.2 ≠ .cell) (ok : BlkOk X.N X.env.scope scope own) (hi : PI X tg iter wi)
    (hg : ∀ (A' : Around) (s : Shared) (H : Hp) (C : Addr) (cl : List (Str × Addr)) (code : Value) (fp : List Addr), Room k A' → A'.guards = X.A.guards → PG (gblk X A' s H (genEnv scope cl C code builtinsNs X.env) fp) tg g)
    (ht : ∀ (A' : Around) (s : Shared) (H : Hp) (C : Addr) (cl : List (Str × Addr)) (code : Value) (fp : List Addr), Room k A' → A'.guards = X.A.guards → PTs (gblk X A' s H (genEnv scope cl C code builtinsNs X.env) fp) ifs tt)
    (he : ∀ (A' : Around) (s : Shared) (H : Hp) (C : Addr) (cl : List (Str × Addr)) (code : Value) (fp : List Addr), Room k A' → A'.guards = X.A.guards → PE (gblk X A' s H (genEnv scope cl C code builtinsNs X.env) fp) elt te)
    (hs : ∀ v, genFold iter X.env v = pure v) (I : Inv X pins σ H s) (h : wi σ H fun J H1 => GxR.TabG H1 P ∧ R J H1)
    (hQ : ∀ J H1 H2 u s5, R J H1 → GxR.Tabbed P H1 H2 → Gx X pins σ A J g tt te (own.map (·.2)) H2 u s5 → Q' u s5) :
    wpAny (model X.prog X.w) X.A (eval (.GeneratorExp elt [⟨tg, iter, ifs, 0⟩] scope gpos) X.env) Q' X.xe s := by
  have hfree : ∀ y ∈ scope.names, y.2 = .free → ∃ c, X.env.cells.lookup y.1 = some c := fun y hy e => by
    rcases ok.free y hy e with k | k
    · exact I.ok.has _ (.inl k)
    · exact I.ok.has _ (.inr k)
  refine wpAny_GeneratorExp_make hco (closure_ok hfree) nocell hdot ok.kind (by have := hr.dp; omega) ?_ hs
  refine thn (hi.run pins s σ H _ I h) fun xv s1 hx => thn hx fun itv s2 h2 => ?_
  obtain ⟨it, fp, tn, J, H2, rfl, I2, T, st2, f2, ⟨ps, hP, ht3⟩, q⟩ := h2
  refine ⟨I2.nolimit, ?_⟩
  have hPs : s2.heap.get? P = some { cls := .none, data := .fields ps } := I2.hok P _ hP
  have cd : PySem.W.CodeHd s2.heap c P := TB.code.keeps fun b u e => I2.bk b u e
  have nP : ∀ b, H2 b = none → b ≠ P := fun b e z => by
    rw [z, hP] at e
    cases e
  have cont : ∀ (code : Value) (h3 : Heap) (tk : Nat) (ps' : Array Value), Heap.ExtBut P s2.heap h3 → s2.heap.objs.size ≤ h3.objs.size → h3.get? P = some { cls := .none, data := .fields ps' } → (∃ more, ps' = ps ++ more) → TriplesOk ps'.toList →
      wpAny (model X.prog X.w) X.A (builtinsFor X.env.globals X.env.builtins) (fun bi s₄ =>
        ∀ h', h'.Ns s₄.heap.objs.size (fun y => if y = ".0" then some (Value.ref it) else none) → Heap.SameBut s₄.heap.objs.size (s₄.heap.push { cls := .type "frame", data := .dict #[] }) h' →
          Q' (.ref h'.objs.size) { s₄ with
            gens := s₄.gens.push (.fresh (.compStart (.GeneratorExp elt [⟨tg, iter, ifs, 0⟩] scope gpos) 0 (.ref it) .none (genEnv scope (cloFrom X.env.cells scope.names []) s₄.heap.objs.size code bi X.env))),
            toks := s₄.toks + 1 + 1 + 1,
            heap := h'.push { cls := .type "generator", data := .fields #[.int s₄.gens.size 0, .str "<genexpr>" (s₄.toks + 1), .str (X.env.qual ++ "<genexpr>") (s₄.toks + 1 + 1)] } }) X.xe { s2 with heap := h3, toks := tk } := by
    rintro code h3 tk ps' hx hsz hP3 ⟨more, rfl⟩ ht4
    obtain ⟨bm, ob, e1, e2, e3, e4, e5, e6, e7, e8⟩ := TB.bm
    refine wpAny_builtinsFor (m := X.mg) (by rw [I2.ok.glob]; exact (I2.mod.glob.keeps I2.bk).extBut hx TB.gP) e1 e2 (hx _ _ e4 (I2.bk _ _ e5)) e6 e7 e8 ?_
    intro h' hns hsb
    have I3 : Inv X pins σ (upd H2 P (.tbl (ps ++ more))) { s2 with heap := h3, toks := tk } := GxR.inv_tab (g' := s2.gens) (d' := s2.drawn) I2 hP (fun b o hb e => hx b o hb e) hP3 I2.bare
    have lt2 : ∀ b ∈ fp, b < s2.heap.objs.size := fun b hb => by
      obtain ⟨o, e, _⟩ := T.obj _ _ st2 b hb
      exact Heap.lt_size e
    have f3 : ∀ b ∈ fp, FpOk X pins (upd H2 P (.tbl (ps ++ more))) b ∧ b < ({ s2 with heap := h3, toks := tk } : Shared).heap.objs.size := fun b hb => by
      refine ⟨⟨?_, (f2 b hb).2⟩, Nat.lt_of_lt_of_le (lt2 b hb) hsz⟩
      rw [upd_ne (nP b (f2 b hb).1)]
      exact (f2 b hb).1
    have st3 : tn 0 h3 := T.keep _ _ _ st2 fun b hb o e => hx b o (nP b (f2 b hb).1) e
    generalize hs4 : ({ s2 with heap := h3, toks := tk } : Shared) = s4 at I3 f3 hns hsb ⊢
    have h4 : s4.heap = h3 := by rw [← hs4]
    have hsz4 : h'.objs.size = s4.heap.objs.size + 1 := by rw [hsb.1, Heap.size_push]
    have keep' : ∀ b o, s4.heap.get? b = some o → h'.get? b = some o := fun b o e => hsb.extBut b o (Nat.ne_of_lt (Heap.lt_size e)) (Heap.get?_push_of_some _ e)
    generalize hgo : ({ cls := .type "generator", data := .fields #[.int s4.gens.size 0, .str "<genexpr>" (s4.toks + 1), .str (X.env.qual ++ "<genexpr>") (s4.toks + 1 + 1)] } : Obj) = go
    have hGO : GenObj go s4.gens.size := by rw [← hgo]; exact ⟨_, _, rfl, rfl, rfl⟩
    have k5 : ∀ b o, s4.heap.get? b = some o → (h'.push go).get? b = some o := fun b o e => Heap.get?_push_of_some _ (keep' b o e)
    have pg := fun A' => hg A' s4 (upd H2 P (.tbl (ps ++ more))) s4.heap.objs.size (cloFrom X.env.cells scope.names []) code fp
    have pt := fun A' => ht A' s4 (upd H2 P (.tbl (ps ++ more))) s4.heap.objs.size (cloFrom X.env.cells scope.names []) code fp
    have pe := fun A' => he A' s4 (upd H2 P (.tbl (ps ++ more))) s4.heap.objs.size (cloFrom X.env.cells scope.names []) code fp
    generalize hce : genEnv scope (cloFrom X.env.cells scope.names []) s4.heap.objs.size code builtinsNs X.env = cenv at pg pt pe ⊢
    have hscn : cenv.scope = scope := by rw [← hce]; rfl
    generalize hA' : A.over (.compLoop (.GeneratorExp elt [⟨tg, iter, ifs, 0⟩] scope gpos) 0 (.ref it) .none cenv) [] = A'
    have hfrA : A'.frames = some (cenv :: X.stack) := by
      rw [← hA']
      show pushEnvs [cenv] A.frames = _
      rw [near.fr, I2.ok.frames]
      rfl
    have hhd : A'.handled = none := by
      rw [← hA']
      show A.handled = none
      rw [near.hd]
      exact hr.hd
    have rm : Room k A' := by
      refine ⟨hhd, ?_, ?_⟩
      · have := hr.dp
        have := near.dp
        rw [← hA']
        show A.depth + 0 + 1 + 3 * k + 5 < _
        omega
      · have := hr.un
        have := near.un
        rw [← hA']
        show A.units + 0 + 3 + 16 * k + 200 < _
        omega
    have gdA : A'.guards = X.A.guards := by
      rw [← hA']
      show pushGuards [] A.guards = _
      rw [near.gd]
      rfl
    have I5 : Inv (gblk X A' s4 (upd H2 P (.tbl (ps ++ more))) cenv fp) [(h'.objs.size, go)] (wipe σ (own.map (·.2))) (upd H2 P (.tbl (ps ++ more)))
        { s4 with gens := s4.gens.push (.fresh (.compStart (.GeneratorExp elt [⟨tg, iter, ifs, 0⟩] scope gpos) 0 (.ref it) .none cenv)), toks := s4.toks + 1 + 1 + 1, heap := h'.push go } := by
      subst hce
      refine gen_start (it := .ref it) I3 ok nocell hN f3 hhd hfrA rfl (I3.bare.push rfl) k5 (hns.push _) fun p hp => ?_
      have e : p = (h'.objs.size, go) := by simpa using hp
      subst e
      refine ⟨by show s4.heap.objs.size < h'.objs.size; omega, Heap.get?_push_size _ (by rw [← hgo]; rfl), fun v z => ?_⟩
      rw [← hgo] at z
      cases z
    refine hQ J H2 _ _ _ q ⟨⟨_, upd_same, ht4⟩, fun b hb => upd_ne hb⟩ ⟨A', s4, _, cenv, fp, h'.objs.size, s4.gens.size, go, tn, _, rfl, hGO, Array.getElem?_push_size .., rfl, I5, ?_, fun b hb => (f3 b hb).1.1, fun b hb => ?_, T.keep, fun cp σ' H' s' I' => ?_, ?_⟩
    · exact T.keep _ _ _ st3 fun b _ o e => k5 b o (by rw [h4]; exact e)
    · have := (f3 b hb).2
      rw [hsz4]
      exact Nat.lt_succ_of_lt this
    · exact I3.call' (ch := fp) I'.os I'.base I'.hok I'.bare fun b hb => ⟨(f3 b hb).1.2.2.2.1, (f3 b hb).1.2.1, (f3 b hb).1.2.2.2.2.1, (f3 b hb).1.2.2.2.2.2⟩
    · intro α AC End Yd W m n a cp s' turn w hmn hAC hac I' st'
      refine ⟨rfl, ?_⟩
      have loop := seg_gx (A := A) (pos := gpos) (iter := iter) (scope := scope) hA' hc (by rw [hscn]; exact hco) T (pg A' rm gdA) (pt A' rm gdA) (pe A' rm gdA) hAC turn m n 0 a _ s' s' cp hmn w hac (fun p hp => (I'.pin p (List.mem_append_right _ hp)).1) I' st' fun b hb => (f3 b hb).1.1
      show Seg _ A _ _ _ s' _ ((compStart (.GeneratorExp elt [⟨tg, iter, ifs, 0⟩] scope gpos) 0 (.ref it) .none cenv).onRaise (leaving cenv)) [] s'
      unfold compStart
      rw [Sem.onRaise_eq_wrap]
      show Seg _ A _ _ _ s' _ ((ask >>= _).wrap _ _ _ _) [] s'
      refine seg_bind_wrap (wpAny_askSetting ?_)
      split
      · exact seg_again rfl loop
      · first
          | exact seg_bind_wrap (wpAny_rule (seg_bind_wrap (wpAny_standAt (seg_bind_wrap (T.self _ 0 s' _ _ st' (seg_again rfl loop))))))
          | (refine seg_bind_wrap (wpAny_rule ?_); show Seg _ A _ _ _ s' _ ((standAt iter.pos >>= _).wrap _ _ _ _) [] s'; exact seg_bind_wrap (wpAny_standAt (seg_bind_wrap (T.self _ 0 s' _ _ st' (seg_again rfl loop)))))
  cases hf : codeAmong gpos ps.toList with
  | none =>
    refine wpAny_genexprCodeX hcode (cd.code hPs ht3) (cd.tab hPs) hf fun c' h' tk hx hge hlt hco' _ htab' _ => ?_
    obtain ⟨o1, vs, f1, tf, fl, tg, inF, tx, tt, op, _, _, _, _, _, _, _, _, _, htr, _⟩ := hco'
    exact cont _ h' tk _ hx (Nat.le_trans hge (Nat.le_of_lt hlt)) htab'.2 ⟨_, rfl⟩ htr
  | some cv =>
    refine wpAny_genexprCode_hit hcode (cd.code hPs ht3) hf ?_
    exact cont cv s2.heap s2.toks ps (Heap.ExtBut.refl _ _) (Nat.le_refl _) hPs ⟨#[], by simp⟩ ht3
end
/-! ### asking -/
section
variable {α : Type} {X : Cx} {A A' : Around} {s_0 : Shared} {H_0 : Hp} {cenv : Env} {fp : List Addr} {tn : Nat → Heap → Prop} {AC : α → List (Addr × Obj) → Prop} {End : α → Hp → Prop} {Yd : α → V → Hp → (α → Hp → Prop) → Prop} {ga : Addr} {gn n : Nat} {go : Obj}
theorem next_gx2 {gs : GenState} {s : Shared} {Q : Option Value → Shared → Prop} {E : Value → Shared → Prop} (hh : A.handled = none) (hroom : A.depth < recursionLimit) (hl : s.heap.NoLimit) (hG : GenObj go gn) (e : s.heap.get? ga = some go) (hgs : s.gens[gn]? = some gs)
    (hgo : gs.Goes (model X.prog X.w) A.in1 (RG (gblk X A' s_0 H_0 cenv fp) AC End) (YG (gblk X A' s_0 H_0 cenv fp) fp tn AC Yd) n (.send .none) (s.setGen gn .running))
    (item : ∀ (a : α) (x : V) (σ : L2.St) (H : Hp) (i : Nat) (cp : List (Addr × Obj)) (Nx : α → Hp → Prop) (v : Value) (s1 : Shared) (gs' : GenState), RelV x v → AC a cp → (∀ p ∈ cp, s.heap.get? p.1 = some p.2) → Inv (gblk X A' s_0 H_0 cenv fp) cp σ H s1 → tn i s1.heap → Yd a x H Nx → s1.gens[gn]? = some gs' →
      (∀ a' cp' s', Nx a' H → AC a' cp' → Inv (gblk X A' s_0 H_0 cenv fp) cp' σ H s' → tn i s'.heap → ∃ m, n = m + 1 ∧ gs'.Goes (model X.prog X.w) A.in1 (RG (gblk X A' s_0 H_0 cenv fp) AC End) (YG (gblk X A' s_0 H_0 cenv fp) fp tn AC Yd) m (.send .none) s') → Q (some v) s1)
    (done : ∀ (a : α) (σ : L2.St) (H : Hp) (cp : List (Addr × Obj)) (s1 : Shared), AC a cp → (∀ p ∈ cp, s.heap.get? p.1 = some p.2) → Inv (gblk X A' s_0 H_0 cenv fp) cp σ H s1 → End a H → Q none s1) :
    wpAny (model X.prog X.w) A (pyNext (.ref ga)) Q E s := by
  have hgl : gn < s.gens.size := (Array.getElem?_eq_some_iff.mp hgs).1
  refine GenW.wpAny_gsz (n := gn + 1) hgl (next_genG (Er := fun _ _ => False) hh hl hroom (hG.isGen e) hgs hgo (fun v s₁ gs' hbare hv => ?_) (fun s₁ hp h' hk => ?_) fun e s₁ he => he.elim)
  · intro hsz
    obtain ⟨a, x, σ, H, i, cp, Nx, r, hac, tie, I, st, nf, hy, kap⟩ := hv
    have hsz1 : gn < s₁.gens.size := by
      have q : (s₁.setGen gn gs').gens.size = s₁.gens.size := GenW.setGen_size _ _ _
      have hsz' : gn + 1 ≤ (s₁.setGen gn gs').gens.size := hsz
      omega
    refine item a x σ H i cp Nx v (s₁.setGen gn gs') gs' r hac tie (inv_moved I rfl (allBare_setGen I.bare hbare) fun _ _ q => q) st hy (setGen_at hsz1) fun a' cp' s' nx hac' I' st' => ?_
    have z := kap a' cp' s' nx hac' I' st'
    cases n with
    | zero => exact z.elim
    | succ m => exact ⟨m, rfl, z⟩
  · intro _
    obtain ⟨a, σ, H, cp, hac, tie, I, q⟩ := hp
    exact done a σ H cp _ hac tie (inv_moved I rfl (allBare_setGen I.bare rfl) hk) q
theorem next_gx {gs : GenState} {s : Shared} {Q : Option Value → Shared → Prop} {E : Value → Shared → Prop} (hh : A.handled = none) (hroom : A.depth < recursionLimit) (hl : s.heap.NoLimit) (hG : GenObj go gn) (e : s.heap.get? ga = some go) (hgs : s.gens[gn]? = some gs)
    (hgo : gs.Goes (model X.prog X.w) A.in1 (RG (gblk X A' s_0 H_0 cenv fp) AC End) (YG (gblk X A' s_0 H_0 cenv fp) fp tn AC Yd) n (.send .none) (s.setGen gn .running))
    (item : ∀ (a : α) (x : V) (σ : L2.St) (H : Hp) (i : Nat) (cp : List (Addr × Obj)) (Nx : α → Hp → Prop) (v : Value) (s1 : Shared) (gs' : GenState), RelV x v → AC a cp → Inv (gblk X A' s_0 H_0 cenv fp) cp σ H s1 → tn i s1.heap → Yd a x H Nx → s1.gens[gn]? = some gs' →
      (∀ a' cp' s', Nx a' H → AC a' cp' → Inv (gblk X A' s_0 H_0 cenv fp) cp' σ H s' → tn i s'.heap → ∃ m, n = m + 1 ∧ gs'.Goes (model X.prog X.w) A.in1 (RG (gblk X A' s_0 H_0 cenv fp) AC End) (YG (gblk X A' s_0 H_0 cenv fp) fp tn AC Yd) m (.send .none) s') → Q (some v) s1)
    (done : ∀ (a : α) (σ : L2.St) (H : Hp) (cp : List (Addr × Obj)) (s1 : Shared), AC a cp → Inv (gblk X A' s_0 H_0 cenv fp) cp σ H s1 → End a H → Q none s1) :
    wpAny (model X.prog X.w) A (pyNext (.ref ga)) Q E s :=
  next_gx2 hh hroom hl hG e hgs hgo (fun a x σ H i cp Nx v s1 gs' r hac _ I st hy at_ kap => item a x σ H i cp Nx v s1 gs' r hac I st hy at_ kap) fun a σ H cp s1 hac _ I q => done a σ H cp s1 hac I q
/-- all(..) asks on -/
theorem all_gx {R : Result → Shared → Prop} {Stop : Hp → Prop} {End : Unit → Hp → Prop} (hh : A.handled = none) (hroom : A.depth < recursionLimit) (hG : GenObj go gn)
    (yes : ∀ (σ : L2.St) (H : Hp) (cp : List (Addr × Obj)) (s1 : Shared), Inv (gblk X A' s_0 H_0 cenv fp) cp σ H s1 → End () H → R (.ok (.ret (.bool true))) s1)
    (no : ∀ (σ : L2.St) (H : Hp) (cp : List (Addr × Obj)) (s1 : Shared), Inv (gblk X A' s_0 H_0 cenv fp) cp σ H s1 → Stop H → R (.ok (.ret (.bool false))) s1) :
    ∀ (n : Nat) (s : Shared), s.heap.NoLimit → s.heap.get? ga = some go → (∃ gs, s.gens[gn]? = some gs ∧ gs.Goes (model X.prog X.w) A.in1.in1 (RG (gblk X A' s_0 H_0 cenv fp) (fun _ cp => cp = [(ga, go)]) End)
      (YG (gblk X A' s_0 H_0 cenv fp) fp tn (fun _ cp => cp = [(ga, go)]) (fun _ y H Nx => ∃ b : Bool, y = .bl b ∧ if b = true then Nx () H else Stop H)) n (.send .none) (s.setGen gn .running)) →
      codeAny (model X.prog X.w) A (.builtin "all.loop" ⟨[.ref ga], []⟩) R s := by
  intro n
  induction n with
  | zero =>
    rintro s hl e ⟨gs, hgs, hgo⟩
    refine codeAny_builtin F.entry_all_loop ?_
    rw [Around.under_plainId F.plain_all_loop _]
    show wpAny _ A.in1 (pyNext (.ref ga) >>= _) _ _ s
    refine wpAny_bind (next_gx (A := A.in1) hh hroom hl hG e hgs hgo (fun a x σ H i cp Nx v s1 gs' r hac I st hy at_ kap => ?_) fun a σ H cp s1 hac I q => ?_)
    · obtain ⟨b, rfl, hb⟩ := hy
      cases (show v = Value.bool b from r)
      refine wpAny_bind (wpAny_holding (wpAny_truthy_bool ?_))
      refine wpAny_bind (wpAny_letGo ?_)
      cases b with
      | true =>
        obtain ⟨m, hm, _⟩ := kap () cp s1 hb hac I st
        cases hm
      | false =>
        simp only [Bool.false_eq_true, if_false] at hb ⊢
        exact wpAny_bind (wpAny_rule (wpAny_pure (no σ H cp s1 I hb)))
    · exact wpAny_bind (wpAny_rule (wpAny_pure (yes σ H cp s1 I q)))
  | succ n ih =>
    rintro s hl e ⟨gs, hgs, hgo⟩
    refine codeAny_builtin F.entry_all_loop ?_
    rw [Around.under_plainId F.plain_all_loop _]
    show wpAny _ A.in1 (pyNext (.ref ga) >>= _) _ _ s
    refine wpAny_bind (next_gx (A := A.in1) hh hroom hl hG e hgs hgo (fun a x σ H i cp Nx v s1 gs' r hac I st hy at_ kap => ?_) fun a σ H cp s1 hac I q => ?_)
    · obtain ⟨b, rfl, hb⟩ := hy
      cases (show v = Value.bool b from r)
      refine wpAny_bind (wpAny_holding (wpAny_truthy_bool ?_))
      refine wpAny_bind (wpAny_letGo ?_)
      cases b with
      | true =>
        simp only [if_true] at hb ⊢
        subst hac
        refine wpAny_pure ⟨plainId_quiet F.plain_all_loop _, ih s1 I.nolimit (I.pin (ga, go) (List.mem_append_right _ List.mem_cons_self)).1 ⟨gs', at_, ?_⟩⟩
        obtain ⟨m, hm, z⟩ := kap () [(ga, go)] (s1.setGen gn .running) hb rfl (inv_moved I rfl (allBare_setGen I.bare rfl) fun _ _ q => q) st
        cases hm
        exact z
      | false =>
        simp only [Bool.false_eq_true, if_false] at hb ⊢
        exact wpAny_bind (wpAny_rule (wpAny_pure (no σ H cp s1 I hb)))
    · exact wpAny_bind (wpAny_rule (wpAny_pure (yes σ H cp s1 I q)))
end
section
variable {X : Cx}
/-- all(elt for tg in iter ..) -/
def tAllX (P : Addr) (wi : TI) (g : TG) (tt : TT) (te : TE) (vs : List Nat) : TE := fun σ H Q => wi σ H fun J H1 => GxR.TabG H1 P ∧ ∀ H2, GxR.Tabbed P H1 H2 → ∃ W : Nat → Nat → Unit → Hp → Prop, (∃ m, W 0 m () H2) ∧
  tGx J g tt te (wipe σ vs) vs (fun _ H => Q (.bl true) H) (fun _ y H Nx => ∃ b : Bool, y = .bl b ∧ if b = true then Nx () H else Q (.bl false) H) W
theorem pe_allX {c P : Addr} {elt tg iter : Expr} {ifs : List Expr} {p pos gpos : Pos} {scope : Scope} {own : List (Str × Nat)} {wi : TI} {g : TG} {tt : TT} {te : TE} {k : Nat}
    (hr : Room (k + 1) X.A) (hc : X.calm = true) (hN : X.N.Nodup) (hgl : Gl X "all") (hm : X.mg "all" = none) (hb : bootBuiltins "all" = some (.builtin "all")) (TB : GxR.TabB X.base X.mg c P) (hcode : X.env.code = .ref c)
    (hco : scope.isCoroutine = false) (hdot : scope.names.lookup (".0" : Str) = some NameKind.local) (nocell : ∀ y ∈ scope.names, y.2 ≠ .cell) (ok : BlkOk X.N X.env.scope scope own) (hi : PI X tg iter wi)
    (hg : ∀ (A' : Around) (s : Shared) (H : Hp) (C : Addr) (cl : List (Str × Addr)) (code : Value) (fp : List Addr), Room k A' → A'.guards = X.A.guards → PG (gblk X A' s H (genEnv scope cl C code builtinsNs X.env) fp) tg g)
    (ht : ∀ (A' : Around) (s : Shared) (H : Hp) (C : Addr) (cl : List (Str × Addr)) (code : Value) (fp : List Addr), Room k A' → A'.guards = X.A.guards → PTs (gblk X A' s H (genEnv scope cl C code builtinsNs X.env) fp) ifs tt)
    (he : ∀ (A' : Around) (s : Shared) (H : Hp) (C : Addr) (cl : List (Str × Addr)) (code : Value) (fp : List Addr), Room k A' → A'.guards = X.A.guards → PE (gblk X A' s H (genEnv scope cl C code builtinsNs X.env) fp) elt te)
    (hs : ∀ v, genFold iter X.env v = pure v)
    (hst : starEach [.GeneratorExp elt [⟨tg, iter, ifs, 0⟩] scope gpos] X.env = (false, eval (.GeneratorExp elt [⟨tg, iter, ifs, 0⟩] scope gpos) X.env) :: starEach [] X.env := by rfl) :
    PE X (.Call (.Name "all" p) [.GeneratorExp elt [⟨tg, iter, ifs, 0⟩] scope gpos] [] pos) (tAllX P wi g tt te (own.map (·.2))) := by
  refine ⟨fun pins s σ H Q I h => ?_⟩
  refine wpAny_Call_Name_kw (ld_blt I hgl hm hb ?_)
  refine PyProof.Rows.callWith_builtin1 ?_ hst (by rfl)
  rw [hst]
  show wpAny _ _ (spliced ((false, eval (.GeneratorExp elt [⟨tg, iter, ifs, 0⟩] scope gpos) X.env) :: backTo pos (starEach [] X.env))) _ _ s
  refine Calls.spliced_cons (gx_make (A := X.A.in1.in1) hr ⟨rfl, rfl, rfl, rfl, (by show X.A.units + 1 + 1 ≤ _; omega)⟩ hc hN TB hcode hco hdot nocell ok hi hg ht he hs I h fun J H1 H2 u s5 hR hT hG => ?_)
  obtain ⟨A', s_0, H_0, cenv, fp, ga, gn, go, tn, gs, rfl, hGO, hgs, hbare, I5, st5, nf, hlt, keep, back, goes⟩ := hG
  obtain ⟨W, ⟨m, w0⟩, turn⟩ := hR H2 hT
  refine Calls.spliced_nil ?_
  have pin5 := (I5.pin (ga, go) (List.mem_append_right _ List.mem_cons_self)).1
  refine call_function_tree F.kind_all F.plain_all F.entry_all (F.args_all1 _) ?_
  unfold Builtin.«all»
  refine wpAny_bind (m := oneArg "all" _) (wpAny_pure ?_)
  refine wpAny_bind (wpAny_pyIter_gen (hGO.isGen pin5) ?_)
  refine wpAny_pure ⟨plainId_quiet F.plain_all_loop _, all_gx (A' := A') (s_0 := s_0) (H_0 := H_0) (cenv := cenv) (fp := fp) (tn := tn) (go := go) (gn := gn) (Stop := fun H => Q (.bl false) H) (End := fun _ H => Q (.bl true) H) hr.hd hr.depth hGO
    (fun σ' H' cp s1 I1 q => ⟨.bl true, H', back _ _ _ _ I1, rfl, q⟩) (fun σ' H' cp s1 I1 q => ⟨.bl false, H', back _ _ _ _ I1, rfl, q⟩) (m + 1) s5 I5.nolimit pin5 ⟨gs, hgs, ?_⟩⟩
  refine goes Unit _ _ _ W m (m + 1) () [(ga, go)] _ turn w0 (Nat.lt_succ_self _) (fun a cp hac p hp b hb z => ?_) rfl (inv_moved I5 rfl (allBare_setGen I5.bare rfl) fun _ _ q => q) st5
  subst hac
  have e : p = (ga, go) := by simpa using hp
  subst e
  exact absurd (hlt b hb) (by rw [← z]; exact Nat.lt_irrefl _)
end
/-! ### tuple(..) -/
section
variable {X : Cx} {A A' : Around} {s_0 : Shared} {H_0 : Hp} {cenv : Env} {fp : List Addr} {tn : Nat → Heap → Prop} {ga S : Addr} {gn n : Nat} {go : Obj}
/-- the asker's list S holds what is out -/
def ACl (ga : Addr) (go : Obj) (S : Addr) (ys : List V) (cp : List (Addr × Obj)) : Prop := ∃ (acc : Array Value) (c : Nat), cp = [(ga, go), (S, lstObj acc c)] ∧ Vals ys acc.toList
def YdL (ys : List V) (y : V) (H : Hp) (Nx : List V → Hp → Prop) : Prop := ys.length < sizeLine ∧ Nx (ys ++ [y]) H
theorem ext_gx {R : Result → Shared → Prop} {End : List V → Hp → Prop} {res : Value} (hh : A.handled = none) (hroom : A.depth < recursionLimit) (hG : GenObj go gn) (hSa : S ≠ ga) (far : (gblk X A' s_0 H_0 cenv fp).s_0.heap.objs.size ≤ S) (hSc : ∀ x c, cenv.cells.lookup x = some c → c ≠ S)
    (keep : ∀ i h h', tn i h → (∀ b ∈ fp, ∀ o, h.get? b = some o → h'.get? b = some o) → tn i h') (hSf : ∀ b ∈ fp, b ≠ S)
    (yes : ∀ (σ : L2.St) (H : Hp) (ys : List V) (acc : Array Value) (c : Nat) (s1 : Shared), Inv (gblk X A' s_0 H_0 cenv fp) [(ga, go), (S, lstObj acc c)] σ H s1 → Vals ys acc.toList → End ys H → R (.ok (.ret res)) s1) :
    ∀ (n : Nat) (s : Shared), s.heap.NoLimit → s.heap.get? ga = some go → (∃ gs, s.gens[gn]? = some gs ∧ gs.Goes (model X.prog X.w) A.in1.in1 (RG (gblk X A' s_0 H_0 cenv fp) (ACl ga go S) End)
      (YG (gblk X A' s_0 H_0 cenv fp) fp tn (ACl ga go S) YdL) n (.send .none) (s.setGen gn .running)) →
      codeAny (model X.prog X.w) A (.builtin "list.extend.loop" ⟨[.ref S, .ref ga, res], []⟩) R s := by
  intro n
  induction n with
  | zero =>
    rintro s hl e ⟨gs, hgs, hgo⟩
    refine codeAny_builtin F.entry_extend_loop ?_
    rw [Around.under_plainId F.plain_extend_loop _]
    show wpAny _ A.in1 (pyNext (.ref ga) >>= _) _ _ s
    refine wpAny_bind (next_gx (A := A.in1) hh hroom hl hG e hgs hgo (fun ys x σ H i cp Nx v s1 gs' r hac I st hy at_ kap => ?_) fun ys σ H cp s1 hac I q => ?_)
    · obtain ⟨acc, c, rfl, rv⟩ := hac
      have pS := I.pin (S, lstObj acc c) (List.mem_append_right _ (List.mem_cons_of_mem _ List.mem_cons_self))
      have I0 : Inv (gblk X A' s_0 H_0 cenv fp) [(ga, go)] σ H s1 := I.pins_of fun p hp => I.pin p (List.mem_append_right _ (by rw [List.mem_singleton.mp hp]; exact List.mem_cons_self))
      have I1 := I0.turned (t' := s1.toks) (h' := s1.heap.update S (Obj.mapSeq (·.push v))) (it := S) (fun b o hb q => (Heap.get?_update_other _ _ (Ne.symm hb)).trans q) pS.2.1 pS.2.2.1 (.inr far) hSc (fun p hp => by rw [List.mem_singleton.mp (show p ∈ [(ga, go)] by simpa using hp)]; exact Ne.symm hSa)
      have e2 := Heap.get?_update_self (Obj.mapSeq (·.push v)) pS.1 rfl
      obtain ⟨m, hm, _⟩ := kap (ys ++ [x]) [(ga, go), (S, _)] _ hy.2 ⟨acc.push v, _, rfl, by rw [Array.toList_push]; exact rv.append (.cons r .nil)⟩ (I1.pins_of fun p hp => by
        rcases List.mem_cons.mp hp with z | z
        · rw [z]; exact I1.pin (ga, go) (List.mem_append_right _ List.mem_cons_self)
        · rw [List.mem_singleton.mp z]; exact ⟨e2, pS.2.1, pS.2.2.1, pS.2.2.2.1, fun v q => by cases q⟩) (keep _ _ _ st fun b hb o q => (Heap.get?_update_other _ _ (Ne.symm (hSf b hb))).trans q)
      cases hm
    · obtain ⟨acc, c, rfl, rv⟩ := hac
      exact wpAny_pure (yes σ H ys acc c s1 I rv q)
  | succ n ih =>
    rintro s hl e ⟨gs, hgs, hgo⟩
    refine codeAny_builtin F.entry_extend_loop ?_
    rw [Around.under_plainId F.plain_extend_loop _]
    show wpAny _ A.in1 (pyNext (.ref ga) >>= _) _ _ s
    refine wpAny_bind (next_gx (A := A.in1) hh hroom hl hG e hgs hgo (fun ys x σ H i cp Nx v s1 gs' r hac I st hy at_ kap => ?_) fun ys σ H cp s1 hac I q => ?_)
    · obtain ⟨acc, c, rfl, rv⟩ := hac
      have pS := I.pin (S, lstObj acc c) (List.mem_append_right _ (List.mem_cons_of_mem _ List.mem_cons_self))
      have I0 : Inv (gblk X A' s_0 H_0 cenv fp) [(ga, go)] σ H s1 := I.pins_of fun p hp => I.pin p (List.mem_append_right _ (by rw [List.mem_singleton.mp hp]; exact List.mem_cons_self))
      have I1 := I0.turned (t' := s1.toks) (h' := s1.heap.update S (Obj.mapSeq (·.push v))) (it := S) (fun b o hb q => (Heap.get?_update_other _ _ (Ne.symm hb)).trans q) pS.2.1 pS.2.2.1 (.inr far) hSc (fun p hp => by rw [List.mem_singleton.mp (show p ∈ [(ga, go)] by simpa using hp)]; exact Ne.symm hSa)
      have e2 := Heap.get?_update_self (Obj.mapSeq (·.push v)) pS.1 rfl
      have hln := rv.length
      have hlt : acc.size < sizeLine := by
        have := hy.1
        rw [hln] at this
        simpa using this
      have pG := I1.pin (ga, go) (List.mem_append_right _ List.mem_cons_self)
      show wpAny _ A.in1 (updateSeq S (·.push v) >>= _) _ _ _
      refine wpAny_bind ?_
      refine wpAny_updateSeq pS.1 rfl (wpAny_pure ⟨plainId_quiet F.plain_extend_loop _, ih _ I1.nolimit pG.1 ⟨gs', at_, ?_⟩⟩) (Nat.le_of_lt hlt) (by show (acc.push v).size ≤ sizeLine + 1; rw [Array.size_push]; omega)
      obtain ⟨m, hm, z⟩ := kap (ys ++ [x]) [(ga, go), (S, _)] (({ s1 with heap := s1.heap.update S (Obj.mapSeq (·.push v)) } : Shared).setGen gn .running) hy.2 ⟨acc.push v, _, rfl, by rw [Array.toList_push]; exact rv.append (.cons r .nil)⟩ (inv_moved (I1.pins_of fun p hp => by
        rcases List.mem_cons.mp hp with z | z
        · rw [z]; exact pG
        · rw [List.mem_singleton.mp z]; exact ⟨e2, pS.2.1, pS.2.2.1, pS.2.2.2.1, fun v q => by cases q⟩) rfl (allBare_setGen (s := { s1 with heap := s1.heap.update S (Obj.mapSeq (·.push v)) }) I1.bare rfl) fun _ _ q => q) (keep _ _ _ st fun b hb o q => (Heap.get?_update_other _ _ (Ne.symm (hSf b hb))).trans q)
      cases hm
      exact z
    · obtain ⟨acc, c, rfl, rv⟩ := hac
      exact wpAny_pure (yes σ H ys acc c s1 I rv q)
end
section
variable {X : Cx} {pins : List (Addr × Obj)} {σ : L2.St} {s5 : Shared} {J : It} {g : TG} {tt : TT} {te : TE} {vs : List Nat} {H4 : Hp} {u : Value}
/-- all that a generator hands out, in a list of the asker's own -/
theorem collect_gx {A : Around} {E : Value → Shared → Prop} {Q : List Value → Shared → Prop} {End : List V → Hp → Prop} {W : Nat → Nat → List V → Hp → Prop} {m : Nat} (hh : A.handled = none) (hroom : A.depth < recursionLimit) (G : Gx X pins σ A.in1.in1 J g tt te vs H4 u s5)
    (w0 : W 0 m [] H4) (turn : tGx J g tt te (wipe σ vs) vs End YdL W)
    (hQ : ∀ (s' : Shared) (acc : Array Value) (ys : List V) (H' : Hp), Inv X pins σ H' s' → Vals ys acc.toList → End ys H' → Q acc.toList s') : wpAny (model X.prog X.w) A (collect u) Q E s5 := by
  obtain ⟨A', s_0, H_0, cenv, fp, ga, gn, go, tn, gs, rfl, hGO, hgs, hbare, I5, st5, nf, hlt, keep, back, goes⟩ := G
  have pin5 := I5.pin (ga, go) (List.mem_append_right _ List.mem_cons_self)
  have glt : ga < s5.heap.objs.size := Heap.lt_size pin5.1
  have hSI : s5.heap.objs.size ≠ ga := Nat.ne_of_gt glt
  unfold collect
  refine wpAny_bind (wpAny_runValue (codeAny_builtin F.entry_proto_collect ?_))
  rw [Around.under_plainId F.plain_proto_collect _]
  show wpAny _ A.in1 (newList [] >>= fun l => again (.builtin "list.__iadd__" ⟨[l, .ref ga], []⟩)) _ _ s5
  refine wpAny_bind (wpAny_newObj_type ?_)
  refine wpAny_pure ⟨plainId_quiet F.plain_list_iadd _, codeAny_builtin F.entry_list_iadd ?_⟩
  rw [Around.under_plainId F.plain_list_iadd _]
  show wpAny _ A.in1 (Builtin.List.listExtendWith (.ref s5.heap.objs.size) (.ref ga) (.ref s5.heap.objs.size)) _ _ _
  unfold Builtin.List.listExtendWith
  have k1 : ∀ b o, s5.heap.get? b = some o → (s5.heap.push { cls := .type "list", data := .seq ([] : List Value).toArray }).get? b = some o := fun b o e => Heap.get?_push_of_some _ e
  have hT : Shared.TypeIs { s5 with heap := s5.heap.push { cls := .type "list", data := .seq ([] : List Value).toArray } } (.ref ga) "generator" := Heap.IsGen.typeIs (s := { s5 with heap := _ }) (hGO.isGen (k1 _ _ pin5.1))
  refine wpAny_bind (wpAny_typeOf hT ?_)
  have h1 : Builtin.List.listSameRef (.ref s5.heap.objs.size) (.ref ga) = false := by simp [Builtin.List.listSameRef, hSI]
  have h2 : (Value.type "generator" == Value.type "list") = false := by decide
  have h3 : (Value.type "generator" == Value.type "tuple") = false := by decide
  simp only [h1, h2, h3, Bool.or_false, Bool.false_eq_true, if_false]
  refine wpAny_bind (wpAny_pyIter_gen (s := { s5 with heap := _ }) (hGO.isGen (k1 _ _ pin5.1)) ?_)
  refine wpAny_bind (wpAny_holding ?_)
  unfold Builtin.List.listLengthHint
  refine wpAny_bind (wpAny_specialOf hT F.gen_no_len ?_)
  show wpAny _ A.in1 (specialOf (Value.ref ga) (Str.ofString "__length_hint__") >>= _) _ _ _
  refine wpAny_bind (wpAny_specialOf hT F.gen_no_hint ?_)
  refine wpAny_pure ?_
  show wpAny _ A.in1 (rule "list.extend.makes-room" >>= fun _ => Builtin.List.listTouch (.ref s5.heap.objs.size) >>= fun _ =>
    again (.builtin "list.extend.loop" ⟨[.ref s5.heap.objs.size, .ref ga, .ref s5.heap.objs.size], []⟩)) _ _ _
  refine wpAny_bind (wpAny_rule ?_)
  have hS₁ : (s5.heap.push { cls := .type "list", data := .seq ([] : List Value).toArray }).get? s5.heap.objs.size = some { cls := .type "list", data := .seq ([] : List Value).toArray } := Heap.get?_push_size _ rfl
  refine wpAny_bind ?_
  show wpAny _ A.in1 (updateSeq s5.heap.objs.size (·.push .none) >>= fun _ => updateSeq s5.heap.objs.size (·.pop)) _ _ _
  refine wpAny_bind (wpAny_updateSeq hS₁ rfl ?_)
  have hS₂ := Heap.get?_update_self (Obj.mapSeq (·.push Value.none)) hS₁ rfl
  refine wpAny_updateSeq hS₂ rfl ?_
  have hS₃ := Heap.get?_update_self (Obj.mapSeq (·.pop)) hS₂ rfl
  obtain ⟨c3, hS₄⟩ : ∃ c, (((s5.heap.push { cls := .type "list", data := .seq ([] : List Value).toArray }).update s5.heap.objs.size (Obj.mapSeq (·.push Value.none))).update s5.heap.objs.size (Obj.mapSeq (·.pop))).get? s5.heap.objs.size = some (lstObj #[] c) := ⟨_, hS₃⟩
  have k3 : ∀ b o, s5.heap.get? b = some o → (((s5.heap.push { cls := .type "list", data := .seq ([] : List Value).toArray }).update s5.heap.objs.size (Obj.mapSeq (·.push Value.none))).update s5.heap.objs.size (Obj.mapSeq (·.pop))).get? b = some o :=
    fun b o e => (Heap.get?_update_other _ _ (Ne.symm (Nat.ne_of_lt (Heap.lt_size e)))).trans ((Heap.get?_update_other _ _ (Ne.symm (Nat.ne_of_lt (Heap.lt_size e)))).trans (k1 b o e))
  have fS : FpOk (gblk X A' s_0 H_0 cenv fp) [(ga, go)] H4 s5.heap.objs.size := I5.fpOk (Nat.le_refl _) (I5.hok.fresh (Nat.le_refl _))
  have hfS : ∀ b ∈ fp, b ≠ s5.heap.objs.size := fun b hb => Nat.ne_of_lt (Nat.lt_trans (hlt b hb) glt)
  have I6 := inv_moved (s' := { s5 with heap := ((s5.heap.push { cls := .type "list", data := .seq ([] : List Value).toArray }).update s5.heap.objs.size (Obj.mapSeq (·.push Value.none))).update s5.heap.objs.size (Obj.mapSeq (·.pop)) }) I5 rfl I5.bare k3
  refine wpAny_pure ⟨plainId_quiet F.plain_extend_loop _, ext_gx (A := A) (A' := A') (s_0 := s_0) (H_0 := H_0) (cenv := cenv) (fp := fp) (tn := tn) (go := go) (gn := gn) (End := End) hh hroom hGO hSI ?_ fS.2.2.2.2.1 keep hfS
    (fun σ' H' ys acc c s1 I1 rv q => ?_) (m + 1) _ I6.nolimit (k3 _ _ pin5.1) ⟨gs, hgs, ?_⟩⟩
  · exact Nat.le_trans I5.sz (Nat.le_refl _)
  · show wpAny _ A (load s5.heap.objs.size >>= _) _ _ s1
    have pS := (I1.pin (s5.heap.objs.size, lstObj acc c) (List.mem_append_right _ (List.mem_cons_of_mem _ List.mem_cons_self))).1
    refine wpAny_bind (wpAny_load pS ?_)
    exact wpAny_pure (hQ s1 acc ys H' (back _ _ _ _ I1) rv q)
  · refine goes (List V) (ACl ga go s5.heap.objs.size) End YdL W m (m + 1) [] [(ga, go), (s5.heap.objs.size, lstObj #[] c3)] _ turn w0 (Nat.lt_succ_self _) (fun ys cp hac p hp b hb z => ?_) ⟨#[], c3, rfl, .nil⟩
      (inv_moved (I6.pins_of fun p hp => ?_) rfl (allBare_setGen (s := { s5 with heap := _ }) I5.bare rfl) fun _ _ q => q) (keep _ _ _ st5 fun b hb o q => k3 b o q)
    · obtain ⟨acc, c, rfl, _⟩ := hac
      rcases List.mem_cons.mp hp with e | e
      · rw [e] at z
        exact absurd (hlt b hb) (by rw [← z]; exact Nat.lt_irrefl _)
      · rw [List.mem_singleton.mp e] at z
        exact hfS b hb z.symm
    · rcases List.mem_cons.mp hp with e | e
      · rw [e]
        exact I6.pin (ga, go) (List.mem_append_right _ List.mem_cons_self)
      · rw [List.mem_singleton.mp e]
        exact ⟨hS₄, fS.1, fS.2.1, fS.2.2.1, fun v q => by cases q⟩
end
section
variable {X : Cx}
/-- tuple(elt for tg in iter ..) -/
def tTupX (P : Addr) (wi : TI) (g : TG) (tt : TT) (te : TE) (vs : List Nat) : TE := fun σ H Q => wi σ H fun J H1 => GxR.TabG H1 P ∧ ∀ H2, GxR.Tabbed P H1 H2 → ∃ W : Nat → Nat → List V → Hp → Prop, (∃ m, W 0 m [] H2) ∧
  tGx J g tt te (wipe σ vs) vs (fun ys H => ys.length ≤ sizeLine ∧ ∀ p, H p = none → Q (.ref p) (upd H p (.tup ys))) YdL W
theorem pe_tupX {c P : Addr} {elt tg iter : Expr} {ifs : List Expr} {p pos gpos : Pos} {scope : Scope} {own : List (Str × Nat)} {wi : TI} {g : TG} {tt : TT} {te : TE} {k : Nat}
    (hr : Room (k + 1) X.A) (hc : X.calm = true) (hN : X.N.Nodup) (hgl : Gl X "tuple") (hm : X.mg "tuple" = none) (hb : bootBuiltins "tuple" = some (.type "tuple")) (TB : GxR.TabB X.base X.mg c P) (hcode : X.env.code = .ref c)
    (hco : scope.isCoroutine = false) (hdot : scope.names.lookup (".0" : Str) = some NameKind.local) (nocell : ∀ y ∈ scope.names, y.2 ≠ .cell) (ok : BlkOk X.N X.env.scope scope own) (hi : PI X tg iter wi)
    (hg : ∀ (A' : Around) (s : Shared) (H : Hp) (C : Addr) (cl : List (Str × Addr)) (code : Value) (fp : List Addr), Room k A' → A'.guards = X.A.guards → PG (gblk X A' s H (genEnv scope cl C code builtinsNs X.env) fp) tg g)
    (ht : ∀ (A' : Around) (s : Shared) (H : Hp) (C : Addr) (cl : List (Str × Addr)) (code : Value) (fp : List Addr), Room k A' → A'.guards = X.A.guards → PTs (gblk X A' s H (genEnv scope cl C code builtinsNs X.env) fp) ifs tt)
    (he : ∀ (A' : Around) (s : Shared) (H : Hp) (C : Addr) (cl : List (Str × Addr)) (code : Value) (fp : List Addr), Room k A' → A'.guards = X.A.guards → PE (gblk X A' s H (genEnv scope cl C code builtinsNs X.env) fp) elt te)
    (hs : ∀ v, genFold iter X.env v = pure v)
    (hst : starEach [.GeneratorExp elt [⟨tg, iter, ifs, 0⟩] scope gpos] X.env = (false, eval (.GeneratorExp elt [⟨tg, iter, ifs, 0⟩] scope gpos) X.env) :: starEach [] X.env := by rfl) :
    PE X (.Call (.Name "tuple" p) [.GeneratorExp elt [⟨tg, iter, ifs, 0⟩] scope gpos] [] pos) (tTupX P wi g tt te (own.map (·.2))) := by
  refine ⟨fun pins s σ H Q I h => ?_⟩
  refine wpAny_Call_Name_kw (ld_blt I hgl hm hb ?_)
  refine PyProof.Rows.callWith_type1 ?_ hst (by rfl)
  rw [hst]
  show wpAny _ _ (spliced ((false, eval (.GeneratorExp elt [⟨tg, iter, ifs, 0⟩] scope gpos) X.env) :: backTo pos (starEach [] X.env))) _ _ s
  refine Calls.spliced_cons (gx_make (A := X.A.in1.in1.in1.in1) hr ⟨rfl, rfl, rfl, rfl, (by show X.A.units + 1 + 1 + 1 + 1 ≤ _; omega)⟩ hc hN TB hcode hco hdot nocell ok hi hg ht he hs I h fun J H1 H2 u s5 hR hT hG => ?_)
  obtain ⟨W, ⟨m, w0⟩, turn⟩ := hR H2 hT
  refine Calls.spliced_nil ?_
  have ⟨A', s_0, H_0, cenv, fp, ga, gn, go, tn, gs, eu, hGO, hgs, hbare, I5, st5, nf, hlt, keep, back, goes⟩ := hG
  have pin5 := (I5.pin (ga, go) (List.mem_append_right _ List.mem_cons_self)).1
  rw [eu] at hG ⊢
  refine callType_codes (Q₁ := fun obj s₁ => s₁.TypeIs obj "tuple" ∧ EP X pins σ Q obj s₁) F.called_tuple (F.typeCall_tuple_1 _) F.entry_object_init ?_ fun obj s₁ h₁ =>
    ⟨h₁.1, F.args_object_init_2 obj _, object_init_meets F.called_tuple.init.lookup F.called_tuple.made (by decide) X.prog X.w X.A.in1 _ s₁ ⟨h₁.1, rfl, h₁.2⟩⟩
  refine codeAny_of_tree ?_
  show wpAny _ X.A.in1.in1 (do checkBuiltinCall "tuple.__new__" ⟨[.type "tuple", .ref ga], []⟩; again (.builtin "tuple.__new__" ⟨[.type "tuple", .ref ga], []⟩)) _ _ s5
  refine wpAny_bind (wpAny_of_eq (F.newCall_tuple_1 _) (wpAny_pure ⟨plainId_quiet F.plain_tuple_new _, codeAny_builtin F.entry_tuple_new ?_⟩))
  rw [Around.under_plainId F.plain_tuple_new _]
  have hsub := sub_tuple_self
  have hinit := init_tuple_lookup
  have hmh := madeHere_tuple
  have hTI : s5.TypeIs (.ref ga) "generator" := (hGO.isGen pin5).typeIs
  have col : ∀ {Q0 : List Value → Shared → Prop} {E0 : Value → Shared → Prop}, (∀ (s' : Shared) (acc : Array Value), (∃ (ys : List V) (H' : Hp), Inv X pins σ H' s' ∧ Vals ys acc.toList ∧ ys.length ≤ sizeLine ∧ ∀ p, H' p = none → Q (.ref p) (upd H' p (.tup ys))) → Q0 acc.toList s') →
      wpAny (model X.prog X.w) X.A.in1.in1 (collect (.ref ga)) Q0 E0 s5 := fun hq => collect_gx hr.hd hr.depth hG w0 turn (fun s' acc ys H' I' rv q => hq s' acc ⟨ys, H', I', rv, q.1, q.2⟩)
  wp_walk using wpAny_typeOf hTI, col
  rintro s' acc ⟨ys, H', I', rv, small, q⟩
  show wpAny _ _ (Builtin.Tuple.tupleExact acc.toList.toArray >>= fun v => ret v) _ _ _
  unfold Builtin.Tuple.tupleExact
  refine wpAny_bind (wpAny_newObj_type ?_ (by show acc.toList.toArray.size ≤ sizeLine; rw [List.size_toArray, ← rv.length]; exact small))
  refine wpAny_pure ?_
  have free : H' s'.heap.objs.size = none := I'.hok.fresh (Nat.le_refl _)
  refine ⟨⟨_, Heap.get?_push_size _ rfl, rfl⟩, .ref s'.heap.objs.size, upd H' s'.heap.objs.size (.tup ys), I'.laid (t' := s'.toks) (fun b u z => Heap.get?_push_of_some _ z) (Nat.le_refl _) ⟨small, acc.toList, rv, ?_⟩, rfl, q _ free⟩
  exact ⟨_, Heap.get?_push_size _ rfl, rfl, 0, rfl⟩
end
/-! ### a def by its body, its code object known -/
theorem okC {P : Program} {w : World} {K : PySem.W.Frag} {mg : Str → Option Value} {base : Heap} {x qual : Str} {st : Stmt} {f : Addr} {fd : FuncData} {N ps : List Str} {k : Nat} {sp : Sp} (F : Fun K x qual st f fd) (S : FnScope N ps (defScope st)) (len : ∀ vs H Q E, sp vs H Q E → vs.length = ps.length)
    (body : ∀ (A : Around) (outer : List Env) (s : Shared) (H : Hp) (vs : List V) (Q : VK) (E : XK), Room k (A.deeper (envOfC qual (defScope st) s.heap.objs.size f fd.code)) → sp vs H Q E →
      ∃ t, PSs (cxOf CX0 P w K mg base N qual (defScope st) f fd.code A outer s H E).nox (defBody st) t ∧ t { nx := fun _ H' => Q .non H', rt := Q } (start N vs) H) : FnOk P w K mg base CX0 (k + 1) f fd ps sp := by
  obtain ⟨oc, od, kV, doc, pm, an, cdv, ct, osl, rfl, lk, hcd⟩ := F.ex
  refine fn_of lk hcd S len fun A outer s H vs Q E hr hsp => ?_
  obtain ⟨t, h, q⟩ := body A outer s H vs Q E hr hsp
  exact ⟨t, h.nox, q⟩
/-! ### from the head's facts -/
theorem fun_of {K : PySem.W.Frag} {x qual : Str} {st : Stmt} {f : Addr} {fd : FuncData} (F : FunD K x qual (defArgs st) (defBody st) (defScope st) [] [] f fd) : Fun K x qual st f fd := by
  obtain ⟨oc, od, dV, kV, doc, pm, an, cdv, ct, osl, rfl, lk, hcd, hd, _⟩ := F.ex
  rcases hd with ⟨_, rfl⟩ | ⟨z, _⟩
  · exact ⟨⟨oc, od, kV, doc, pm, an, cdv, ct, osl, rfl, lk, hcd⟩, F.kp⟩
  · exact absurd rfl z
theorem code_of {K : PySem.W.Frag} {x qual : Str} {st : Stmt} {p : He.Defn} {fd : FuncData} (F : Fun K x qual st (He.fAd K p) fd) : fd.code = .ref (He.cT K p).1 := by
  obtain ⟨oc, od, kV, doc, pm, an, cdv, ct, osl, rfl, lk, hcd⟩ := F.ex
  obtain ⟨c, rfl⟩ := He.codeIn_ref hcd
  show Value.ref c = Value.ref (He.codeOf K p)
  rw [He.codeOf_eq lk rfl]
theorem tab_of {base : Heap} {mg : Str → Option Value} {c P : Addr} (h : LamX.TabB base mg c P) : GxR.TabB base mg c P := ⟨h.code, h.bm, h.gP⟩
/-! ### heaps whose tables grow -/
def Tabs (H : Hp) (Ps : List Addr) : Prop := ∀ P ∈ Ps, GxR.TabG H P
/-- what is no table stays; tables stay tables -/
def Gr (H H' : Hp) : Prop := (∀ b o, (∀ ps, o ≠ HO.tbl ps) → H b = some o → H' b = some o) ∧ ∀ b, GxR.TabG H b → GxR.TabG H' b
theorem Gr.refl {H : Hp} : Gr H H := ⟨fun _ _ _ e => e, fun _ e => e⟩
theorem Gr.trans {H H1 H2 : Hp} (a : Gr H H1) (b : Gr H1 H2) : Gr H H2 := ⟨fun c o n e => b.1 c o n (a.1 c o n e), fun c e => b.2 c (a.2 c e)⟩
theorem Gr.of {H H' : Hp} (h : ∀ b o, H b = some o → H' b = some o) : Gr H H' := ⟨fun b o _ e => h b o e, fun b ⟨ps, e, t⟩ => ⟨ps, h _ _ e, t⟩⟩
theorem Gr.tab {P : Addr} {H H' : Hp} (t : GxR.TabG H P) (h : GxR.Tabbed P H H') : Gr H H' := by
  obtain ⟨ps, e, _⟩ := t
  refine ⟨fun b o n q => ?_, fun b q => ?_⟩
  · by_cases hb : b = P
    · rw [hb, e] at q
      exact absurd (Option.some.inj q).symm (n ps)
    · rw [h.2 b hb]; exact q
  · by_cases hb : b = P
    · rw [hb]; exact h.1
    · obtain ⟨ps', e', t'⟩ := q
      exact ⟨ps', by rw [h.2 b hb]; exact e', t'⟩
theorem Gr.tup {H H' : Hp} (g : Gr H H') {a : Addr} {xs : List V} (h : H a = some (.tup xs)) : H' a = some (.tup xs) := g.1 a _ (fun _ z => by cases z) h
theorem Gr.lst {H H' : Hp} (g : Gr H H') {a : Addr} {xs : List V} (h : H a = some (.lst xs)) : H' a = some (.lst xs) := g.1 a _ (fun _ z => by cases z) h
theorem Gr.tabs {H H' : Hp} (g : Gr H H') {Ps : List Addr} (h : Tabs H Ps) : Tabs H' Ps := fun P hP => g.2 P (h P hP)
theorem Gr.none {H : Hp} {a : Addr} {o : HO} (n : H a = Option.none) : Gr H (upd H a o) := Gr.of fun b u e => by
  rw [upd_ne (ne_of_none e n)]
  exact e
namespace CwR
/-- behind it a token is out -/
def PEp (X : Cx) (e : Expr) (t : TE) : Prop := ∀ (pins : List (Addr × Obj)) (s : Shared) (σ : L2.St) (H : Hp) (Q : VK), Inv X pins σ H s → t σ H Q → wpAny (model X.prog X.w) X.A (eval e X.env) (fun u s' => 1 ≤ s'.toks ∧ EP X pins σ Q u s') X.xe s
theorem pep_ix {X : Cx} {a : Expr} {i : Int} {j : Nat} {p pos : Pos} {ta : TE} {r : R2} (hr : IxR X r) (ha : PE X a ta) (hs : PlainIx (.Constant (.int i) j p)) : PEp X (.Subscript a (.Constant (.int i) j p) pos) (tOp r ta (tC (.int i))) := by
  intro pins s σ H Q I h
  refine Subscript_ (thn (ha.run pins s σ H _ I h) fun v s1 ⟨x, H1, I1, r1, q1⟩ => wpAny_Constant_int ?_)
  refine wpAny_mono (PySem.wpAny_toks (hr a _ pins { s1 with toks := s1.toks + 1 } σ H1 x (.int i) v (.int i s1.toks) Q (I1.tok _) r1 ⟨_, rfl⟩ q1 (hs _ _))) (fun u s2 q => ⟨?_, q.2⟩) fun _ _ z => z.2
  have h1 : s1.toks + 1 ≤ s2.toks := q.1
  omega
theorem pep_repl {X : Cx} {o : Expr} {to : TE} {y z : Str} {j k : Nat} {c0 c1 apos pos : Pos} (ho : PEp X o to) (hyz : (y == z) = false := by decide)
    (hst : starEach [.Constant (.str y) j c0, .Constant (.str z) k c1] X.env = [(false, eval (.Constant (.str y) j c0) X.env), (false, eval (.Constant (.str z) k c1) X.env)] := by rfl)
    (hbase : attributeBase o "replace" X.env (eval o X.env) = eval o X.env := by rfl) (hline : (apos.endLine == pos.line) = true := by rfl) :
    PEp X (.Call (.Attribute o "replace" apos) [.Constant (.str y) j c0, .Constant (.str z) k c1] [] pos) (CwR.tReplC to y z) := by
  intro pins s σ H Q I h
  refine PySem.Call_method2 hbase hst hline (wpAny_mono (ho pins s σ H _ I h) (fun v s1 q => ?_) fun _ _ z => z)
  obtain ⟨hk, v', H1, I1, r1, x, e1, hb, q⟩ := q
  subst e1
  obtain ⟨tx, e2⟩ := r1
  subst e2
  refine ⟨"str", _, PySem.F.plainAttrs_str, PySem.F.slot_str_replace, PySem.F.type_str_replace, typeIs_str _ _ _, (fun _ e => nomatch e), Calls.callWith_builtin rfl (Calls.evalArgs_plain (Calls.spliced_cons ?_))⟩
  refine Calls.Constant_str (Calls.spliced_cons (Calls.Constant_str (Calls.spliced_nil ?_)))
  refine wpAny_mono (PySem.wpAny_toks (PySem.SC.replace (Q := fun u s' => EP X pins σ Q u s') (by show s1.toks ≠ 0; omega) (by show s1.toks + 1 ≠ 0; omega) (by show s1.toks ≠ s1.toks + 1; omega) hyz hb fun t' k => ⟨.str (Txt.replace x y z), H1, I1.tok k, ⟨t', rfl⟩, q⟩)) (fun u s2 q => ⟨?_, q.2⟩) fun _ _ z => z.2
  have h1 : s1.toks + 1 + 1 ≤ s2.toks := q.1
  omega
theorem pe_replP {X : Cx} {e : Expr} {t : TE} (h : PEp X e t) : PE X e t := ⟨fun pins s σ H Q I q => wpAny_mono (h pins s σ H Q I q) (fun _ _ z => z.2) fun _ _ z => z⟩
end CwR

/-! ### list(reversed(a list)) -/
namespace RevL
open RT PySem.Calls
section
variable {prog : Program} {w : World} {A : Around} {E : Value → Shared → Prop} {s : Shared}
theorem grows_rev {it l S : Addr} {c0 : Nat} {xs : Array Value} {R : Result → Shared → Prop} {res : Value} (quiet : A.handled = none) (rev : s.heap.IsRevIter it l ((xs.size : Int) - 1)) (src : s.heap.IsList l xs) (apart : l ≠ it) (few : xs.size ≤ sizeLine)
    (tgt : s.heap.get? S = some { cls := .type "list", data := .seq #[] c0 }) (n1 : S ≠ it) (n2 : S ≠ l)
    (fin : ∀ (hp : Heap) (tk : Nat) (acc : Array Value) (c : Nat), (∀ b o, b ≠ it → b ≠ S → s.heap.get? b = some o → hp.get? b = some o) → hp.get? S = some { cls := .type "list", dict := none, data := .seq acc c, slots := #[] } → ItemsOf (fun i v => xs[xs.size - 1 - i]? = some v) acc xs.size → R (.ok (.ret res)) { s with heap := hp, toks := tk }) :
    wpAny (model prog w) A.in1 (Builtin.List.listExtendWith (.ref S) (.ref it) res)
      (fun f st => match f with | .done g => R (.ok g) st | .again c => c.quiet = true ∧ codeAny (model prog w) A c R st) (fun e st => R (.error e) st) s := by
  have walk := (Walks.listRev (prog := prog) (w := w) (A := A.in1) quiet it l apart xs).toS
  have notIn : S ∉ [it, l] := by
    intro h
    rcases List.mem_cons.mp h with h | h
    · exact n1 h
    · exact n2 (List.mem_singleton.mp h)
  have ty : s.TypeIs (.ref it) "list_reverseiterator" := rev.typeIs
  have unlike : Builtin.List.listSameRef (.ref S) (.ref it) = false := by simp [Builtin.List.listSameRef, n1]
  unfold Builtin.List.listExtendWith
  refine wpAny_bind (wpAny_typeOf ty (?_))
  rw [if_neg (show ¬ _ by rw [unlike]; decide)]
  refine wpAny_bind (wpAny_pyIter_revIter rev (wpAny_bind (wpAny_holding ?_)))
  unfold Builtin.List.listLengthHint
  refine wpAny_bind (wpAny_specialOf ty nolen_lri (?_))
  show wpAny _ _ (specialOf (Value.ref it) (Str.ofString "__length_hint__") >>= _) _ _ _
  refine wpAny_bind (wpAny_specialOf ty hint_lri (?_))
  generalize name : ("list_reverseiterator.__length_hint__" : String) = nm
  wp_delta
  rw [show splitId nm = some ("list_reverseiterator", "__length_hint__") by rw [← name]; decide +kernel]
  rw [← name]
  refine wpAny_bind (wpAny_isInstance (b := true) ty (by rw [isSubtype_type]; kernel_rfl) (wpAny_pure ?_))
  rw [if_neg (show ¬ _ by decide)]
  have first : ((xs.size : Nat) : Int) - 1 - ((0 : Nat) : Int) = (xs.size : Int) - 1 := by omega
  refine wpAny_pure ⟨plainId_quiet F.plain_extend_loop _, codeAny_extend_loopS walk few _ notIn _ xs.size 0 _ _ _ rfl (Nat.zero_le _) ⟨Nat.zero_le _, by rw [first]; exact rev, src⟩ tgt (ItemsOf.nil _) fun st acc c moved hS got => ?_⟩
  rw [Moved.eq_with moved]
  refine fin st.heap st.toks acc c (fun b o b1 b2 e => moved.heap b o (fun h => ?_) e) hS got
  rcases List.mem_cons.mp h with h | h
  · exact b2 h
  · exact b1 (List.mem_singleton.mp h)
theorem call_list_rev {it l : Addr} {xs : Array Value} {Q : Value → Shared → Prop} (quiet : A.handled = none) (rev : s.heap.IsRevIter it l ((xs.size : Int) - 1)) (src : s.heap.IsList l xs) (apart : l ≠ it) (few : xs.size ≤ sizeLine)
    (fin : ∀ (hp : Heap) (tk : Nat) (acc : Array Value) (c : Nat), (∀ b o, b ≠ it → s.heap.get? b = some o → hp.get? b = some o) → hp.get? s.heap.objs.size = some { cls := .type "list", dict := none, data := .seq acc c, slots := #[] } → ItemsOf (fun i v => xs[xs.size - 1 - i]? = some v) acc xs.size → Q (.ref s.heap.objs.size) { s with heap := hp, toks := tk }) :
    wpAny (model prog w) A (call (.type "list") [.ref it]) Q E s := by
  have newAt : ∀ {b : Addr} {o : Obj}, s.heap.get? b = some o → b ≠ s.heap.objs.size := fun e => Nat.ne_of_lt (Heap.lt_size e)
  have itNew : s.heap.objs.size ≠ it := by
    obtain ⟨o, e, _⟩ := id rev
    exact (newAt e).symm
  have lNew : s.heap.objs.size ≠ l := by
    obtain ⟨o, e, _⟩ := id src
    exact (newAt e).symm
  refine callType_codes (Q₁ := fun v st => v = .ref s.heap.objs.size ∧ st = { s with heap := s.heap.push { cls := .type "list", data := .seq #[] } }) F.called_list (F.typeCall_list_1 _) F.entry_list_init (code_list_new _ ⟨rfl, rfl⟩) ?_
  rintro v st ⟨rfl, rfl⟩
  have made : (s.heap.push { cls := .type "list", data := .seq #[] }).get? s.heap.objs.size = some { cls := .type "list", data := .seq #[] } := Heap.get?_push_size _ rfl
  refine ⟨⟨_, made, rfl⟩, F.args_list_init_2 _ _, ?_⟩
  show wpAny _ A.in1.in1 (do let was ← Builtin.List.listItems (.ref s.heap.objs.size); Builtin.List.listUpdate (.ref s.heap.objs.size) (fun _ => #[]); letGo was.toList.reverse; Builtin.List.listExtendWith (.ref s.heap.objs.size) (.ref it) .none) _ _ _
  refine wpAny_bind ?_
  unfold Builtin.List.listItems
  refine wpAny_bind (wpAny_seqItems made rfl (wpAny_pure (wpAny_bind ?_)))
  show wpAny _ _ (updateSeq s.heap.objs.size (fun _ => (#[] : Array Value))) _ _ _
  refine wpAny_updateSeq made rfl (wpAny_bind (wpAny_letGo ?_))
  have emptied := Heap.get?_update_self (Obj.mapSeq (fun _ => (#[] : Array Value))) made rfl
  have stays : ∀ b o, s.heap.get? b = some o → ((s.heap.push { cls := .type "list", data := .seq #[] }).update s.heap.objs.size (Obj.mapSeq (fun _ => (#[] : Array Value)))).get? b = some o := fun b o e =>
    (Heap.get?_update_other _ _ (newAt e).symm).trans (Heap.get?_push_of_some _ e)
  refine grows_rev (A := A.in1) quiet (rev.at fun o e => stays _ _ e) (by obtain ⟨o, e, r⟩ := id src; exact ⟨o, stays _ _ e, r⟩) apart few emptied itNew lNew fun hp tk acc c keep hS got => ?_
  exact ⟨rfl, fin hp tk acc c (fun b o b1 e => keep b o b1 (newAt e) (stays b o e)) hS got⟩
def tLstRev (K : PySem.W.Frag) (te : TE) : TE := fun σ H Q => te σ H fun v H1 => ∃ (a : Addr) (xs : List V), v = .ref a ∧ SqL K H1 a xs ∧ ∀ q, H1 q = none → Q (.ref q) (upd H1 q (.lst xs.reverse))
theorem pe_lstRev {X : Cx} {e : Expr} {te : TE} {p1 p2 pos pos2 : Pos} (calm : X.calm = true) (g1 : Gl X "list") (m1 : X.mg "list" = none) (g2 : Gl X "reversed") (m2 : X.mg "reversed" = none) (he : PE X e te)
    (st1 : starEach [e] X.env = (false, eval e X.env) :: starEach [] X.env := by rfl)
    (st2 : starEach [.Call (.Name "reversed" p2) [e] [] pos2] X.env = (false, eval (.Call (.Name "reversed" p2) [e] [] pos2) X.env) :: starEach [] X.env := by rfl) :
    PE X (.Call (.Name "list" p1) [.Call (.Name "reversed" p2) [e] [] pos2] [] pos) (tLstRev X.K te) := by
  refine ⟨fun pins s σ H Q I told => ?_⟩
  refine Call_ (ld_blt I g1 m1 boot_list (PyProof.Rows.callWith_type1 (args_cons (Call_ (ld_blt I g2 m2 PyProof.Rows.boot_reversed (PyProof.Rows.callWith_type1 (args_cons (thn (he.run pins s σ H _ I told) ?_) st1) st1 rfl))) st2) st2 rfl))
  rintro u s1 ⟨v, H1, I1, r1, a, xs, rfl, list, q⟩
  refine args_nil ?_
  cases (show u = Value.ref a from r1)
  obtain ⟨us, rv, plain, few⟩ := I1.list list
  have src := plain.isList
  refine call_reversed_list src (args_nil ?_)
  have apart : a ≠ s1.heap.objs.size := by
    obtain ⟨o, e, _⟩ := id src
    exact Nat.ne_of_lt (Heap.lt_size e)
  have few2 : us.toArray.size ≤ sizeLine := by
    rw [List.size_toArray, ← rv.length]
    exact few
  refine call_list_rev (s := { s1 with heap := s1.heap.push (revObj a ((us.toArray.size : Int) - 1)) }) (I1.ok.hd calm) ⟨_, Heap.get?_push_size _ rfl, rfl, rfl⟩ (src.push _) apart few2 fun hp tk acc c keep hS got => ?_
  have size2 : s1.heap.objs.size ≤ (s1.heap.push (revObj a ((us.toArray.size : Int) - 1))).objs.size := by
    rw [Heap.size_push]
    exact Nat.le_succ _
  refine ⟨.ref _, upd H1 _ (.lst xs.reverse), I1.laid (t' := tk) (fun b o e => keep b o (Nat.ne_of_lt (Heap.lt_size e)) (Heap.get?_push_of_some _ e)) size2 ⟨by rw [List.length_reverse]; exact few, acc.toList, c, vals_rev rv got, ?_⟩, rfl, q _ (I1.hok.fresh size2)⟩
  rw [Array.toArray_toList]
  exact hS
end
end RevL

/-! ### heaps -/
theorem same_upd {H : Hp} {p : Addr} {o : HO} (h : H p = none) : Same H (upd H p o) := fun b x e => by
  rw [upd_ne (ne_of_none e h)]
  exact e
def Fr (d l : Addr) (H H' : Hp) : Prop := ∀ b o, b ≠ d → b ≠ l → H b = some o → H' b = some o
theorem Fr.trans {d l : Addr} {H H1 H2 : Hp} (a : Fr d l H H1) (b : Fr d l H1 H2) : Fr d l H H2 := fun c o h1 h2 h => b c o h1 h2 (a c o h1 h2 h)
theorem Fr.refl {d l : Addr} {H : Hp} : Fr d l H H := fun _ _ _ _ h => h
theorem Fr.new {d l p : Addr} {H : Hp} {o : HO} (h : H p = none) : Fr d l H (upd H p o) := fun b x _ _ e => same_upd h b x e
theorem Fr.of {d l : Addr} {H H' : Hp} (h : Same H H') : Fr d l H H' := fun b x _ _ e => h b x e
theorem Fr.d {d l : Addr} {H : Hp} {o : HO} : Fr d l H (upd H d o) := fun b x h1 _ e => by rw [upd_ne h1]; exact e
theorem Fr.l {d l : Addr} {H : Hp} {o : HO} : Fr d l H (upd H l o) := fun b x _ h2 e => by rw [upd_ne h2]; exact e
def Deck (H : Hp) (d l : Addr) : Prop := d ≠ l ∧ ∃ (cs : List Int) (z : Int), H d = some (.lst [.ref l, .int z]) ∧ H l = some (.lst (cs.map V.int)) ∧ cs.length ≤ 63 ∧ 0 ≤ z ∧ z < 4294967296
theorem Deck.same {H H' : Hp} {d l : Addr} (D : Deck H d l) (s : Same H H') : Deck H' d l := by
  obtain ⟨ne, cs, z, hd, hl, r⟩ := D
  exact ⟨ne, cs, z, s _ _ hd, s _ _ hl, r⟩
theorem Deck.new {H : Hp} {d l p : Addr} {o : HO} (D : Deck H d l) (h : H p = none) : Deck (upd H p o) d l := D.same (same_upd h)
theorem Deck.ne_new {H : Hp} {d l p : Addr} (D : Deck H d l) (h : H p = none) : p ≠ d ∧ p ≠ l := by
  obtain ⟨ne, cs, z, hd, hl, r⟩ := D
  exact ⟨(ne_of_none hd h).symm, (ne_of_none hl h).symm⟩
theorem p29 : (0 : Int) < 2147483629 := by decide
theorem p47 : (0 : Int) < 2147483647 := by decide
theorem p87 : (0 : Int) < 2147483587 := by decide
theorem sl1 : 1 ≤ sizeLine := by decide
theorem sl2 : 2 ≤ sizeLine := by decide
theorem sl3 : 3 ≤ sizeLine := by decide
theorem sl4 : 4 ≤ sizeLine := by decide
theorem seqIx0 {α : Type} (x : α) (xs : List α) : seqIndex? 0 (x :: xs).length = some 0 := by
  refine (ixN_seq (n := (x :: xs).length) (i := 0) (j := 0) ?_).1
  unfold ixN
  rw [if_pos (by decide), if_pos (by rw [List.length_cons]; omega)]
  rfl
theorem dpInts {K : PySem.W.Frag} {H : Hp} : ∀ cs : List Int, DpAll K H (cs.map V.int) (cs.map PyData.int)
  | [] => .nil
  | c :: r => .cons (.int c) (dpInts r)
theorem shInts (ns : List Int) : SeqAt.shaped (.list (ns.map PyData.int)) = true := by
  unfold SeqAt.shaped
  rw [Bool.and_eq_true]
  refine ⟨?_, ?_⟩
  · simp only [PyData.canLay0, canLayAll_ints]
  · simp only [PyData.depth, depthAll_ints]
    decide
theorem at_pick {xs : List V} {j : Int} (h0 : 0 ≤ j) (h1 : j < xs.length) : ∃ x, atI xs j = some x ∧ x ∈ xs := by
  obtain ⟨k, rfl⟩ : ∃ k : Nat, j = (k : Int) := ⟨j.toNat, (Int.toNat_of_nonneg h0).symm⟩
  have hk : k < xs.length := by omega
  exact ⟨xs[k], atI_nat (List.getElem?_eq_getElem hk), List.getElem_mem hk⟩
theorem units65 {k : Nat} {A : Around} (r : Room k A) : A.units + 65 < cLine := by have := r.un; omega
def rLenK (K : PySem.W.Frag) : List V → Hp → VK → Prop := fun xs H Q => ∃ p ys, xs = [.ref p] ∧ (SqL K H p ys ∨ SqT K H p ys) ∧ Q (.int ys.length) H
def rTupK (K : PySem.W.Frag) : List V → Hp → VK → Prop := fun xs H Q => ∃ p ys, xs = [.ref p] ∧ ((SqL K H p ys ∧ ∀ l, H l = none → Q (.ref l) (upd H l (.tup ys))) ∨ (SqT K H p ys ∧ Q (.ref p) H))
def rLstK (K : PySem.W.Frag) : List V → Hp → VK → Prop := fun xs H Q => ∃ p ys, xs = [.ref p] ∧ (SqL K H p ys ∨ SqT K H p ys) ∧ ∀ l, H l = none → Q (.ref l) (upd H l (.lst ys))
/-- joining ways behind a test, behind an expression -/
def tCutT (t : TT) : TT := fun σ H Q => ∃ Mid : Bool → Hp → Prop, t σ H Mid ∧ ∀ b H1, Mid b H1 → Q b H1
theorem pt_cut {X : Cx} {e : Expr} {t : TT} (h : PT X e t) : PT X e (tCutT t) := ⟨fun pins s σ H Q I hw => by
  obtain ⟨Mid, h1, q⟩ := hw
  exact thn (h.run pins s σ H _ I h1) fun c s1 ⟨H1, I1, m⟩ => ⟨H1, I1, q _ _ m⟩⟩
def tCutE (t : TE) : TE := fun σ H Q => ∃ Mid : VK, t σ H Mid ∧ ∀ v H1, Mid v H1 → Q v H1
theorem pe_cut {X : Cx} {e : Expr} {t : TE} (h : PE X e t) : PE X e (tCutE t) := ⟨fun pins s σ H Q I hw => by
  obtain ⟨Mid, h1, q⟩ := hw
  exact thn (h.run pins s σ H _ I h1) fun u s1 ⟨v, H1, I1, r, m⟩ => ⟨v, H1, I1, r, q _ _ m⟩⟩

/-! ### defs called where nothing is being shown (so that repr tells what stands there) -/
structure FnG (P : Program) (w : World) (K : PySem.W.Frag) (mg : Str → Option Value) (bs : Heap) (CX : CXT) (k : Nat) (f : Addr) (fd : FuncData) (ps : List Str) (sp : Sp) : Prop where
  many : ∀ vs H Q E, sp vs H Q E → vs.length = ps.length
  go : ∀ A : Around, A.guards = some [] → Room k A → ∀ (fr : List Env) (s : Shared) (H : Hp) (ar : Args) (us : List Value) (vs : List V) (Q : VK) (E : XK), Env0 P w K mg bs A fr s H → BindsTo s fd ar (ps.zip us) → Vals vs us → sp vs H Q E → codeAny (model P w) A (.call (.ref f) ar) (CR CX fr P w H s Q E) s
theorem FnG.of {P : Program} {w : World} {K : PySem.W.Frag} {mg : Str → Option Value} {bs : Heap} {CX : CXT} {k : Nat} {f : Addr} {fd : FuncData} {ps : List Str} {sp : Sp} (F : FnOk P w K mg bs CX k f fd ps sp) : FnG P w K mg bs CX k f fd ps sp :=
  ⟨F.len, fun A _ room fr s H ar us vs Q E e0 b r h => F.run A fr s H ar us vs Q E room e0 b r h⟩
theorem okG {CX : CXT} {P : Program} {w : World} {K : PySem.W.Frag} {mg : Str → Option Value} {bs : Heap} {x qual : Str} {st : Stmt} {f : Addr} {fd : FuncData} {N ps : List Str} {k : Nat} {sp : Sp} (F : Fun K x qual st f fd) (S : FnScope N ps (defScope st))
    (many : ∀ vs H Q E, sp vs H Q E → vs.length = ps.length)
    (body : ∀ (cdv : Value) (A : Around) (fr : List Env) (s : Shared) (H : Hp) (vs : List V) (Q : VK) (E : XK), A.guards = some [] → Room k (A.deeper (envOfC qual (defScope st) s.heap.objs.size f cdv)) → sp vs H Q E →
      ∃ t, PSs (cxOf CX P w K mg bs N qual (defScope st) f cdv A fr s H E) (defBody st) t ∧ t ⟨fun _ H' => Q .non H', Q, fun _ _ => False, fun _ _ => False⟩ (start N vs) H) : FnG P w K mg bs CX (k + 1) f fd ps sp := by
  obtain ⟨oc, od, kV, doc, pm, an, cdv, ct, osl, rfl, lk, code⟩ := F.ex
  refine ⟨many, fun A nothing room fr s H ar us vs Q E e0 bound rel told => ?_⟩
  have stays : ∀ b o, bs.get? b = some o → s.heap.get? b = some o := fun b o z => (e0.bs b o z).1
  have inK : K.In s.heap := e0.mod.kin.keeps stays
  have places : ∀ y ∈ ps.zip us, (defScope st).names.lookup y.1 = some .local ∨ ((defScope st).names.lookup y.1 = some .cell ∧ ((cellsFrom (s.heap.objs.size + 1) (defScope st).names []).lookup y.1).isSome = true) := by
    rintro ⟨n, v⟩ hy
    exact (S.par n (List.of_mem_zip hy).1).imp id fun c => ⟨c, PySem.W.cellsFrom_some _ _ _ (Or.inl c)⟩
  refine codeAny_call_function room.depth (inK _ _ lk) rfl S.co S.gen rfl (PySem.W.codeRec_of inK code) (bound _ _ _ _
    (wpAny_newFunctionEnv_cells S.kind places fun env he s1 made => ?_))
  subst he
  obtain ⟨t, runs, holds⟩ := body cdv A fr s H vs Q E nothing (room.deeper _) told
  refine ⟨(e0.mod.nolimit.keeps stays).keeps made.toInCall.keep, codeAny_func (wpAny_mono (runs.run [] s1 (start N vs) H _ (inv_start S room.hd e0 (many _ _ _ _ told) rel made) holds) (fun fl s2 z => ?_) fun _ _ z => z)⟩
  match fl, z with
  | .ret _, ⟨v, _, H', J, rv, q⟩ => exact ⟨v, H', J.os, J.bare, J.base, J.hok, rv, q⟩
  | .next, ⟨_, H', J, q⟩ => exact ⟨V.non, H', J.os, J.bare, J.base, J.hok, rfl, q⟩
  | .brk, ⟨_, _, _, q⟩ => exact q.elim
  | .cont, ⟨_, _, _, q⟩ => exact q.elim
theorem okG0 {P : Program} {w : World} {K : PySem.W.Frag} {mg : Str → Option Value} {bs : Heap} {x qual : Str} {st : Stmt} {f : Addr} {fd : FuncData} {N ps : List Str} {k : Nat} {sp : Sp} (F : Fun K x qual st f fd) (S : FnScope N ps (defScope st))
    (many : ∀ vs H Q E, sp vs H Q E → vs.length = ps.length)
    (body : ∀ (cdv : Value) (A : Around) (fr : List Env) (s : Shared) (H : Hp) (vs : List V) (Q : VK) (E : XK), A.guards = some [] → Room k (A.deeper (envOfC qual (defScope st) s.heap.objs.size f cdv)) → sp vs H Q E →
      ∃ t, PSs (cxOf CX0 P w K mg bs N qual (defScope st) f cdv A fr s H E).nox (defBody st) t ∧ t ⟨fun _ H' => Q .non H', Q, fun _ _ => False, fun _ _ => False⟩ (start N vs) H) : FnG P w K mg bs CX0 (k + 1) f fd ps sp :=
  okG F S many fun cdv A fr s H vs Q E g r h => by
    obtain ⟨t, p, q⟩ := body cdv A fr s H vs Q E g r h
    exact ⟨t, p.nox, q⟩
section
variable {X : Cx} {CX : CXT} {k : Nat} {f : Addr} {fd : FuncData} {ps : List Str} {sp : Sp} {ds : List Value} {dvs : List V} {E : XK}
theorem runG {pins : List (Addr × Obj)} {σ : L2.St} {H : Hp} {s : Shared} {Q : VK} {us : List Value} {vs : List V} (F : FnG X.prog X.w X.K X.mg X.base CX k f fd ps sp) (nothing : X.A.guards = some []) (room : Room k X.A) (hb : Binds X.K fd ps ds)
    (hd : Vals dvs ds) (out : Passes CX X E) (I : Inv X pins σ H s) (r : Vals vs us) (told : sp (vs ++ dvs) H Q E) : wpAny (model X.prog X.w) X.A (call (.ref f) us) (EP X pins σ Q) X.xe s := by
  have rel : Vals (vs ++ dvs) (us ++ ds) := r.append hd
  have size : (us ++ ds).length = ps.length := rel.length ▸ F.many _ _ _ _ told
  refine wpAny_call (codeAny_mono (F.go X.A nothing room X.stack s H _ _ _ Q E I.env0 (hb s us I.kIn size) rel told) fun res s2 z => ?_)
  match res, z with
  | .error e, z => exact out pins σ H s e s2 I z
  | .ok (.ret u), z => exact I.after z
  | .ok .next, z => exact z.elim
  | .ok .brk, z => exact z.elim
  | .ok .cont, z => exact z.elim
theorem pe_callG {x : Str} {p pos : Pos} {e : Expr} {es : List Expr} {t : TA} (F : FnG X.prog X.w X.K X.mg X.base CX k f fd ps sp) (nothing : X.A.guards = some []) (room : Room k X.A) (hg : Gl X x) (hm : X.mg x = some (.ref f)) (kp : PySem.W.keepIn X.K (.ref f) = true)
    (hb : Binds X.K fd ps ds) (hd : Vals dvs ds) (out : Passes CX X E) (ha : PA X (e :: es) t) (nd : (x == ("__debug__" : Str)) = false := by decide) (he : starEach (e :: es) X.env = (false, eval e X.env) :: starEach es X.env := by rfl)
    (hpl : (backTo pos (starEach es X.env)).any (·.1) = false := by rfl) : PE X (.Call (.Name x p) (e :: es) [] pos) (tCall sp dvs E t) := by
  refine ⟨fun pins s σ H Q I told => wpAny_Call_Name_kw (ld_glob I hg hm ?_ nd)⟩
  refine PySem.W.callWith_K (h₀ := X.base) I.ok.mod.kin kp (thn (ha.run pos pins s σ H _ I told) ?_) he hpl
  rintro us s1 ⟨vs, H1, J, r, q⟩
  exact ⟨J.kIn, runG F nothing room hb hd out J r q⟩
end
/-! ### what is shown by repr: plain data, whose lists and dicts were made by the law -/
def kD : Key → PyData
  | .inl i => .int i
  | .inr x => .str x
mutual
inductive Sh (H : Hp) : V → PyData → Prop
  | non : Sh H .non .none
  | bl (b : Bool) : Sh H (.bl b) (.bool b)
  | int (i : Int) : Sh H (.int i) (.int i)
  | str (x : Str) : Sh H (.str x) (.str x)
  | lst {a : Addr} {xs : List V} {ds : List PyData} : H a = some (.lst xs) → a ≠ sysModules → ShAll H xs ds → Sh H (.ref a) (.list ds)
  | tup {a : Addr} {xs : List V} {ds : List PyData} : H a = some (.tup xs) → ShAll H xs ds → Sh H (.ref a) (.tuple ds)
  | dic {a : Addr} {kvs : List (Key × V)} {ds : List PyData} : H a = some (.dK kvs) → ShAll H (kvs.map (·.2)) ds → Sh H (.ref a) (.dict ((kvs.map fun kv => kD kv.1).zip ds))
inductive ShAll (H : Hp) : List V → List PyData → Prop
  | nil : ShAll H [] []
  | cons {v : V} {vs : List V} {d : PyData} {ds : List PyData} : Sh H v d → ShAll H vs ds → ShAll H (v :: vs) (d :: ds)
end
theorem ShAll.length {H : Hp} : ∀ {vs : List V} {ds : List PyData}, ShAll H vs ds → vs.length = ds.length
  | _, _, .nil => rfl
  | _, _, .cons _ t => by rw [List.length_cons, List.length_cons, t.length]
mutual
theorem Sh.same {H H' : Hp} (s : Same H H') : ∀ {v : V} {d : PyData}, Sh H v d → Sh H' v d
  | _, _, .non => .non
  | _, _, .bl b => .bl b
  | _, _, .int i => .int i
  | _, _, .str x => .str x
  | _, _, .lst h n t => .lst (s _ _ h) n (t.same s)
  | _, _, .tup h t => .tup (s _ _ h) (t.same s)
  | _, _, .dic h t => .dic (s _ _ h) (t.same s)
theorem ShAll.same {H H' : Hp} (s : Same H H') : ∀ {vs : List V} {ds : List PyData}, ShAll H vs ds → ShAll H' vs ds
  | _, _, .nil => .nil
  | _, _, .cons h t => .cons (h.same s) (t.same s)
end
/-- the name of the class of such data -/
def tyD : PyData → String
  | .none => "NoneType"
  | .bool _ => "bool"
  | .int _ => "int"
  | .str _ => "str"
  | .list _ => "list"
  | .tuple _ => "tuple"
  | .dict _ => "dict"
theorem Sh.ty {K : PySem.W.Frag} {H : Hp} {v : V} {d : PyData} (h : Sh H v d) : TyX K H v (.type (tyD d)) := by
  cases h with
  | non => exact .base .non
  | bl b => exact .base (.bl b)
  | int i => exact .base (.int i)
  | str x => exact .base (.str x)
  | lst h _ _ => exact .base (.lst h)
  | tup h _ => exact .base (.tup h)
  | dic h _ => exact .base (.dK h)
section
variable {X : Cx} {pins : List (Addr × Obj)} {σ : L2.St} {H : Hp} {s : Shared}
theorem pairs_keys {P : Program} {w : World} {h : Heap} : ∀ {es : List DictEntry} {kvs : List (Key × Value)}, Pairs (mixKind P w) es kvs → ReadsAll h (es.map (·.key)) (kvs.map fun kv => kD kv.1) []
  | _, _, .nil => .nil
  | _, _, .cons (kv := kv) hk _ t => by
    have r := pairs_keys (h := h) t
    rcases keyIs_shape (k := kv.1) hk with ⟨i, u, e1, e2⟩ | ⟨x, u, e1, e2⟩
    · rw [List.map_cons, List.map_cons, e1, e2]
      exact ReadsAll.cons (as := []) (.int i u) r
    · rw [List.map_cons, List.map_cons, e1, e2]
      exact ReadsAll.cons (as := []) (.str x u) r
theorem pairs_vals {P : Program} {w : World} : ∀ {es : List DictEntry} {kvs : List (Key × Value)}, Pairs (mixKind P w) es kvs → es.map (·.val) = kvs.map (·.2)
  | _, _, .nil => rfl
  | _, _, .cons _ hv t => by rw [List.map_cons, List.map_cons, hv, pairs_vals t]
theorem kv_rel : ∀ {kvs : List (Key × V)} {vs : List (Key × Value)}, KV kvs vs → kvs.map (·.1) = vs.map (·.1) ∧ Vals (kvs.map (·.2)) (vs.map (·.2))
  | _, _, .nil => ⟨rfl, .nil⟩
  | _, _, .cons h t => by
    obtain ⟨a, b⟩ := kv_rel t
    exact ⟨by rw [List.map_cons, List.map_cons, a, h.1], .cons h.2 b⟩
mutual
theorem Sh.reads (I : Inv X pins σ H s) : ∀ (v : V) (d : PyData) (u : Value), Sh H v d → RelV v u → ∃ as, Reads s.heap u d as ∧ sysModules ∉ as
  | _, _, _, .non, r => by cases r; exact ⟨_, .none, List.not_mem_nil⟩
  | _, _, _, .bl b, r => by cases r; exact ⟨_, .bool b, List.not_mem_nil⟩
  | _, _, _, .int i, r => by obtain ⟨t, rfl⟩ := r; exact ⟨_, .int i t, List.not_mem_nil⟩
  | _, _, _, .str x, r => by obtain ⟨t, rfl⟩ := r; exact ⟨_, .str x t, List.not_mem_nil⟩
  | _, _, _, .lst (a := a) (xs := xs) h n t, r => by
    cases r
    obtain ⟨_, its, c, rv, ho⟩ := (show ObjOk X.prog X.w H s.heap a (.lst xs) from I.hok a _ h)
    obtain ⟨as, q, m⟩ := ShAll.reads I _ _ its t rv
    exact ⟨_, .list ho rfl rfl (by simpa using q), fun z => (List.mem_cons.mp z).elim (fun e => n e.symm) m⟩
  | _, _, _, .tup (a := a) (xs := xs) h t, r => by
    cases r
    obtain ⟨_, its, rv, o, ho, hc, c, hd⟩ := (show ObjOk X.prog X.w H s.heap a (.tup xs) from I.hok a _ h)
    obtain ⟨as, q, m⟩ := ShAll.reads I _ _ its t rv
    exact ⟨_, .tuple ho hc hd (by simpa using q), m⟩
  | _, _, _, .dic (a := a) (kvs := kvs) (ds := ds) h t, r => by
    cases r
    obtain ⟨_, low, vs, rel, o, es, ep, ho, hx, hd, _, hp, _⟩ := (show ObjOk X.prog X.w H s.heap a (.dK kvs) from I.hok a _ h)
    obtain ⟨rk, rv⟩ := kv_rel rel
    obtain ⟨as, q, m⟩ := ShAll.reads I _ _ (vs.map (·.2)) t rv
    have k1 : (kvs.map fun kv => kD kv.1) = vs.map fun kv => kD kv.1 := by
      have := congrArg (List.map kD) rk
      rw [List.map_map, List.map_map] at this
      exact this
    have ln : (kvs.map fun kv => kD kv.1).length = ds.length := by
      have := t.length
      rw [List.length_map] at this
      rw [List.length_map, this]
    refine ⟨_, .dict (as := []) (bs := as) ho hx.1 hd ?_ ?_, ?_⟩
    · rw [List.map_fst_zip (Nat.le_of_eq ln), k1]
      exact pairs_keys hp
    · rw [List.map_snd_zip (Nat.le_of_eq ln.symm), pairs_vals hp]
      exact q
    · intro z
      rcases List.mem_cons.mp z with e | e
      · exact absurd low (by rw [← e]; simp)
      · exact m e
theorem ShAll.reads (I : Inv X pins σ H s) : ∀ (vs : List V) (ds : List PyData) (us : List Value), ShAll H vs ds → Vals vs us → ∃ as, ReadsAll s.heap us ds as ∧ sysModules ∉ as
  | _, _, _, .nil, r => by cases r; exact ⟨_, .nil, List.not_mem_nil⟩
  | _, _, _, .cons h t, r => by
    cases r with
    | cons r1 r2 =>
      obtain ⟨as, q1, m1⟩ := Sh.reads I _ _ _ h r1
      obtain ⟨bs, q2, m2⟩ := ShAll.reads I _ _ _ t r2
      exact ⟨_, .cons q1 q2, fun z => (List.mem_append.mp z).elim m1 m2⟩
end
end
def rRepr : List V → Hp → VK → Prop := fun xs H Q => ∃ x d, xs = [x] ∧ Sh H x d ∧ d.showable = true ∧ d.shown.length ≤ sizeLine ∧ d.depth ≤ 50 ∧ Q (.str d.shown) H
theorem call_repr {X : Cx} (nothing : X.A.guards = some []) (hu : X.A.units + 64 < cLine) : CallR X (.builtin "repr") rRepr := by
  intro pins s σ H xs us Q I r h
  obtain ⟨x, d, rfl, sh, able, fits, deep, q⟩ := h
  cases r with
  | @cons _ u _ _ r1 r2 =>
    cases r2
    obtain ⟨as, rd, low⟩ := Sh.reads I _ _ _ sh r1
    have fin : ∀ h' t tk, (∀ b o, s.heap.get? b = some o → h'.get? b = some o) → EP X pins σ Q (.str d.shown t) { s with heap := h', toks := tk } := fun h' t tk kept => ⟨.str d.shown, H, I.kept kept, ⟨t, rfl⟩, q⟩
    cases sh with
    | non => cases r1; exact PySem.P.repr_of_none (fin _ _ _ fun _ _ z => z)
    | bl b => cases r1; exact PySem.P.repr_of_bool (fin _ _ _ fun _ _ z => z)
    | int i => obtain ⟨t, rfl⟩ := r1; exact PySem.P.repr_of_int (of_decide_eq_true able) (fin _ _ _ fun _ _ z => z)
    | str x => obtain ⟨t, rfl⟩ := r1; exact PySem.P.repr_of_str (fin _ _ _ fun _ _ z => z) fits
    | lst _ _ _ => cases r1; exact repr_of_reads' rd able (fun _ => low) nothing (by omega) (fun _ _ z => z) fin fits
    | tup _ _ => cases r1; exact repr_of_reads' rd able (fun _ => low) nothing (by omega) (fun _ _ z => z) fin fits
    | dic _ _ => cases r1; exact repr_of_reads' rd able (fun _ => low) nothing (by omega) (fun _ _ z => z) fin fits
/-- a display's list is none of the interpreter's own -/
def tLstN (t : TA) : TE := fun σ H Q => t σ H fun xs H1 => xs.length ≤ sizeLine ∧ ∀ p, H1 p = none → p ≠ sysModules → Q (.ref p) (upd H1 p (.lst xs))
theorem pe_lstN {X : Cx} {es : List Expr} {t : TA} {pos : Pos} (h : PA X es t) : PE X (.List es pos) (tLstN t) := by
  refine ⟨fun pins s σ H Q I told => wpAny_List_spliced (thn (h.run pos pins s σ H _ I told) ?_)⟩
  rintro us s1 ⟨xs, H1, J, r, small, q⟩
  have free : H1 s1.heap.objs.size = none := J.hok.fresh (Nat.le_refl _)
  refine ⟨by rw [← r.length]; exact small, .ref s1.heap.objs.size, upd H1 s1.heap.objs.size (.lst xs), J.laid (t' := s1.toks) (fun b u z => Heap.get?_push_of_some _ z) (Nat.le_refl _) ⟨small, us, 0, r, Heap.get?_push_size _ rfl⟩, rfl, q _ free (Nat.ne_of_gt J.big)⟩
/-! ### the end of a law whose defs are called where nothing is being shown -/
theorem law_G {P : Program} {w : World} {K : PySem.W.Frag} {mg mb : Str → Option Value} {CX : CXT} {k : Nat} {fa a : Addr} {fd : FuncData} {x : Str} {sp : Sp} {s : Shared} {vs : List Value} {ns : List Int}
    (inK : K.In s.heap) (gl : s.heap.Ns mainGlobals mg) (bl : s.heap.Ns builtinsNs mb) (boot : ∀ y : Str, y ≠ "__name__" → mb y = bootBuiltins y) (lim : s.heap.NoLimit) (ng : s.gens = #[])
    (at_ : s.heap.get? a = some { cls := .type "list", data := .seq vs.toArray }) (are : IntsAre vs ns) (small : ns.length ≤ sizeLine) (room : Room k callerA)
    (F : ∀ bs : Heap, K.In bs → bs.Ns mainGlobals mg → FnG P w K mg bs CX k fa fd [x] sp) (bound : ∀ (s : Shared) (u : Value), BindsTo s fd ⟨[u], []⟩ [(x, u)])
    (told : ∀ H : Hp, Only H → SqL K H a (ns.map V.int) → sp [.ref a] H (fun v _ => v = .bl true) fun _ _ _ => False)
    (noX : ∀ H e s', CX [] H s (fun _ _ _ => False) e s' → False) :
    codeAny (model P w) callerA (.call (.ref fa) ⟨[.ref a], []⟩) (fun r s' => r = .ok (.ret (.bool true)) ∧ OldK s.heap s'.heap ∧ s'.os = s.os ∧ AllBare s'.gens) s := by
  have main : ∀ H : Hp, Only H → SqL K H a (ns.map V.int) → HOk P w H s.heap → (∀ b, H b ≠ none → b = a) → (H a ≠ none → K.lookup a = none) →
      codeAny (model P w) callerA (.call (.ref fa) ⟨[.ref a], []⟩) (fun r s' => r = .ok (.ret (.bool true)) ∧ OldK s.heap s'.heap ∧ s'.os = s.os ∧ AllBare s'.gens) s := by
    intro H only list ok alone out
    have seen : ∀ {b : Addr} {o : Obj}, s.heap.get? b = some o → H b = none → (hidT s.heap H).get? b = some o := fun z n => hidT_get z n
    have dict : ∀ {b : Addr} {o : Obj} {es : Array DictEntry} {ep : Nat}, s.heap.get? b = some o → o.data = .dict es ep → H b = none := by
      intro b o es ep z dz
      refine Classical.byContradiction fun some_ => ?_
      have eb := alone b some_
      rw [eb, at_] at z
      cases z
      cases (show Data.seq vs.toArray _ = Data.dict es ep from dz)
    have names : ∀ {b : Addr} {m : Str → Option Value}, s.heap.Ns b m → (hidT s.heap H).Ns b m := by
      rintro b m ⟨o, es, ep, z, dz, rest⟩
      exact ⟨o, es, ep, seen z (dict z dz), dz, rest⟩
    have inB : K.In (hidT s.heap H) := by
      intro b o z
      refine seen (inK b o z) (Classical.byContradiction fun some_ => ?_)
      have eb := alone b some_
      subst eb
      rw [out some_] at z
      cases z
    obtain ⟨ml, l1, l2⟩ := lim
    have mod : Mod K mg (hidT s.heap H) := ⟨inB, names gl, ⟨mb, names bl, boot⟩, ⟨ml, names l1, l2⟩⟩
    have env : Env0 P w K mg (hidT s.heap H) callerA [] s H := { frames := rfl, mod := mod, bs := fun b o z => of_hidT z, bsz := Nat.le_of_eq (hidT_size _ _), funs := trivial, frf := (fun b hb => by cases (show b ∈ ([] : List Addr) from hb)), hok := ok, bare := .of_eq ng }
    refine codeAny_mono ((F _ inB (names gl)).go callerA rfl room [] s H _ [.ref a] [.ref a] _ _ env (bound s (.ref a)) (.cons rfl .nil) (told H only list)) fun r s2 z => ?_
    match r, z with
    | .error e, z => exact (noX H e s2 z).elim
    | .ok .next, z => exact z.elim
    | .ok .brk, z => exact z.elim
    | .ok .cont, z => exact z.elim
    | .ok (.ret u), ⟨v, H2, os, bare, un, ok2, rel, q⟩ =>
      cases (show v = V.bl true from q)
      cases (show u = Value.bool true from rel)
      refine ⟨rfl, OldK.of_keep fun b o z => ?_, os, bare⟩
      by_cases hb : H b = none
      · exact un.keep b o z hb (fun m => by cases (show b ∈ ([] : List Addr) from m)) (fun m => by cases m)
      · rcases only b with n | ⟨ob, xs, f⟩
        · exact absurd n hb
        · have o1 := (ok b _ f).1
          have o2 := (ok2 b _ (un.frzs b ob _ f)).1
          rw [z] at o1
          rw [Option.some.inj o1]
          exact o2
  have rel := vals_ints are
  cases hk : K.lookup a with
  | some o =>
    have z := inK a o hk
    rw [at_] at z
    cases z
    exact main (fun _ => none) (fun _ => .inl rfl) (.inr ⟨_, vs.toArray, _, hk, rfl, rfl, rfl, by rw [List.size_toArray, are.length]; exact small, by simpa using rel⟩) (fun b u z => by cases z) (fun b z => absurd rfl z) fun z => absurd rfl z
  | none =>
    have on : ∀ b : Addr, b = a → (if b = a then some (HO.frz { cls := .type "list", data := .seq vs.toArray } (.lst (ns.map V.int))) else none) = some (HO.frz { cls := .type "list", data := .seq vs.toArray } (.lst (ns.map V.int))) := fun b e => if_pos e
    refine main (fun b => if b = a then some (.frz { cls := .type "list", data := .seq vs.toArray } (.lst (ns.map V.int))) else none) (fun b => ?_) (.inl (.inr ⟨_, on a rfl⟩)) (fun b u z => ?_) (fun b z => ?_) fun _ => hk
    · rcases Classical.em (b = a) with e | e
      · exact .inr ⟨_, _, on b e⟩
      · exact .inl (if_neg e)
    · rcases Classical.em (b = a) with e | e
      · have := (on b e).symm.trans z
        cases this
        subst e
        exact ⟨at_, by rw [List.length_map]; exact small, vs, _, rel, at_⟩
      · have := (if_neg e).symm.trans z
        cases this
    · exact Classical.byContradiction fun e => z (if_neg e)
theorem walk_G {l : PySem.W.OpenLaw} {n k : Nat} {q : Program} {loose : List Str} {XP : (Str → Option Value) → Heap → Prop} {YP : World → Heap → Prop} {d : DefRec} {K : Params → PySem.W.Frag} {CX : World → CXT} {sp : World → Sp} {x : Str}
    (most : l.most = some n) (small : n ≤ sizeLine) (nodef : d.params.defaults = []) (room : Room k callerA) (inK : ∀ (w : World) (h : Heap), YP w h → (K w.params).In h)
    (F : ∀ (w : World) (mg : Str → Option Value) (fa : Addr) (h : Heap), (K w.params).In h → h.Ns mainGlobals mg → mg d.name = some (.ref fa) →
      ∃ fd : FuncData, (∀ (s : Shared) (u : Value), BindsTo s fd ⟨[u], []⟩ [(x, u)]) ∧ ∀ bs : Heap, (K w.params).In bs → bs.Ns mainGlobals mg → FnG l.prog w (K w.params) mg bs (CX w) k fa fd [x] (sp w))
    (told : ∀ (w : World) (H : Hp) (a : Addr) (ns : List Int), ns.length ≤ n → Only H → SqL (K w.params) H a (ns.map V.int) → sp w [.ref a] H (fun v _ => v = .bl true) fun _ _ _ => False)
    (noX : ∀ (w : World) (H : Hp) (s : Shared) (e : Value) (s' : Shared), CX w [] H s (fun _ _ _ => False) e s' → False) :
    PySem.W.WalkO q loose XP YP l.row.toRowW d [] (fun f vs => PySem.call f vs) := by
  refine Att.attach_call most nodef fun w s₀ s₁ mg mb fa o pm cd doc a vs ns G Y ho hd hcd hmg hobj hints hlen hg => ?_
  obtain ⟨fd, bound, FG⟩ := F w mg fa _ (inK w _ Y) G.T.g hmg
  exact law_G (inK w _ Y) G.T.g G.T.b G.T.builtins G.T.nolimit hg hobj hints (Nat.le_trans hlen small) room FG bound (fun H only list => told w H a ns hlen only list) fun H e s2 => noX w H s₁ e s2

/-! ### the end of a law whose defs are called where nothing is being shown, with tables of code objects -/
def LawAtG (l : PySem.W.OpenLaw) (w : World) (K : PySem.W.Frag) (CX : CXT) (k n : Nat) (x : Str) (mg : Str → Option Value) (f : Addr) (top : Heap) : Prop :=
  ∃ (fd : FuncData) (ts : List (Addr × Addr)) (sp : Sp), (∀ t ∈ ts, top.get? t.2 = some { cls := .none, data := .fields #[] }) ∧ (∀ t ∈ ts, K.lookup t.2 = none) ∧ (∀ t ∈ ts, PySem.W.CodeHd top t.1 t.2) ∧ (∀ (st : Shared) (v : Value), BindsTo st fd ⟨[v], []⟩ [(x, v)]) ∧
    (∀ (H : Hp) (p : Addr) (zs : List Int), zs.length ≤ n → (∀ z ∈ zs, Builtin.Int.intBits z ≤ 1048576) → (∀ t ∈ ts, H t.2 = some (.tbl #[])) → SqL K H p (zs.map V.int) → sp [.ref p] H (fun v _ => v = .bl true) fun _ _ _ => False) ∧
    ∀ under : Heap, K.In under → under.Ns mainGlobals mg → (∀ t ∈ ts, LamX.TabB under mg t.1 t.2) → FnG l.prog w K mg under CX k f fd [x] sp
theorem law_GT {P : Program} {w : World} {K : PySem.W.Frag} {mg mb : Str → Option Value} {CX : CXT} {k : Nat} {f p : Addr} {ts : List (Addr × Addr)} {fd : FuncData} {x : Str} {sp : Sp} {s : Shared} {us : List Value} {zs : List Int}
    (inK : K.In s.heap) (gl : s.heap.Ns mainGlobals mg) (bl : s.heap.Ns builtinsNs mb) (boot : ∀ y : Str, y ≠ "__name__" → mb y = bootBuiltins y) (lim : s.heap.NoLimit) (ng : s.gens = #[])
    (bare : ∀ t ∈ ts, s.heap.get? t.2 = some { cls := .none, data := .fields #[] }) (out : ∀ t ∈ ts, K.lookup t.2 = none) (code : ∀ t ∈ ts, PySem.W.CodeHd s.heap t.1 t.2)
    (bmod : ∃ (m : Addr) (o : Obj), mg "__builtins__" = some (.ref m) ∧ m ≠ builtinsNs ∧ s.heap.get? m = some o ∧ o.cls = .type "module" ∧ o.dict = some builtinsNs ∧ o.data = .plain)
    (script : s.heap.get? p = some { cls := .type "list", data := .seq us.toArray }) (are : IntsAre us zs) (small : zs.length ≤ sizeLine) (room : Room k callerA)
    (F : ∀ under : Heap, K.In under → under.Ns mainGlobals mg → (∀ t ∈ ts, LamX.TabB under mg t.1 t.2) → FnG P w K mg under CX k f fd [x] sp) (bound : ∀ (st : Shared) (v : Value), BindsTo st fd ⟨[v], []⟩ [(x, v)])
    (told : ∀ H : Hp, (∀ t ∈ ts, H t.2 = some (.tbl #[])) → SqL K H p (zs.map V.int) → sp [.ref p] H (fun v _ => v = .bl true) fun _ _ _ => False)
    (noX : ∀ H e st, CX [] H s (fun _ _ _ => False) e st → False) :
    codeAny (model P w) callerA (.call (.ref f) ⟨[.ref p], []⟩) (fun r st => r = .ok (.ret (.bool true)) ∧ OldK s.heap st.heap ∧ st.os = s.os ∧ AllBare st.gens) s := by
  have tabAt : ∀ c ∈ ts.map Prod.snd, s.heap.get? c = some { cls := .none, data := .fields #[] } := by
    intro c hc
    obtain ⟨t, ht, rfl⟩ := List.mem_map.mp hc
    exact bare t ht
  have inTs : ∀ {t : Addr × Addr}, t ∈ ts → t.2 ∈ ts.map Prod.snd := fun ht => List.mem_map_of_mem ht
  have pNo : ¬ p ∈ ts.map Prod.snd := by
    intro hp
    have both := (tabAt p hp).symm.trans script
    have kinds := congrArg (fun o : Option Obj => o.map Obj.cls) both
    simp at kinds
  have main : ∀ H : Hp, (∀ t ∈ ts, H t.2 = some (.tbl #[])) → (∀ c, H c = none ∨ c ∈ ts.map Prod.snd ∨ ∃ o ys, H c = some (.frz o (.lst ys))) → SqL K H p (zs.map V.int) → HOk P w H s.heap → (∀ c, H c ≠ none → c = p ∨ c ∈ ts.map Prod.snd) → (H p ≠ none → K.lookup p = none) →
      codeAny (model P w) callerA (.call (.ref f) ⟨[.ref p], []⟩) (fun r st => r = .ok (.ret (.bool true)) ∧ OldK s.heap st.heap ∧ st.os = s.os ∧ AllBare st.gens) s := by
    intro H tabs kinds list ok alone off
    have free : ∀ {c : Addr} {o : Obj}, s.heap.get? c = some o → (∀ ys m, ¬ o.data = .seq ys m) → ¬ o.data = .fields #[] → H c = none := by
      intro c o ho n1 n2
      refine Classical.byContradiction fun some_ => ?_
      rcases alone c some_ with rfl | hc
      · cases Option.some.inj (ho.symm.trans script)
        exact n1 _ _ rfl
      · cases Option.some.inj (ho.symm.trans (tabAt c hc))
        exact n2 rfl
    have names : ∀ {c : Addr} {m : Str → Option Value}, s.heap.Ns c m → (hidT s.heap H).Ns c m := by
      rintro c m ⟨o, es, ep, ho, dz, more⟩
      refine ⟨o, es, ep, hidT_get ho (free ho (fun ys j z => ?_) fun z => ?_), dz, more⟩ <;> exact Data.noConfusion (dz.symm.trans z)
    have inB : K.In (hidT s.heap H) := by
      intro c o ho
      refine hidT_get (inK c o ho) (Classical.byContradiction fun some_ => ?_)
      rcases alone c some_ with rfl | hc
      · exact absurd (ho.symm.trans (off some_)) (by simp)
      · obtain ⟨t, ht, rfl⟩ := List.mem_map.mp hc
        exact absurd (ho.symm.trans (out t ht)) (by simp)
    obtain ⟨ml, l1, l2⟩ := lim
    have mod : L2.Mod K mg (hidT s.heap H) := ⟨inB, names gl, ⟨mb, names bl, boot⟩, ⟨ml, names l1, l2⟩⟩
    have tables : ∀ t ∈ ts, LamX.TabB (hidT s.heap H) mg t.1 t.2 := by
      intro t ht
      constructor
      · obtain ⟨o, ys, file, tf, flags, tg, inF, text, tt, c1, c2, c3, c4, c5, c6, c7, c8, c9, c10⟩ := code t ht
        refine ⟨o, ys, file, tf, flags, tg, inF, text, tt, hidT_get c1 (free c1 (fun us j z => Data.noConfusion (c3.symm.trans z)) fun z => ?_), c2, c3, c4, c5, c6, c7, c8, c9, c10⟩
        have z2 := c3.symm.trans z
        cases z2
        simp at c4
      · obtain ⟨m, o, b1, b2, b3, b4, b5, b6⟩ := bmod
        refine ⟨m, o, b1, b2, fun z => ?_, fun z => ?_, hidT_get b3 (free b3 (fun us j z => Data.noConfusion (b6.symm.trans z)) fun z => Data.noConfusion (b6.symm.trans z)), b4, b5, b6⟩
        · obtain ⟨o', es, ep, ho, dz, _⟩ := gl
          subst z
          cases Option.some.inj (b3.symm.trans ho)
          exact Data.noConfusion (b6.symm.trans dz)
        · subst z
          cases Option.some.inj (b3.symm.trans (bare t ht))
          exact Data.noConfusion b6
      · intro z
        obtain ⟨o', es, ep, ho, dz, _⟩ := gl
        rw [z] at ho
        cases Option.some.inj (ho.symm.trans (bare t ht))
        exact Data.noConfusion dz
    have env : Env0 P w K mg (hidT s.heap H) callerA [] s H := { frames := rfl, mod := mod, bs := fun c o z => of_hidT z, bsz := Nat.le_of_eq (hidT_size _ _), funs := trivial, frf := (fun c hc => by cases (show c ∈ ([] : List Addr) from hc)), hok := ok, bare := .of_eq ng }
    refine codeAny_mono ((F _ inB (names gl) tables).go callerA rfl room [] s H _ [.ref p] [.ref p] _ _ env (bound s (.ref p)) (.cons rfl .nil) (told H tabs list)) fun r st z => ?_
    match r, z with
    | .error e, z => exact (noX H e st z).elim
    | .ok .next, z => exact z.elim
    | .ok .brk, z => exact z.elim
    | .ok .cont, z => exact z.elim
    | .ok (.ret u), ⟨v, H2, os, bg, un, ok2, rel, q⟩ =>
      cases (show v = V.bl true from q)
      cases (show u = Value.bool true from rel)
      have old : ∀ c o, ¬ c ∈ ts.map Prod.snd → s.heap.get? c = some o → st.heap.get? c = some o := by
        intro c o nc ho
        by_cases hc : H c = none
        · exact un.keep c o ho hc (fun m => by cases (show c ∈ ([] : List Addr) from m)) (fun m => by cases m)
        · rcases kinds c with n | n | ⟨ob, ys, fz⟩
          · exact absurd n hc
          · exact absurd n nc
          · have o1 := (ok c _ fz).1
            have o2 := (ok2 c _ (un.frzs c ob _ fz)).1
            rw [ho] at o1
            rw [Option.some.inj o1]
            exact o2
      have grown : ∀ c ∈ ts.map Prod.snd, ∃ more : Array Value, st.heap.get? c = some { cls := .none, data := .fields more } := by
        intro c hc
        obtain ⟨t, ht, rfl⟩ := List.mem_map.mp hc
        obtain ⟨more, hm⟩ := un.tbls t.2 #[] (tabs t ht)
        exact ⟨_, ok2 t.2 _ hm⟩
      refine ⟨rfl, ⟨fun c o ho => ?_, fun c o ho => ?_⟩, os, bg⟩
      · by_cases hc : c ∈ ts.map Prod.snd
        · obtain ⟨more, hm⟩ := grown c hc
          obtain ⟨t, ht, rfl⟩ := List.mem_map.mp hc
          cases Option.some.inj (ho.symm.trans (bare t ht))
          exact .inr (.inl ⟨((code t ht).tab (bare t ht)).isCodeTable, rfl, #[], more, rfl, by rw [Array.empty_append]; exact hm⟩)
        · exact .inl (old c o hc ho)
      · by_cases hc : c ∈ ts.map Prod.snd
        · obtain ⟨more, hm⟩ := grown c hc
          exact ⟨_, hm⟩
        · exact ⟨o, old c o hc ho⟩
  have rel := vals_ints are
  let base : Hp := fun c => if c ∈ ts.map Prod.snd then some (.tbl #[]) else none
  have onT : ∀ {c : Addr}, c ∈ ts.map Prod.snd → base c = some (.tbl #[]) := fun hc => if_pos hc
  have offT : ∀ {c : Addr}, ¬ c ∈ ts.map Prod.snd → base c = none := fun hc => if_neg hc
  cases hk : K.lookup p with
  | some o =>
    cases Option.some.inj ((inK p o hk).symm.trans script)
    refine main base (fun t ht => onT (inTs ht)) (fun c => ?_) (.inr ⟨_, us.toArray, _, hk, rfl, rfl, rfl, by rw [List.size_toArray, are.length]; exact small, by simpa using rel⟩) (fun c u z => ?_) (fun c z => ?_) fun z => absurd (offT pNo) z
    · rcases Classical.em (c ∈ ts.map Prod.snd) with hc | hc
      · exact .inr (.inl hc)
      · exact .inl (offT hc)
    · rcases Classical.em (c ∈ ts.map Prod.snd) with hc | hc
      · cases Option.some.inj ((onT hc).symm.trans z)
        exact tabAt c hc
      · exact absurd ((offT hc).symm.trans z) (by simp)
    · exact .inr (Classical.byContradiction fun hc => z (offT hc))
  | none =>
    let frz : HO := .frz { cls := .type "list", data := .seq us.toArray } (.lst (zs.map V.int))
    have onP : (fun c => if c = p then some frz else base c) p = some frz := if_pos rfl
    have offP : ∀ {c : Addr}, ¬ c = p → (fun c => if c = p then some frz else base c) c = base c := fun hc => if_neg hc
    refine main (fun c => if c = p then some frz else base c) (fun t ht => ?_) (fun c => ?_) (.inl (.inr ⟨_, onP⟩)) (fun c u z => ?_) (fun c z => ?_) fun _ => hk
    · refine (offP fun e => pNo ?_).trans (onT (inTs ht))
      rw [← e]
      exact inTs ht
    · rcases Classical.em (c = p) with rfl | e
      · exact .inr (.inr ⟨_, _, onP⟩)
      · rcases Classical.em (c ∈ ts.map Prod.snd) with hc | hc
        · exact .inr (.inl hc)
        · exact .inl ((offP e).trans (offT hc))
    · rcases Classical.em (c = p) with rfl | e
      · cases Option.some.inj (onP.symm.trans z)
        exact ⟨script, by rw [List.length_map]; exact small, us, _, rel, script⟩
      · have z := (offP e).symm.trans z
        rcases Classical.em (c ∈ ts.map Prod.snd) with hc | hc
        · cases Option.some.inj ((onT hc).symm.trans z)
          exact tabAt c hc
        · exact absurd ((offT hc).symm.trans z) (by simp)
    · rcases Classical.em (c = p) with e | e
      · exact .inl e
      · exact .inr (Classical.byContradiction fun hc => z ((offP e).trans (offT hc)))
theorem walk_GT {l : PySem.W.OpenLaw} {n k : Nat} {q : Program} {loose : List Str} {XP : (Str → Option Value) → Heap → Prop} {YP : World → Heap → Prop} {d : DefRec} {CX : World → CXT} {x : Str}
    (most : l.most = some n) (small : n ≤ sizeLine) (nodef : d.params.defaults = []) (room : Room k callerA)
    (F : ∀ (w : World) (mg : Str → Option Value) (f : Addr) (top : Heap), YP w top → top.Ns mainGlobals mg → mg d.name = some (.ref f) → ∃ K : PySem.W.Frag, K.In top ∧ LawAtG l w K (CX w) k n x mg f top)
    (noX : ∀ (w : World) (H : Hp) (s : Shared) (e : Value) (st : Shared), CX w [] H s (fun _ _ _ => False) e st → False) :
    PySem.W.WalkO q loose XP YP l.row.toRowW d [] (fun f vs => PySem.call f vs) := by
  refine Att.attach_callB most nodef fun w s0 s mg mb f o pm cd doc p us zs G Y ho hd hcd named script are few bits ng => ?_
  obtain ⟨K, inK, fd, ts, sp, bare, out, code, bound, told, FG⟩ := F w mg f _ Y G.T.g named
  exact law_GT inK G.T.g G.T.b G.T.builtins G.T.nolimit ng bare out code G.T.bmain script are (Nat.le_trans few small) room FG bound (fun H tabs list => told H p zs few bits tabs list) fun H e st => noX w H s e st

/-! ### data made by the law or the program: numbers, truths, texts, lists and tuples of these -/
mutual
inductive Tk (H : Hp) : V → PyData → Prop
  | bl (b : Bool) : Tk H (.bl b) (.bool b)
  | int (i : Int) : Tk H (.int i) (.int i)
  | str (x : Str) : Tk H (.str x) (.str x)
  | lst {a : Addr} {xs : List V} {ds : List PyData} : H a = some (.lst xs) → TkAll H xs ds → Tk H (.ref a) (.list ds)
  | tup {a : Addr} {xs : List V} {ds : List PyData} : H a = some (.tup xs) → TkAll H xs ds → Tk H (.ref a) (.tuple ds)
inductive TkAll (H : Hp) : List V → List PyData → Prop
  | nil : TkAll H [] []
  | cons {v : V} {vs : List V} {d : PyData} {ds : List PyData} : Tk H v d → TkAll H vs ds → TkAll H (v :: vs) (d :: ds)
end
theorem TkAll.length {H : Hp} : ∀ {vs : List V} {ds : List PyData}, TkAll H vs ds → vs.length = ds.length
  | _, _, .nil => rfl
  | _, _, .cons _ t => by rw [List.length_cons, List.length_cons, t.length]
mutual
theorem Tk.same {H H' : Hp} (s : Same H H') : ∀ {v : V} {d : PyData}, Tk H v d → Tk H' v d
  | _, _, .bl b => .bl b
  | _, _, .int i => .int i
  | _, _, .str x => .str x
  | _, _, .lst h t => .lst (s _ _ h) (t.same s)
  | _, _, .tup h t => .tup (s _ _ h) (t.same s)
theorem TkAll.same {H H' : Hp} (s : Same H H') : ∀ {vs : List V} {ds : List PyData}, TkAll H vs ds → TkAll H' vs ds
  | _, _, .nil => .nil
  | _, _, .cons h t => .cons (h.same s) (t.same s)
end
theorem TkAll.get {H : Hp} : ∀ {xs : List V} {ds : List PyData} {j : Nat} {x : V}, TkAll H xs ds → xs[j]? = some x → ∃ d, ds[j]? = some d ∧ Tk H x d
  | _, _, _, _, .nil, h => by simp at h
  | _, _, 0, _, .cons (d := d) a _, h => by
    cases (Option.some.inj h)
    exact ⟨d, rfl, a⟩
  | _, _, j + 1, _, .cons _ t, h => t.get h
theorem TkAll.append {H : Hp} : ∀ {xs ys : List V} {ds es : List PyData}, TkAll H xs ds → TkAll H ys es → TkAll H (xs ++ ys) (ds ++ es)
  | _, _, _, _, .nil, t => t
  | _, _, _, _, .cons a r, t => .cons a (r.append t)
theorem TkAll.ints {H : Hp} : ∀ ns : List Int, TkAll H (ns.map V.int) (ns.map PyData.int)
  | [] => .nil
  | n :: r => .cons (.int n) (TkAll.ints r)
theorem Tk.int_inv {H : Hp} {v : V} {i : Int} (h : Tk H v (.int i)) : v = .int i := by cases h; rfl
theorem Tk.tup_inv {H : Hp} {v : V} {ds : List PyData} (h : Tk H v (.tuple ds)) : ∃ a xs, v = .ref a ∧ H a = some (.tup xs) ∧ TkAll H xs ds := by
  cases h with
  | tup h t => exact ⟨_, _, rfl, h, t⟩
theorem Tk.lst_inv {H : Hp} {v : V} {ds : List PyData} (h : Tk H v (.list ds)) : ∃ a xs, v = .ref a ∧ H a = some (.lst xs) ∧ TkAll H xs ds := by
  cases h with
  | lst h t => exact ⟨_, _, rfl, h, t⟩
theorem TkAll.int_inv {H : Hp} : ∀ {vs : List V} {ns : List Int}, TkAll H vs (ns.map PyData.int) → vs = ns.map V.int
  | _, [], .nil => rfl
  | _, n :: r, .cons h t => by rw [List.map_cons, h.int_inv, t.int_inv]
/-- heaps without one place -/
def hd1 (p : Addr) (H : Hp) : Hp := fun b => if b = p then none else H b
theorem hd1_le {p : Addr} {H : Hp} : Same (hd1 p H) H := fun b o e => by
  unfold hd1 at e
  by_cases h : b = p
  · rw [if_pos h] at e; cases e
  · rw [if_neg h] at e; exact e
theorem hd1_same {p : Addr} {H H' : Hp} (s : Same H H') : Same (hd1 p H) (hd1 p H') := fun b o e => by
  unfold hd1 at e ⊢
  by_cases h : b = p
  · rw [if_pos h] at e; cases e
  · rw [if_neg h] at e ⊢; exact s _ _ e
theorem hd1_upd {p : Addr} {H : Hp} {o : HO} : Same (hd1 p H) (hd1 p (upd H p o)) := fun b x e => by
  unfold hd1 at e ⊢
  by_cases h : b = p
  · rw [if_pos h] at e; cases e
  · rw [if_neg h] at e ⊢; rw [upd_ne h]; exact e
theorem hd1_at {p b : Addr} {H : Hp} (h : b ≠ p) : hd1 p H b = H b := if_neg h
theorem hd1_of {p : Addr} {H H' : Hp} (s : Same H H') (n : H p = none) : Same H (hd1 p H') := fun b o e => by
  rw [hd1_at (ne_of_none e n)]
  exact s _ _ e
theorem same_of_hd1 {p : Addr} {H H' : Hp} {o : HO} (s : Same H (hd1 p H')) : Same H (upd H' p o) := fun b x e => by
  have z := s b x e
  unfold hd1 at z
  by_cases h : b = p
  · rw [if_pos h] at z; cases z
  · rw [if_neg h] at z; rw [upd_ne h]; exact z

/-! ### tables and gates -/
def tabOf (bs : List Bool) : Str := ⟨(bs.map fun b => if b = true then 49 else 48).toArray⟩
def plc (ws : List Int) : Int := ws.foldl (fun p w => 2 * p + w) 0
def gateM (bs : List Bool) (ws : List Int) : Int := if bs.getD (plc ws).toNat false = true then 1 else 0
theorem plc_snoc (ws : List Int) (w : Int) : plc (ws ++ [w]) = 2 * plc ws + w := by
  unfold plc
  rw [List.foldl_append]
  rfl
theorem plc_take {ws : List Int} {i : Nat} {u : Int} (h : ws[i]? = some u) : plc (ws.take (i + 1)) = 2 * plc (ws.take i) + u := by
  rw [List.take_add_one, h]
  exact plc_snoc _ _
theorem plc_bd : ∀ (n : Nat) (ws : List Int), ws.length = n → (∀ w ∈ ws, w = 0 ∨ w = 1) → 0 ≤ plc ws ∧ plc ws < 2 ^ n := by
  intro n
  induction n with
  | zero =>
    intro ws h _
    cases List.eq_nil_of_length_eq_zero h
    decide
  | succ n ih =>
    intro ws h hw
    have hne : ws ≠ [] := fun z => by rw [z] at h; cases h
    obtain ⟨r, x, rfl⟩ : ∃ r x, ws = r ++ [x] := ⟨ws.dropLast, ws.getLast hne, (List.dropLast_concat_getLast hne).symm⟩
    have hr := ih r (by rw [List.length_append] at h; simpa using h) fun w h' => hw w (List.mem_append_left _ h')
    have hx := hw x (by simp)
    rw [plc_snoc, Int.pow_succ]
    omega
theorem gate01 (bs : List Bool) (ws : List Int) : gateM bs ws = 0 ∨ gateM bs ws = 1 := by
  unfold gateM
  split
  · exact .inr rfl
  · exact .inl rfl
theorem int_sign (b : Bool) : PySem.intText? ⟨#[if b = true then 49 else 48]⟩ = some (if b = true then 1 else 0) := by
  cases b <;> decide +kernel
def spGate (K : PySem.W.Frag) : Sp := fun vs H Q _ => ∃ (bs : List Bool) (la : Addr) (ws : List Int), vs = [.str (tabOf bs), .ref la] ∧ SqL K H la (ws.map V.int) ∧ (∀ w ∈ ws, w = 0 ∨ w = 1) ∧ bs.length = 2 ^ ws.length ∧ ws.length ≤ 3 ∧ Q (.int (gateM bs ws)) H
theorem gate_read {bs : List Bool} {ws : List Int} (hw : ∀ w ∈ ws, w = 0 ∨ w = 1) (hb : bs.length = 2 ^ ws.length) (h3 : ws.length ≤ 3) : ∃ b : Bool, 0 ≤ plc ws ∧ plc ws < 2 ^ 63 ∧ plc ws < (tabOf bs).length ∧ (tabOf bs).cps[(plc ws).toNat]? = some (if b = true then 49 else 48) ∧ gateM bs ws = if b = true then 1 else 0 := by
  obtain ⟨p0, p1⟩ := plc_bd _ ws rfl hw
  have p8 : plc ws < 8 := by
    have : (2 : Int) ^ ws.length ≤ 8 := by
      have : ws.length = 0 ∨ ws.length = 1 ∨ ws.length = 2 ∨ ws.length = 3 := by omega
      rcases this with h | h | h | h <;> rw [h] <;> decide
    omega
  have hlt : (plc ws).toNat < bs.length := by
    have : ((2 ^ ws.length : Nat) : Int) = (2 : Int) ^ ws.length := by simp
    omega
  refine ⟨bs[(plc ws).toNat], p0, by omega, ?_, ?_, ?_⟩
  · have : (tabOf bs).length = bs.length := by simp [tabOf, Str.length]
    rw [this]
    omega
  · simp [tabOf, List.getElem?_eq_getElem hlt]
  · unfold gateM
    rw [List.getD_eq_getElem?_getD, List.getElem?_eq_getElem hlt]
    rfl

/-! ### walks -/
theorem gx_tup {α : Type} {K : PySem.W.Frag} {a : Addr} {xs : List V} {g : TG} {tt : TT} {te : TE} {vs : List Nat} {σ0 : L2.St} {End : α → Hp → Prop} {Yd : α → V → Hp → (α → Hp → Prop) → Prop} {a0 : α} {H0 : Hp} (Pv : Nat → α → Hp → Prop) (h0 : Pv 0 a0 H0)
    (hl : ∀ i c H, i ≤ xs.length → Pv i c H → SqT K H a xs)
    (hs : ∀ i x c H, xs[i]? = some x → Pv i c H → g x σ0 H fun σ2 H2 => wipe σ2 vs = σ0 ∧ tt σ2 H2 fun b H3 => if b = true then te σ2 H3 fun y H4 => Yd c y H4 (Pv (i + 1)) else Pv (i + 1) c H3) (hd : ∀ c H, Pv xs.length c H → End c H) :
    ∃ W : Nat → Nat → α → Hp → Prop, (∃ m, W 0 m a0 H0) ∧ tGx (Itt K a) g tt te σ0 vs End Yd W := by
  refine ⟨fun i m c H => m = xs.length - i ∧ i ≤ xs.length ∧ Pv i c H, ⟨xs.length, rfl, Nat.zero_le _, h0⟩, ?_⟩
  rintro i m c H ⟨rfl, hi, p⟩
  by_cases hlt : i < xs.length
  · have hx : xs[i]? = some xs[i] := List.getElem?_eq_getElem hlt
    refine .inr ⟨⟨xs, xs[i], hl i c H hi p, hx⟩, Pv (i + 1), fun c' H' p' => ⟨xs.length - (i + 1), by omega, rfl, hlt, p'⟩, fun x H' y => ?_⟩
    obtain ⟨rfl, y⟩ := y
    exact hs i x c _ (y xs (hl i c _ hi p)) p
  · have e : i = xs.length := by omega
    subst e
    exact .inl ⟨⟨xs, hl _ c H hi p, Nat.le_refl _⟩, hd c H p⟩
theorem lc_zipT {K : PySem.W.Frag} {a b : Addr} {xs ys : List V} {g : TG} {tt : TT} {te : TE} {vs : List Nat} {σ : L2.St} {H1 : Hp} {D : Addr} {Qd : Hp → Prop} (el : xs.length = ys.length) (Pv : Nat → Hp → Prop) (h0 : Pv 0 (upd H1 D (.lst []))) (hl : ∀ i H, i ≤ xs.length → Pv i H → SqT K H a xs ∧ SqT K H b ys)
    (hs : ∀ i x y T H, xs[i]? = some x → ys[i]? = some y → H T = none → Pv i H → g (.ref T) (wipe σ vs) (upd H T (.tup [x, y])) fun σ2 H2 => wipe σ2 vs = wipe σ vs ∧ tt σ2 H2 fun b H3 =>
      if b = true then te σ2 H3 fun y H4 => ∃ acc, H4 D = some (.lst acc) ∧ acc.length < sizeLine ∧ Pv (i + 1) (upd H4 D (.lst (acc ++ [y]))) else Pv (i + 1) H3) (hd : ∀ H, Pv xs.length H → Qd H) :
    ∃ W : Nat → Nat → Hp → Prop, (∃ m, W 0 m (upd H1 D (.lst []))) ∧ ∀ i m H, W i m H →
      ((RZ.ItzT K a b).stop i H ∧ Qd H) ∨ ((RZ.ItzT K a b).go i H ∧ ∃ Nx : Hp → Prop, (∀ H', Nx H' → ∃ m', m' < m ∧ W (i + 1) m' H') ∧ ∀ x H', (RZ.ItzT K a b).yld i H x H' → g x (wipe σ vs) H' fun σ2 H2 => wipe σ2 vs = wipe σ vs ∧ tt σ2 H2 fun b H3 =>
        if b = true then te σ2 H3 fun y H4 => ∃ acc, H4 D = some (.lst acc) ∧ acc.length < sizeLine ∧ Nx (upd H4 D (.lst (acc ++ [y]))) else Nx H3) := by
  refine ⟨fun i m H => m = xs.length - i ∧ i ≤ xs.length ∧ Pv i H, ⟨xs.length, by simp, Nat.zero_le _, h0⟩, ?_⟩
  rintro i m H ⟨rfl, hi, p⟩
  obtain ⟨qx, qy⟩ := hl i H hi p
  by_cases hlt : i < xs.length
  · have hx : xs[i]? = some xs[i] := List.getElem?_eq_getElem hlt
    have hy : ys[i]? = some (ys[i]'(by omega)) := List.getElem?_eq_getElem _
    refine .inr ⟨⟨xs, ys, _, _, qx, qy, hx, hy⟩, Pv (i + 1), fun H' p' => ⟨xs.length - (i + 1), by omega, rfl, hlt, p'⟩, fun x H' y => ?_⟩
    obtain ⟨T, x1, y1, rfl, nT, rfl, e1, e2⟩ := y
    exact hs i x1 y1 T H (e1 xs qx) (e2 ys qy) nT p
  · have e : i = xs.length := by omega
    subst e
    exact .inl ⟨⟨xs, ys, qx, qy, .inl (Nat.le_refl _)⟩, hd H p⟩

/-! ### enumerate(tuple) -/
theorem draws_tuple {P : Program} {w : World} {A : Around} (hA : A.handled = none) (it a : Addr) (items : Array Value) (hne : a ≠ it) : Draws P w A it [it, a] items.size (fun i v => items[i]? = some v) (fun i h => h.IsTupleIter it a i ∧ h.IsTuple a items) where
  live := fun _ _ st => let ⟨o, ho, _⟩ := st.1; ⟨o, ho⟩
  frame := fun _ _ _ st hk => ⟨st.1.at fun o e => hk it (by simp) o e, by
    obtain ⟨o, ho, r⟩ := st.2
    exact ⟨o, hk a (by simp) o ho, r⟩⟩
  item := fun i s Q E hi st hQ => by
    refine RZ.nextOf_tuple_item st.1 st.2 (x := items[i]) (by simp [hi]) fun h' hit' hs' => ?_
    refine hQ _ h' s.toks (by simp [hi]) ⟨hit', ?_⟩ hs'
    obtain ⟨o, ho, r⟩ := st.2
    exact ⟨o, hs'.extBut a o hne ho, r⟩
  done := fun s Q E st hE => RZ.nextOf_tuple_end hA st.1 st.2 (by simp) hE
open PySem.AutoSeq1 in
set_option maxHeartbeats 1000000 in
theorem meets_enumerate_newT (l : Addr) (items : Array Value) (o : Obj) (hc : o.cls = .type "tuple") (n : Nat) (hd : o.data = .seq items n) :
    Meets (Builtin.«enumerate.__new__» ⟨[.type "enumerate", .ref l], []⟩) (fun _ R s => s.heap.get? l = some o ∧
      R (.ok (.ret (.ref (s.heap.push { cls := .type "tuple_iterator", data := .fields #[.ref l, .int 0 0] }).objs.size)))
        { s with heap := (s.heap.push { cls := .type "tuple_iterator", data := .fields #[.ref l, .int 0 0] }).push { cls := .type "enumerate", data := .fields #[.none, .bool false, .ref s.heap.objs.size, rawInt 0, .none, .none] } }) :=
  .of_wp fun prog w A R s h => by
    obtain ⟨hp, g, d, tk, os⟩ := s; obtain ⟨hl, h⟩ := h
    have hsub := sub_enumerate
    have hL : Heap.IsTuple (Shared.heap ⟨hp, g, d, tk, os⟩) l items := ⟨_, hl, hc, n, hd⟩
    wp_walk using wpAny_loadPart' hl
    refine wpAny_stack_any fun st => wpAny_pure ?_
    split
    · rename_i c _ _ _ _ _
      cases (c == Value.type "enumerate")
      · wp_walk using wpAny_loadPart' hl, wpAny_pyIter_tuple hL
        exact ⟨_, rfl, h⟩
      · wp_walk using wpAny_loadPart' hl, wpAny_pyIter_tuple hL
        exact ⟨_, rfl, h⟩
    · wp_walk using wpAny_loadPart' hl, wpAny_pyIter_tuple hL
      exact ⟨_, rfl, h⟩
theorem call_enumerate_tuple {prog : Program} {w : World} {A : Around} {E : Value → Shared → Prop} {s : Shared} {l : Addr} {items : Array Value} {Q : Value → Shared → Prop} (hL : s.heap.IsTuple l items)
    (h : ∀ h', IsEnum h' (s.heap.objs.size + 1) s.heap.objs.size 0 .none → h'.IsTupleIter s.heap.objs.size l 0 → h'.objs.size = s.heap.objs.size + 2 →
      (∀ b o, s.heap.get? b = some o → h'.get? b = some o) → Q (.ref (s.heap.objs.size + 1)) { s with heap := h' }) :
    wpAny (model prog w) A (call (.type "enumerate") [.ref l]) Q E s := by
  obtain ⟨o, hl, hc, n, hd⟩ := hL
  refine callType_new F.called_enumerate (by decide) (F.typeCall_enumerate_1 _) (F.newCall_enumerate_1 _) (fun obj => F.args_object_init_2 obj _) F.entry_enumerate_new
    (meets_enumerate_newT l items o hc n hd) ⟨hl, ?_⟩
  have hz : (s.heap.push { cls := .type "tuple_iterator", data := .fields #[.ref l, .int 0 0] }).objs.size = s.heap.objs.size + 1 := Heap.size_push ..
  show _ ∧ _
  rw [hz]
  have he : IsEnum ((s.heap.push { cls := .type "tuple_iterator", data := .fields #[.ref l, .int 0 0] }).push
      { cls := .type "enumerate", data := .fields #[.none, .bool false, .ref s.heap.objs.size, rawInt 0, .none, .none] }) (s.heap.objs.size + 1) s.heap.objs.size 0 .none := by
    have := Heap.get?_push_size (s.heap.push { cls := .type "tuple_iterator", data := .fields #[.ref l, .int 0 0] })
      (o := { cls := .type "enumerate", data := .fields #[.none, .bool false, .ref s.heap.objs.size, rawInt 0, .none, .none] }) rfl
    rw [hz] at this; exact this
  refine ⟨⟨_, he, rfl⟩, h _ he ⟨_, Heap.get?_push_of_some _ (Heap.get?_push_size _ rfl), rfl, rfl⟩ (by rw [Heap.size_push, hz]) fun b o x => Heap.get?_push_of_some _ (Heap.get?_push_of_some _ x)⟩
/-- the tuple at a, each item in a new pair -/
def IteT (K : PySem.W.Frag) (a : Addr) : It :=
  ⟨fun i H => ∃ (xs : List V) (x : V), SqT K H a xs ∧ xs[i]? = some x, fun i H v H' => ∃ T x, v = .ref T ∧ H T = none ∧ H' = upd H T (.tup [.int (i : Nat), x]) ∧ ∀ xs, SqT K H a xs → xs[i]? = some x, fun i H => ∃ xs : List V, SqT K H a xs ∧ xs.length = i⟩
theorem turn_enumT {P : Program} {w : World} {K : PySem.W.Frag} {elts : List Expr} {kk : Nat} {tpos : Pos} (a e it : Addr) :
    Turn P w K (.Tuple elts kk tpos) (IteT K a) [e, it] e (fun i h => (∃ old, IsEnum h e it ((i : Nat) : Int) old) ∧ h.IsTupleIter it a i ∧ e ≠ it) where
  mem := by simp
  obj := fun i h st b hb => by
    obtain ⟨⟨old, he⟩, ⟨o, ho, hc, hd⟩, _⟩ := st
    have e' : b = e ∨ b = it := by simpa using hb
    rcases e' with z | z
    · rw [z]; exact ⟨_, he, fun v q => nomatch q⟩
    · rw [z]; exact ⟨o, ho, fun v q => by rw [hd] at q; cases q⟩
  keep := fun i h h' st k => let ⟨⟨old, he⟩, hi, hne⟩ := st; ⟨⟨old, k e (by simp) _ he⟩, hi.at fun o q => k it (by simp) o q, hne⟩
  item := by
    intro X hP hw hK hc i pins s σ H E I hf st hg
    subst hP hw hK
    obtain ⟨⟨old, he⟩, hit, hne⟩ := st
    obtain ⟨xs, x, hq, hx⟩ := hg
    obtain ⟨its, rv, p, hz⟩ := I.tuple hq
    obtain ⟨u, hu, ru⟩ := rv.get hx
    have hel : e < s.heap.objs.size := Heap.lt_size he
    have hil : it < s.heap.objs.size := by obtain ⟨_, q, _⟩ := hit; exact Heap.lt_size q
    have hpt : s.heap.IsTuple a its.toArray := p
    have hai : a ≠ it := fun z => by
      obtain ⟨o1, h1, c1, _⟩ := hpt
      obtain ⟨o2, h2, c2, _⟩ := hit
      rw [z, h2] at h1
      cases h1
      rw [c2] at c1
      exact absurd (Value.type.inj c1) (by decide)
    have hae : e ≠ a := fun z => by
      obtain ⟨o1, h1, c1, _⟩ := hpt
      rw [← z, he] at h1
      cases h1
      exact absurd (Value.type.inj c1) (by decide)
    have hil2 : i < its.toArray.size := by
      rw [List.size_toArray]
      exact (List.getElem?_eq_some_iff.mp hu).1
    refine wpAny_pyNext_enum_itemD (draws_tuple (A := X.A.in1) (I.ok.hd hc) it a its.toArray hai) he ⟨hit, hpt⟩ hil2 hne (by simp only [List.mem_cons, List.not_mem_nil, or_false, not_or]; exact ⟨hne, hae⟩) fun y h' tk hy ho hst hT hsz hk => ?_
    have hyu : y = u := by
      have : its[i]? = some y := by simpa using hy
      rw [hu] at this
      exact (Option.some.inj this).symm
    subst hyu
    have hit' := hst.1
    refine ⟨_, rfl, wpAny_letOwnedTupleGo_enum (s := { s with heap := h', toks := tk + 1 }) ho fun h'' he' sb => ?_⟩
    have hT2 : h''.get? s.heap.objs.size = some { cls := .type "tuple", data := .seq #[.int i tk, y] } := (sb.2 _ (Nat.ne_of_gt hel)).trans hT
    have new : ObjOk X.prog X.w (upd H s.heap.objs.size (.tup [.int (i : Nat), x])) h'' s.heap.objs.size (.tup [.int (i : Nat), x]) :=
      ⟨by show 2 ≤ sizeLine; decide, [.int i tk, y], .cons ⟨_, rfl⟩ (.cons ru .nil), ⟨_, hT2, rfl, _, rfl⟩⟩
    have I1 : Inv X pins σ (upd H s.heap.objs.size (.tup [.int (i : Nat), x])) { s with heap := h'', toks := tk + 1 } :=
      I.turnedNew (ch := [e, it]) (fun b ob hb q => (sb.2 b (fun z => hb (by simp [z]))).trans (hk b ob (fun z => hb (by simp [z])) (fun z => hb (by simp [z])) q)) hf (Nat.le_refl _) new
    refine ⟨.ref s.heap.objs.size, _, I1, rfl, ⟨_, x, rfl, I.hok.fresh (Nat.le_refl _), rfl, fun ys hy => by rw [I.tuple_inj hy hq]; exact hx⟩, ⟨⟨y, ?_⟩, hit'.at fun o q => (sb.2 it (Ne.symm hne)).trans q, hne⟩, fun b hb => ?_⟩
    · have e1 : ((i + 1 : Nat) : Int) = (i : Int) + 1 := by omega
      rw [e1]; exact he'
    · have hb' : b < s.heap.objs.size := by
        have e' : b = e ∨ b = it := by simpa using hb
        rcases e' with z | z
        · rw [z]; exact hel
        · rw [z]; exact hil
      rw [upd_ne (Nat.ne_of_lt hb')]
      exact (hf b hb).1
  done := by
    intro X hP hw hK hc i pins s σ H E I hf st hg
    subst hP hw hK
    obtain ⟨⟨old, he⟩, hit, hne⟩ := st
    obtain ⟨xs, hq, hx⟩ := hg
    obtain ⟨its, rv, p, hz⟩ := I.tuple hq
    obtain ⟨f0, f1, f2, f3, f4, f5⟩ := hf it (by simp)
    have hl := rv.length
    have hpt : s.heap.IsTuple a its.toArray := p
    have hai : a ≠ it := fun z => by
      obtain ⟨o1, h1, c1, _⟩ := hpt
      obtain ⟨o2, h2, c2, _⟩ := hit
      rw [z, h2] at h1
      cases h1
      rw [c2] at c1
      exact absurd (Value.type.inj c1) (by decide)
    have hn : i = its.toArray.size := by rw [List.size_toArray]; omega
    exact wpAny_pyNext_enum_endD (draws_tuple (A := X.A.in1) (I.ok.hd hc) it a its.toArray hai) he (by rw [← hn]; exact ⟨hit, hpt⟩) fun h' eb => ⟨rfl, I.turned (t' := s.toks) (fun b o hb q => eb b o hb q) f0 f1 f3 f4 f5⟩
  self := fun A i s Q E st h => let ⟨⟨_, he⟩, _⟩ := st; wpAny_pyIter_enum he h
def iEnumT (K : PySem.W.Frag) (ta : TA) : TI := fun σ H R => ta σ H fun vs H1 => ∃ a xs, vs = [.ref a] ∧ SqT K H1 a xs ∧ R (IteT K a) H1
theorem pi_enumT {X : Cx} {e : Expr} {ta : TA} {p pos tpos : Pos} {elts : List Expr} {kk : Nat} (hg : Gl X "enumerate") (hm : X.mg "enumerate" = none) (ha : PA X [e] ta) (hs : starEach [e] X.env = [(false, eval e X.env)] := by rfl) :
    PI X (.Tuple elts kk tpos) (.Call (.Name "enumerate" p) [e] [] pos) (iEnumT X.K ta) := by
  refine ⟨fun pins s σ H R I h => ?_⟩
  refine Call_ (ld_blt I hg hm boot_enumerate (PyProof.Rows.callWith_type1 (thn (ha.run pos pins s σ H _ I h) fun us s1 ⟨vs, H1, I1, r1, q1⟩ => ?_) hs rfl))
  obtain ⟨a, xs, ex, hq, q⟩ := q1
  subst ex
  cases r1 with
  | cons r rr =>
    cases rr
    cases r
    obtain ⟨its, rv, p', hz⟩ := I1.tuple hq
    refine call_enumerate_tuple p' fun h' he hit hsz hk => wpAny_pyIter_enum he ?_
    have I2 : Inv X pins σ H1 { s1 with heap := h' } := I1.kept (t' := s1.toks) hk
    refine ⟨s1.heap.objs.size + 1, [s1.heap.objs.size + 1, s1.heap.objs.size], _, _, H1, rfl, I2, turn_enumT a (s1.heap.objs.size + 1) s1.heap.objs.size, ⟨⟨.none, he⟩, hit, Nat.succ_ne_self _⟩, fun b hb => ?_, q⟩
    have e' : b = s1.heap.objs.size + 1 ∨ b = s1.heap.objs.size := by simpa using hb
    have hle : s1.heap.objs.size ≤ b := by
      rcases e' with z | z
      · rw [z]; exact Nat.le_add_right _ _
      · rw [z]; exact Nat.le_refl _
    exact I1.fpOk hle (I1.hok.fresh hle)
theorem gx_enum {α : Type} {K : PySem.W.Frag} {a : Addr} {xs : List V} {g : TG} {tt : TT} {te : TE} {vs : List Nat} {σ0 : L2.St} {End : α → Hp → Prop} {Yd : α → V → Hp → (α → Hp → Prop) → Prop} {a0 : α} {H0 : Hp} (Pv : Nat → α → Hp → Prop) (h0 : Pv 0 a0 H0)
    (hl : ∀ i c H, i ≤ xs.length → Pv i c H → SqT K H a xs)
    (hs : ∀ i x T c H, xs[i]? = some x → H T = none → Pv i c H → g (.ref T) σ0 (upd H T (.tup [.int (i : Nat), x])) fun σ2 H2 => wipe σ2 vs = σ0 ∧ tt σ2 H2 fun b H3 => if b = true then te σ2 H3 fun y H4 => Yd c y H4 (Pv (i + 1)) else Pv (i + 1) c H3) (hd : ∀ c H, Pv xs.length c H → End c H) :
    ∃ W : Nat → Nat → α → Hp → Prop, (∃ m, W 0 m a0 H0) ∧ tGx (IteT K a) g tt te σ0 vs End Yd W := by
  refine ⟨fun i m c H => m = xs.length - i ∧ i ≤ xs.length ∧ Pv i c H, ⟨xs.length, rfl, Nat.zero_le _, h0⟩, ?_⟩
  rintro i m c H ⟨rfl, hi, p⟩
  by_cases hlt : i < xs.length
  · have hx : xs[i]? = some xs[i] := List.getElem?_eq_getElem hlt
    refine .inr ⟨⟨xs, xs[i], hl i c H hi p, hx⟩, Pv (i + 1), fun c' H' p' => ⟨xs.length - (i + 1), by omega, rfl, hlt, p'⟩, fun x H' y => ?_⟩
    obtain ⟨T, x1, rfl, nT, rfl, e1⟩ := y
    exact hs i x1 T c H (e1 xs (hl i c _ hi p)) nT p
  · have e : i = xs.length := by omega
    subst e
    exact .inl ⟨⟨xs, hl _ c H hi p, rfl⟩, hd c H p⟩
theorem gx_str {α : Type} {z : Str} {g : TG} {tt : TT} {te : TE} {vs : List Nat} {σ0 : L2.St} {End : α → Hp → Prop} {Yd : α → V → Hp → (α → Hp → Prop) → Prop} {a0 : α} {H0 : Hp} (Pv : Nat → α → Hp → Prop) (h0 : Pv 0 a0 H0)
    (hs : ∀ i x c H, z.cps[i]? = some x → Pv i c H → g (.str ⟨#[x]⟩) σ0 H fun σ2 H2 => wipe σ2 vs = σ0 ∧ tt σ2 H2 fun b H3 => if b = true then te σ2 H3 fun y H4 => Yd c y H4 (Pv (i + 1)) else Pv (i + 1) c H3) (hd : ∀ c H, Pv z.cps.size c H → End c H) :
    ∃ W : Nat → Nat → α → Hp → Prop, (∃ m, W 0 m a0 H0) ∧ tGx (Its z) g tt te σ0 vs End Yd W := by
  refine ⟨fun i m c H => m = z.cps.size - i ∧ i ≤ z.cps.size ∧ Pv i c H, ⟨z.cps.size, rfl, Nat.zero_le _, h0⟩, ?_⟩
  rintro i m c H ⟨rfl, hi, p⟩
  by_cases hlt : i < z.cps.size
  · refine .inr ⟨hlt, Pv (i + 1), fun c' H' p' => ⟨z.cps.size - (i + 1), by omega, rfl, hlt, p'⟩, fun x H' y => ?_⟩
    obtain ⟨rfl, ch, hc, rfl⟩ := y
    exact hs i ch c _ hc p
  · have e : i = z.cps.size := by omega
    subst e
    exact .inl ⟨Nat.le_refl _, hd c H p⟩

/-! ### nets, and the words of nets -/
abbrev Gt := List Bool × List Nat
def gD (g : Gt) : PyData := .tuple [.str (tabOf g.1), .tuple ((g.2.map Int.ofNat).map PyData.int)]
def netD (many : Int) (gs : List Gt) : PyData := .tuple [.int many, .tuple (gs.map gD)]
def rowD (r : List Int) : PyData := .tuple (r.map PyData.int)
def chD (a b : List Int) : PyData := .tuple [rowD a, rowD b]
def GtOk (n : Nat) (g : Gt) : Prop := g.1.length = 2 ^ g.2.length ∧ 1 ≤ g.2.length ∧ g.2.length ≤ 3 ∧ ∀ i ∈ g.2, i < n
def NetOk (n : Nat) (gs : List Gt) : Prop := ∀ k g, gs[k]? = some g → GtOk (n + k) g
def Row01 (r : List Int) : Prop := ∀ x ∈ r, x = 0 ∨ x = 1
mutual
theorem Tk.gr {H H' : Hp} (s : Gr H H') : ∀ {v : V} {d : PyData}, Tk H v d → Tk H' v d
  | _, _, .bl b => .bl b
  | _, _, .int i => .int i
  | _, _, .str x => .str x
  | _, _, .lst h t => .lst (s.lst h) (t.gr s)
  | _, _, .tup h t => .tup (s.tup h) (t.gr s)
theorem TkAll.gr {H H' : Hp} (s : Gr H H') : ∀ {vs : List V} {ds : List PyData}, TkAll H vs ds → TkAll H' vs ds
  | _, _, .nil => .nil
  | _, _, .cons h t => .cons (h.gr s) (t.gr s)
end
theorem Tk.row_inv {H : Hp} {v : V} {r : List Int} (h : Tk H v (rowD r)) : ∃ a, v = .ref a ∧ H a = some (.tup (r.map V.int)) := by
  obtain ⟨a, xs, rfl, ha, t⟩ := h.tup_inv
  rw [t.int_inv] at ha
  exact ⟨a, rfl, ha⟩
theorem Tk.ch_inv {H : Hp} {v : V} {a b : List Int} (h : Tk H v (chD a b)) : ∃ c ra rb, v = .ref c ∧ H c = some (.tup [.ref ra, .ref rb]) ∧ H ra = some (.tup (a.map V.int)) ∧ H rb = some (.tup (b.map V.int)) := by
  obtain ⟨c, xs, rfl, hc, t⟩ := h.tup_inv
  cases t with
  | cons h1 t => cases t with
    | cons h2 t =>
      cases t
      obtain ⟨ra, rfl, ha⟩ := h1.row_inv
      obtain ⟨rb, rfl, hb⟩ := h2.row_inv
      exact ⟨c, ra, rb, rfl, hc, ha, hb⟩
theorem Tk.net_inv {H : Hp} {v : V} {m : Int} {gs : List Gt} (h : Tk H v (netD m gs)) : ∃ n g xs, v = .ref n ∧ H n = some (.tup [.int m, .ref g]) ∧ H g = some (.tup xs) ∧ TkAll H xs (gs.map gD) := by
  obtain ⟨n, xs, rfl, hn, t⟩ := h.tup_inv
  cases t with
  | cons h1 t => cases t with
    | cons h2 t =>
      cases t
      cases h1
      obtain ⟨g, ys, rfl, hg, t2⟩ := h2.tup_inv
      exact ⟨n, g, ys, rfl, hn, hg, t2⟩
theorem Tk.gt_inv {H : Hp} {v : V} {g : Gt} (h : Tk H v (gD g)) : ∃ a i, v = .ref a ∧ H a = some (.tup [.str (tabOf g.1), .ref i]) ∧ H i = some (.tup ((g.2.map Int.ofNat).map V.int)) := by
  obtain ⟨a, xs, rfl, ha, t⟩ := h.tup_inv
  cases t with
  | cons h1 t => cases t with
    | cons h2 t =>
      cases t
      cases h1
      obtain ⟨i, rfl, hi⟩ := (show Tk H _ (rowD (g.2.map Int.ofNat)) from h2).row_inv
      exact ⟨a, i, rfl, ha, hi⟩
theorem TkAll.at {H : Hp} {α : Type} {f : α → PyData} {xs : List V} {ds : List α} (t : TkAll H xs (ds.map f)) {j : Nat} {v : V} (h : xs[j]? = some v) : ∃ x, ds[j]? = some x ∧ Tk H v (f x) := by
  obtain ⟨dx, hdx, tx⟩ := t.get h
  rw [List.getElem?_map] at hdx
  cases hz : ds[j]? with
  | none => rw [hz] at hdx; cases hdx
  | some x =>
    rw [hz] at hdx
    cases Option.some.inj hdx
    exact ⟨x, rfl, tx⟩
theorem TkAll.at' {H : Hp} {α : Type} {f : α → PyData} {xs : List V} {ds : List α} (t : TkAll H xs (ds.map f)) {j : Nat} {x : α} (h : ds[j]? = some x) : ∃ v, xs[j]? = some v ∧ Tk H v (f x) := by
  have hl := t.length
  rw [List.length_map] at hl
  have hj := (List.getElem?_eq_some_iff.mp h).1
  obtain ⟨y, hy, ty⟩ := t.at (List.getElem?_eq_getElem (l := xs) (i := j) (by omega))
  cases Option.some.inj (h.symm.trans hy)
  exact ⟨_, List.getElem?_eq_getElem _, ty⟩
theorem grow_upd {H H' : Hp} {p : Addr} {o : HO} (g : Gr H H') (n : H' p = none) : Gr H (upd H' p o) := g.trans (Gr.none n)
/-- no table, no older list: only the list at D is written -/
def GrD (D : Addr) (H H' : Hp) : Prop := Gr H (hd1 D H')
theorem GrD.gr {D : Addr} {H H' : Hp} (g : GrD D H H') : Gr H H' := g.trans (Gr.of hd1_le)
theorem TabG_hd1 {D P : Addr} {H : Hp} (h : GxR.TabG H P) (n : D ≠ P) : GxR.TabG (hd1 D H) P := by
  obtain ⟨ps, e, t⟩ := h
  exact ⟨ps, by rw [hd1_at (Ne.symm n)]; exact e, t⟩
theorem GrD.new {D : Addr} {H : Hp} {o : HO} (n : H D = none) : GrD D H (upd H D o) := Gr.of (hd1_of (same_upd n) n)
theorem hd1_gr {D : Addr} {H H' : Hp} (g : Gr H H') (hD : ∀ P, GxR.TabG H P → D ≠ P) : Gr (hd1 D H) (hd1 D H') := by
  refine ⟨fun b o n e => ?_, fun b t => ?_⟩
  · have hb : b ≠ D := fun z => by
      unfold hd1 at e
      rw [if_pos z] at e; cases e
    rw [hd1_at hb] at e ⊢
    exact g.1 b o n e
  · obtain ⟨ps, e, t⟩ := t
    have e' := hd1_le _ _ e
    exact TabG_hd1 (g.2 b ⟨ps, e', t⟩) (hD b ⟨ps, e', t⟩)
theorem GrD.then {D : Addr} {H H1 H2 : Hp} {xs : List V} (a : GrD D H H1) (hD : H1 D = some (.lst xs)) (b : Gr H1 H2) : GrD D H H2 := a.trans (hd1_gr b fun P ⟨ps, e, _⟩ z => by
  rw [← z, hD] at e
  cases e)
theorem GrD.set {D : Addr} {H H1 : Hp} {o : HO} (a : GrD D H H1) : GrD D H (upd H1 D o) := a.trans (Gr.of hd1_upd)

end Gk

set_option Elab.async false
set_option linter.all false
set_option maxRecDepth 100000
set_option maxHeartbeats 1000000
set_option pp.maxSteps 1500
set_option pp.deepTerms false
namespace Gk
open PySem PySem.Spec PyProof.Rows L2
/-! ### data of tuples alone: no list that is written can harm it -/
mutual
def noL : PyData → Bool
  | .list _ => false
  | .tuple ds => noLs ds
  | _ => true
def noLs : List PyData → Bool
  | [] => true
  | d :: r => noL d && noLs r
end
def Ts (H H' : Hp) : Prop := ∀ b xs, H b = some (HO.tup xs) → H' b = some (.tup xs)
theorem Ts.refl {H : Hp} : Ts H H := fun _ _ e => e
theorem Ts.trans {H H1 H2 : Hp} (a : Ts H H1) (b : Ts H1 H2) : Ts H H2 := fun c xs e => b c xs (a c xs e)
theorem Ts.same {H H' : Hp} (s : Same H H') : Ts H H' := fun b xs e => s _ _ e
theorem Ts.gr {H H' : Hp} (s : Gr H H') : Ts H H' := fun b xs e => s.tup e
theorem Ts.new {H : Hp} {p : Addr} {o : HO} (h : H p = none) : Ts H (upd H p o) := Ts.same (same_upd h)
theorem Ts.set {H : Hp} {p : Addr} {xs ys : List V} (h : H p = some (.lst xs)) : Ts H (upd H p (.lst ys)) := fun b zs e => by
  rw [upd_ne (ne_of e h (by intro z; cases z))]
  exact e
mutual
theorem Tk.ts {H H' : Hp} (s : Ts H H') : ∀ {v : V} {d : PyData}, Tk H v d → noL d = true → Tk H' v d
  | _, _, .bl b, _ => .bl b
  | _, _, .int i, _ => .int i
  | _, _, .str x, _ => .str x
  | _, _, .lst h t, n => by cases n
  | _, _, .tup h t, n => .tup (s _ _ h) (t.ts s n)
theorem TkAll.ts {H H' : Hp} (s : Ts H H') : ∀ {vs : List V} {ds : List PyData}, TkAll H vs ds → noLs ds = true → TkAll H' vs ds
  | _, _, .nil, _ => .nil
  | _, _, .cons (d := d) (ds := ds) h t, n => by
    have n' : noL d = true ∧ noLs ds = true := Bool.and_eq_true_iff.mp n
    exact .cons (h.ts s n'.1) (t.ts s n'.2)
end
theorem noLs_map {α : Type} {f : α → PyData} (h : ∀ x, noL (f x) = true) : ∀ l : List α, noLs (l.map f) = true
  | [] => rfl
  | x :: r => by
    show (noL (f x) && noLs (r.map f)) = true
    rw [h x, noLs_map h r]
    rfl
theorem noL_row (r : List Int) : noL (rowD r) = true := noLs_map (fun _ => rfl) r
theorem noL_gate (g : Gt) : noL (gD g) = true := by
  show (true && (noLs ((g.2.map Int.ofNat).map PyData.int) && true)) = true
  rw [noLs_map (fun _ => rfl)]
  rfl
theorem noL_gates (gs : List Gt) : noLs (gs.map gD) = true := noLs_map noL_gate gs
theorem noL_net (m : Int) (gs : List Gt) : noL (netD m gs) = true := by
  show (true && (noLs (gs.map gD) && true)) = true
  rw [noL_gates]
  rfl
theorem noL_ch (a b : List Int) : noL (chD a b) = true := by
  show (noL (rowD a) && (noL (rowD b) && true)) = true
  rw [noL_row, noL_row]
  rfl

section
variable {P : Program} {w : World} {K : PySem.W.Frag} {mg : Str → Option Value} {base : Heap}
/-! ### the deck whose cells are taken from behind -/
def DeckC (H : Hp) (d l : Addr) (n : Int) : Prop := d ≠ l ∧ ∃ (cs : List Int) (y z : Int), H d = some (.lst [.ref l, .int y, .int z]) ∧ H l = some (.lst (cs.map V.int)) ∧ cs.length ≤ 63 ∧ 0 ≤ z ∧ z ≤ n
theorem DeckC.mono {H : Hp} {d l : Addr} {n m : Int} (D : DeckC H d l n) (h : n ≤ m) : DeckC H d l m := by
  obtain ⟨ne, cs, z, y, h1, h2, h3, h4, h5⟩ := D
  exact ⟨ne, cs, z, y, h1, h2, h3, h4, Int.le_trans h5 h⟩
theorem DeckC.same {H H' : Hp} {d l : Addr} {n : Int} (D : DeckC H d l n) (s : Same H H') : DeckC H' d l n := by
  obtain ⟨ne, cs, z, y, hd, hl, r⟩ := D
  exact ⟨ne, cs, z, y, s _ _ hd, s _ _ hl, r⟩
theorem DeckC.gr {H H' : Hp} {d l : Addr} {n : Int} (D : DeckC H d l n) (s : Gr H H') : DeckC H' d l n := by
  obtain ⟨ne, cs, z, y, hd, hl, r⟩ := D
  exact ⟨ne, cs, z, y, s.lst hd, s.lst hl, r⟩
theorem DeckC.upd {H : Hp} {d l p : Addr} {n : Int} {o : HO} (D : DeckC H d l n) (h1 : p ≠ d) (h2 : p ≠ l) : DeckC (upd H p o) d l n := by
  obtain ⟨ne, cs, z, y, hd, hl, r⟩ := D
  exact ⟨ne, cs, z, y, by rw [upd_ne h1.symm]; exact hd, by rw [upd_ne h2.symm]; exact hl, r⟩
theorem DeckC.off {H : Hp} {d l p : Addr} {n : Int} (D : DeckC H d l n) (h : H p = none) : p ≠ d ∧ p ≠ l := by
  obtain ⟨ne, cs, z, y, hd, hl, r⟩ := D
  exact ⟨(ne_of_none hd h).symm, (ne_of_none hl h).symm⟩
theorem Ts.frC {H H' : Hp} {d l : Addr} {n : Int} (D : DeckC H d l n) (f : Fr d l H H') : Ts H H' := fun b xs e => by
  obtain ⟨ne, cs, z, y, hd, hl, r⟩ := D
  exact f b _ (ne_of e hd (by intro z; cases z)) (ne_of e hl (by intro z; cases z)) e
theorem Fr.upd {d l p : Addr} {H H' : Hp} {o : HO} (f : Fr d l H H') (h : H p = none) : Fr d l H (upd H' p o) := fun b u h1 h2 e => by
  rw [upd_ne (ne_of_none e h)]
  exact f b u h1 h2 e
theorem tab_frC {H H' : Hp} {d l P : Addr} {n : Int} (D : DeckC H d l n) (f : Fr d l H H') (t : GxR.TabG H P) : GxR.TabG H' P := by
  obtain ⟨ps, e, tr⟩ := t
  obtain ⟨ne, cs, z, y, hd, hl, r⟩ := D
  exact ⟨ps, f _ _ (ne_of e hd (by intro z; cases z)) (ne_of e hl (by intro z; cases z)) e, tr⟩
theorem none_of_frC {d l p : Addr} {H H' : Hp} {n : Int} (f : Fr d l H H') (D : DeckC H' d l n) (h : H' p = none) : H p = none := by
  have o := D.off h
  cases z : H p with
  | none => rfl
  | some u => rw [f _ _ o.1 o.2 z] at h; cases h
theorem cut63 {ns : List Int} (h : ns.length ≤ 63) : cutV (ns.map V.int) none (some 63) = ns.map V.int := by
  unfold cutV
  have e : HT.sIx (ns.map V.int).length (ns.map V.int).length (some 63) = min 63 (ns.map V.int).length := HT.sIx_nat _ _ 63
  rw [HT.sIx_none, e, List.length_map, List.drop_zero]
  apply List.take_of_length_le
  rw [List.length_map]
  omega
theorem sq_same {K : PySem.W.Frag} {H H' : Hp} {a : Addr} {xs : List V} (s : Same H H') (h : SqL K H a xs) : SqL K H' a xs := h.imp (fun r => r.imp (fun e => s _ _ e) (fun ⟨ob, e⟩ => ⟨ob, s _ _ e⟩)) id
def sp_deck (K : PySem.W.Frag) : Sp := fun vs H Q _ => ∃ (a : Addr) (ns : List Int), vs = [.ref a] ∧ SqL K H a (ns.map V.int) ∧ ns.length ≤ 63 ∧ ∀ H' d l, Same H H' → DeckC H' d l 0 → Q (.ref d) H'
theorem ok_deck (T : Tx w K mg) : FnOk P w K mg base CX0 1 T.f_deck T.fd_deck ["_law_script"] (sp_deck K) := by
  refine T.F_deck.ok sc_deck (fun vs H Q E h => ?_) (fun cdv A outer s H vs Q E hr h => ?_)
  · obtain ⟨a, ns, rfl, _⟩ := h
    rfl
  · obtain ⟨a, ns, rfl, hS, hlen, q⟩ := h
    refine ⟨_, (pss_one (ps_ret (pe_lst (pa_cons (RevL.pe_lstRev rfl (by rfl) T.m_list (by rfl) T.m_reversed (pe_slice sl_list (pv 0) po_none (po_some pe_int))) (pa_cons (pe_op op_add (pe_callB (cr_sum rfl) (by rfl) T.m_sum (by decide +kernel) (pa_cons (pe_slice sl_list (pv 0) po_none (po_some pe_int)) pa_nil)) (pe_callB call_len_seq (by rfl) T.m_len PySem.boot_len (pa_cons (pe_slice sl_list (pv 0) po_none (po_some pe_int)) pa_nil))) (pa_cons pe_int pa_nil)))))), ?_⟩
    refine ⟨.ref a, rfl, 63, rfl, a, _, rfl, hS, fun c1 n1 => ?_⟩
    rw [cut63 hlen]
    have s1 := same_upd (o := HO.lst (ns.map V.int)) n1
    refine ⟨c1, _, rfl, SqL.of upd_same, fun l nl => ?_⟩
    have s2 := same_upd (o := HO.lst (ns.map V.int).reverse) nl
    refine ⟨.ref a, rfl, 63, rfl, a, _, rfl, sq_same (s1.trans s2) hS, fun c3 n3 => ?_⟩
    rw [cut63 hlen]
    have s3 := same_upd (o := HO.lst (ns.map V.int)) n3
    refine ⟨c3, ns, rfl, SqL.of upd_same, .ref a, rfl, 63, rfl, a, _, rfl, sq_same ((s1.trans s2).trans s3) hS, fun c4 n4 => ?_⟩
    rw [cut63 hlen]
    have s4 := same_upd (o := HO.lst (ns.map V.int)) n4
    refine ⟨c4, _, rfl, .inl (SqL.of upd_same), _, _, rfl, rfl, sl3, fun d nd => ?_⟩
    have s5 := same_upd (o := HO.lst [V.ref l, V.int (ns.sum + ((ns.map V.int).length : Nat)), V.int 0]) nd
    have hl4 := s4 _ _ (s3 _ _ (show (upd (upd H c1 (.lst (ns.map V.int))) l (.lst (ns.map V.int).reverse)) l = _ from upd_same))
    refine q _ d l ((((s1.trans s2).trans s3).trans s4).trans s5) ⟨(ne_of_none hl4 nd).symm, ns.reverse, _, 0, upd_same, ?_, by rw [List.length_reverse]; exact hlen, Int.le_refl _, Int.le_refl _⟩
    rw [List.map_reverse]
    exact s5 _ _ hl4
def sp_mixed (K : PySem.W.Frag) : Sp := fun vs H Q _ => ∃ c k : Int, vs = [.int c, .int k] ∧ 0 ≤ k ∧ k < 2000000000 ∧ ∀ v, 0 ≤ v → Q (.int v) H
theorem ok_mixed (T : Tx w K mg) : FnOk P w K mg base CX0 1 T.f_mixed T.fd_mixed ["_law_cell", "_law_k"] (sp_mixed K) := by
  refine T.F_mixed.ok sc_mixed (fun vs H Q E h => ?_) (fun cdv A outer s H vs Q E hr h => ?_)
  · obtain ⟨c, k, rfl, _⟩ := h
    rfl
  · obtain ⟨c, k, rfl, k0, k1, q⟩ := h
    refine ⟨_, (pss_cons (ps_set (i := 2) sc_mixed.nd rfl (by first | exact .inl rfl | exact .inr rfl) (pe_op op_mod (pe_op op_mul (pe_op op_add (pe_op op_add (pe_op op_mod (pv 0) pe_int) (pe_op op_mul pe_int (pv 1))) pe_int) pe_int) pe_int)) (pss_cons (ps_set (i := 2) sc_mixed.nd rfl (by first | exact .inl rfl | exact .inr rfl) (pe_op op_mod (pe_op op_add (pe_op op_add (pe_op op_mul (pv 2) (pv 2)) (pe_op op_mul pe_int (pv 1))) pe_int) pe_int)) (pss_one (ps_ret (pe_op op_add (pe_op op_mul (pv 2) pe_int) (pe_op op_mod (pe_op op_add (pe_op op_add (pe_op op_mul (pv 2) (pv 2)) (pe_op op_mul pe_int (pv 2))) (pv 1)) pe_int)))))), ?_⟩
    refine ⟨.int c, rfl, _, _, rfl, rfl, p29, .int k, rfl, 7919, k, rfl, rfl, .inl ⟨by decide, by decide⟩, _, _, rfl, rfl, _, _, rfl, rfl, _, 48271, rfl, rfl, .inr ⟨by decide, by decide⟩, _, _, rfl, rfl, p47, ?_⟩
    dsimp only
    have v0 := Int.emod_nonneg ((c % 2147483629 + 7919 * k + 1) * 48271) (show (2147483647 : Int) ≠ 0 by decide)
    have v1 := Int.emod_lt_of_pos ((c % 2147483629 + 7919 * k + 1) * 48271) (show (0 : Int) < 2147483647 by decide)
    revert v0 v1
    generalize ((c % 2147483629 + 7919 * k + 1) * 48271) % 2147483647 = v
    intro v0 v1
    refine ⟨.int v, rfl, .int v, rfl, v, v, rfl, rfl, .inl ⟨by omega, by omega⟩, .int k, rfl, 69621, k, rfl, rfl, .inl ⟨by decide, by decide⟩, _, _, rfl, rfl, _, _, rfl, rfl, _, _, rfl, rfl, p87, ?_⟩
    dsimp only
    have u0 := Int.emod_nonneg (v * v + 69621 * k + 7) (show (2147483587 : Int) ≠ 0 by decide)
    have u1 := Int.emod_lt_of_pos (v * v + 69621 * k + 7) (show (0 : Int) < 2147483587 by decide)
    revert u0 u1
    generalize (v * v + 69621 * k + 7) % 2147483587 = u
    intro u0 u1
    refine ⟨.int u, rfl, u, 2147483563, rfl, rfl, .inl ⟨by omega, by omega⟩, .int u, rfl, .int u, rfl, u, u, rfl, rfl, .inl ⟨by omega, by omega⟩, .int u, rfl, 16807, u, rfl, rfl, .inl ⟨by decide, by decide⟩, _, _, rfl, rfl, .int k, rfl, _, _, rfl, rfl, _, _, rfl, rfl, (show (0 : Int) < 2147483563 by decide), _, _, rfl, rfl, ?_⟩
    refine q _ ?_
    have a := Int.emod_nonneg (u * u + 16807 * u + k) (show (2147483563 : Int) ≠ 0 by decide)
    have b : 0 ≤ u * 2147483563 := by omega
    omega
def sp_take (K : PySem.W.Frag) : Sp := fun vs H Q _ => ∃ (d l : Addr) (m n : Int), vs = [.ref d, .int m] ∧ DeckC H d l n ∧ n < 1000000000 ∧ 0 < m ∧ m < 1073741824 ∧ ∀ H' v, DeckC H' d l (n + 1) → Fr d l H H' → 0 ≤ v → v < m → Q (.int v) H'
theorem ok_take (T : Tx w K mg) : FnOk P w K mg base CX0 2 T.f_take T.fd_take ["_law_deck_here", "_law_most_here"] (sp_take K) := by
  refine T.F_take.ok sc_take (fun vs H Q E h => ?_) (fun cdv A outer s H vs Q E hr h => ?_)
  · obtain ⟨d, l, m, n, rfl, _⟩ := h
    rfl
  · obtain ⟨d, l, m, n, rfl, D, hn, hm0, hm1, q⟩ := h
    obtain ⟨ne, cs, y, z, hd, hl, hcs, hz0, hz1⟩ := D
    refine ⟨_, (pss_cons (ps_set (i := 2) sc_take.nd rfl (by first | exact .inl rfl | exact .inr rfl) (pe_ix ix_list (pv 0) pe_int (fun _ _ => rfl))) (pss_cons (ps_asg (pe_op op_add (pe_ix ix_list (pv 0) pe_int (fun _ _ => rfl)) pe_int) (pg_sub (pv 0) pe_int set_list)) (pss_cons (ps_if (pt_cmpR (op_eqD hr.units) (pv 2) (pe_lst pa_nil) (nomark _)) (pss_one (ps_ret (pe_op op_mod (pe_call (ok_mixed T) (hr.mono (by decide)) (by rfl) T.g_mixed T.F_mixed.kp T.b_mixed .nil pass0 (pa_cons (pe_ix ix_list (pv 0) pe_int (fun _ _ => rfl)) (pa_cons (pe_ix ix_list (pv 0) pe_int (fun _ _ => rfl)) pa_nil))) (pv 1)))) pss_nil) (pss_cons (ps_set (i := 3) sc_take.nd rfl (by first | exact .inl rfl | exact .inr rfl) (pe_bm0 PySem.F.plainAttrs_list PySem.F.slot_list_pop PySem.F.type_list_pop mt_pop (pv 2))) (pss_cons (ps_if (pt_cmpR op_lt (pv 3) (pe_op op_pow pe_int pe_int) (nomark _)) (pss_one (ps_ret (pe_op op_mod (pe_call (ok_mixed T) (hr.mono (by decide)) (by rfl) T.g_mixed T.F_mixed.kp T.b_mixed .nil pass0 (pa_cons (pv 3) (pa_cons (pe_ix ix_list (pv 0) pe_int (fun _ _ => rfl)) pa_nil))) (pv 1)))) pss_nil) (C8.pss_cut (ps_if (pt_cmpR op_gt (pe_op op_fdiv (pv 3) (pv 1)) pe_int (nomark _)) (pss_one (ps_expr (pe_bm PySem.F.plainAttrs_list PySem.F.slot_list_append PySem.F.type_list_append mt_append (pv 2) (pa_cons (pe_op op_fdiv (pv 3) (pv 1)) pa_nil)))) pss_nil) (pss_one (ps_ret (pe_op op_mod (pv 3) (pv 1)))))))))), ?_⟩
    refine ⟨.ref d, rfl, d, _, 0, .ref l, rfl, rfl, SqL.of hd, rfl, ?_⟩
    refine ⟨.ref d, rfl, d, _, 2, .int z, rfl, rfl, SqL.of hd, rfl, z, 1, rfl, rfl, .ref d, rfl, d, _, 2, 2, rfl, rfl, hd, rfl, ?_⟩
    have hd1 : (upd H d (.lst [.ref l, .int y, .int (z + 1)])) d = some (.lst [.ref l, .int y, .int (z + 1)]) := upd_same
    have hl1 : (upd H d (.lst [.ref l, .int y, .int (z + 1)])) l = some (.lst (cs.map V.int)) := by rw [upd_ne ne.symm]; exact hl
    have fr1 : Fr d l H (upd H d (.lst [.ref l, .int y, .int (z + 1)])) := Fr.d
    have hz2 : 0 ≤ z + 1 := by omega
    have hz3 : z + 1 ≤ n + 1 := by omega
    have hz4 : z + 1 < 2000000000 := by omega
    show tSeq _ _ _ _ (upd H d (.lst [.ref l, .int y, .int (z + 1)]))
    revert hd1 hl1 fr1 hz2 hz3 hz4
    generalize upd H d (.lst [.ref l, .int y, .int (z + 1)]) = H1
    generalize z + 1 = z'
    intro hd1 hl1 fr1 hz2 hz3 hz4
    refine ⟨.ref l, rfl, Nat.zero_le _, fun p np => ?_⟩
    have fr2 : Fr d l H (upd H1 p (.lst [])) := fr1.trans (Fr.new np)
    have hd2 : (upd H1 p (.lst [])) d = some (.lst [.ref l, .int y, .int z']) := same_upd np _ _ hd1
    have hl2 : (upd H1 p (.lst [])) l = some (.lst (cs.map V.int)) := same_upd np _ _ hl1
    refine ⟨.list (cs.map .int), .list [], .lst (SqL.of hl2) (dpInts cs), .lst (SqL.of upd_same) .nil, shInts cs, rfl, _, rfl, ?_⟩
    revert fr2 hd2 hl2
    generalize upd H1 p (.lst []) = H2
    intro fr2 hd2 hl2
    by_cases hc : cs = []
    · subst hc
      refine iteT ?_
      refine ⟨.ref d, rfl, d, _, 1, .int y, rfl, rfl, SqL.of hd2, rfl, .ref d, rfl, d, _, 2, .int z', rfl, rfl, SqL.of hd2, rfl, y, z', rfl, hz2, hz4, fun v v0 => ⟨.int m, rfl, _, _, rfl, rfl, hm0, ?_⟩⟩
      exact q _ _ ⟨ne, [], y, z', hd2, hl2, hcs, hz2, hz3⟩ fr2 (Int.emod_nonneg _ (by omega)) (Int.emod_lt_of_pos _ hm0)
    · obtain ⟨r, c, rfl⟩ : ∃ r c, cs = r ++ [c] := ⟨cs.dropLast, cs.getLast hc, (List.dropLast_concat_getLast hc).symm⟩
      have en : PyData.eqv (.list ((r ++ [c]).map PyData.int)) (.list []) = false := by
        cases r <;> rfl
      rw [en]
      refine iteF ?_
      have la : ((r ++ [c]).map V.int)[((r ++ [c]).map V.int).length - 1]? = some (.int c) := by simp
      refine ⟨.ref l, rfl, .inl ⟨rfl, _, SqL.of hl2⟩, l, _, .int c, rfl, rfl, hl2, la, ?_⟩
      have dl : ((r ++ [c]).map V.int).dropLast = r.map V.int := by rw [List.map_append]; exact List.dropLast_concat
      rw [dl]
      have hd3 : (upd H2 l (.lst (r.map V.int))) d = some (.lst [.ref l, .int y, .int z']) := by rw [upd_ne ne]; exact hd2
      have hl3 : (upd H2 l (.lst (r.map V.int))) l = some (.lst (r.map V.int)) := upd_same
      have fr3 : Fr d l H (upd H2 l (.lst (r.map V.int))) := fr2.trans Fr.l
      have hr63 : r.length + 1 ≤ 63 := by rw [List.length_append] at hcs; exact hcs
      revert hd3 hl3 fr3
      generalize upd H2 l (.lst (r.map V.int)) = H3
      intro hd3 hl3 fr3
      refine ⟨.int c, rfl, _, _, rfl, rfl, ⟨by decide, by decide, by decide⟩, _, _, rfl, rfl, _, rfl, ite2 (fun _ => ?_) (fun _ => ?_)⟩
      · refine ⟨.int c, rfl, .ref d, rfl, d, _, 2, .int z', rfl, rfl, SqL.of hd3, rfl, c, z', rfl, hz2, hz4, fun v v0 => ⟨.int m, rfl, _, _, rfl, rfl, hm0, ?_⟩⟩
        exact q _ _ ⟨ne, r, y, z', hd3, hl3, by omega, hz2, hz3⟩ fr3 (Int.emod_nonneg _ (by omega)) (Int.emod_lt_of_pos _ hm0)
      · refine ⟨fun σ H' => σ = [some (.ref d), some (.int m), some (.ref l), some (.int c)] ∧ ∃ cs : List Int, cs.length ≤ 63 ∧ H' d = some (.lst [.ref l, .int y, .int z']) ∧ H' l = some (.lst (cs.map V.int)) ∧ Fr d l H H', ?_, ?_⟩
        · refine ⟨.int c, rfl, .int m, rfl, _, _, rfl, rfl, ⟨hm0, hm1⟩, _, _, rfl, rfl, _, rfl, ite2 (fun _ => ?_) (fun _ => ?_)⟩
          · refine ⟨.ref l, rfl, .inl ⟨rfl, _, SqL.of hl3⟩, .int c, rfl, .int m, rfl, _, _, rfl, rfl, ⟨hm0, hm1⟩, l, _, _, rfl, rfl, hl3, ?_, ?_⟩
            · rw [List.length_map]
              exact Nat.lt_of_lt_of_le (show r.length < 64 by omega) (by decide)
            · refine ⟨rfl, r ++ [c / m], by rw [List.length_append]; exact hr63, by rw [upd_ne ne]; exact hd3, ?_, fr3.trans Fr.l⟩
              rw [upd_same, List.map_append]
              rfl
          · exact ⟨rfl, r, by omega, hd3, hl3, fr3⟩
        · rintro σ H4 ⟨rfl, cs4, l4, hd4, hl4, fr4⟩
          refine ⟨.int c, rfl, .int m, rfl, _, _, rfl, rfl, hm0, ?_⟩
          exact q _ _ ⟨ne, cs4, y, z', hd4, hl4, l4, hz2, hz3⟩ fr4 (Int.emod_nonneg _ (by omega)) (Int.emod_lt_of_pos _ hm0)

end
end Gk

set_option Elab.async false
set_option linter.all false
set_option maxRecDepth 100000
set_option maxHeartbeats 1000000
set_option pp.maxSteps 1500
set_option pp.deepTerms false
namespace Gk
open PySem PySem.Spec PyProof.Rows L2
/-! ### slices and sums of tuples: what is told stands in a heap that has grown -/
theorem cut_all {xs : List V} {lo hi : Option Int} (h : HT.sIx xs.length 0 lo = 0 ∧ HT.sIx xs.length xs.length hi = xs.length) : cutV xs lo hi = xs := by
  unfold cutV
  rw [h.1, h.2, List.drop_zero, Nat.sub_zero, List.take_length]
theorem same_refl {H : Hp} : Same H H := fun _ _ e => e
theorem slA {K : PySem.W.Frag} {a : Addr} {xs : List V} {lo hi : Option Int} {H : Hp} {Q : VK} (h : H a = some (.tup xs)) (q : ∀ p H', Same H H' → H' p = some (.tup (cutV xs lo hi)) → Q (.ref p) H') : rSlA K (.ref a) lo hi H Q :=
  ⟨a, xs, rfl, SqT.of h, fun w => q a H same_refl (by rw [cut_all w]; exact h), fun _ p np => q p _ (same_upd np) upd_same⟩
theorem slAn {K : PySem.W.Frag} {a : Addr} {xs : List V} {lo : Option Int} {H : Hp} {Q : VK} {σ : L2.St} (h : H a = some (.tup xs)) (q : ∀ p H', Same H H' → H' p = some (.tup (cutV xs lo none)) → Q (.ref p) H') : tNoPart σ H (fun u H3 => rSlA K (.ref a) lo u H3 Q) := slA h q
theorem catA {K : PySem.W.Frag} {a b : Addr} {xs ys : List V} {H : Hp} {Q : VK} (ha : H a = some (.tup xs)) (hb : H b = some (.tup ys)) (hl : xs.length + ys.length ≤ sizeLine) (q : ∀ p H', Same H H' → H' p = some (.tup (xs ++ ys)) → Q (.ref p) H') : rCatA K (.ref a) (.ref b) H Q :=
  ⟨a, b, xs, ys, rfl, rfl, SqT.of ha, SqT.of hb, hl, fun e => q b H same_refl (by rw [e]; exact hb), fun _ e => q a H same_refl (by rw [e, List.append_nil]; exact ha), fun _ _ p np => q p _ (same_upd np) upd_same⟩
theorem cut_to {xs : List V} {k : Nat} : cutV xs none (some (k : Int)) = xs.take k := by
  unfold cutV
  rw [HT.sIx_none, HT.sIx_nat, List.drop_zero, Nat.sub_zero]
  apply List.ext_getElem?
  intro i
  rw [List.getElem?_take, List.getElem?_take]
  by_cases h : i < k
  · rw [if_pos h]
    by_cases h2 : i < xs.length
    · rw [if_pos (by omega)]
    · rw [List.getElem?_eq_none (by omega)]
      split <;> rfl
  · rw [if_neg h, if_neg (by omega)]
theorem cut_from {xs : List V} {k : Nat} : cutV xs (some (k : Int)) none = xs.drop k := by
  unfold cutV
  rw [HT.sIx_none, HT.sIx_nat]
  by_cases h : k ≤ xs.length
  · rw [Nat.min_eq_left h]
    exact List.take_of_length_le (by rw [List.length_drop]; exact Nat.le_refl _)
  · rw [Nat.min_eq_right (by omega), Nat.sub_self, List.take_zero, List.drop_eq_nil_of_le (by omega)]
theorem TkAll.take {H : Hp} : ∀ {xs : List V} {ds : List PyData} (k : Nat), TkAll H xs ds → TkAll H (xs.take k) (ds.take k)
  | _, _, 0, _ => by rw [List.take_zero, List.take_zero]; exact .nil
  | _, _, _ + 1, .nil => .nil
  | _, _, k + 1, .cons a t => .cons a (t.take k)
theorem TkAll.drop {H : Hp} : ∀ {xs : List V} {ds : List PyData} (k : Nat), TkAll H xs ds → TkAll H (xs.drop k) (ds.drop k)
  | _, _, 0, t => t
  | _, _, _ + 1, .nil => .nil
  | _, _, k + 1, .cons _ t => t.drop k
theorem set_put {α : Type} {l : List α} {i : Nat} {x : α} (h : i < l.length) : (l.take i ++ [x]) ++ l.drop (i + 1) = l.set i x := by
  rw [List.set_eq_take_append_cons_drop, if_pos h, List.append_assoc]
  rfl
def rJoinK (K : PySem.W.Frag) : V → List V → Hp → VK → Prop := fun x xs H Q => ∃ a p, ∃ ys : List Str, x = .str a ∧ xs = [.ref p] ∧ (SqL K H p (ys.map V.str) ∨ SqT K H p (ys.map V.str)) ∧ (ys.map (·.length)).sum + ys.length * a.length ≤ 16777216 ∧ Q (.str (Txt.join a ys)) H

/-! ### sizes of what is shown -/
def fineB (n m : Nat) (d : PyData) : Bool := d.showable && (d.leavesShort 200 && (decide (d.weight ≤ n) && decide (d.depth ≤ m)))
theorem fine_iff {n m : Nat} {d : PyData} : fineB n m d = true ↔ d.showable = true ∧ d.leavesShort 200 = true ∧ d.weight ≤ n ∧ d.depth ≤ m := by
  unfold fineB
  rw [Bool.and_eq_true, Bool.and_eq_true, Bool.and_eq_true, decide_eq_true_eq, decide_eq_true_eq]
theorem fine_mono {n m n' m' : Nat} {d : PyData} (h : fineB n m d = true) (a : n ≤ n') (b : m ≤ m') : fineB n' m' d = true := by
  obtain ⟨h1, h2, h3, h4⟩ := fine_iff.mp h
  exact fine_iff.mpr ⟨h1, h2, Nat.le_trans h3 a, Nat.le_trans h4 b⟩
theorem fine_fits {n m : Nat} {d : PyData} (h : fineB n m d = true) (hn : n ≤ 50000) : d.shown.length ≤ sizeLine := by
  obtain ⟨_, h2, h3, _⟩ := fine_iff.mp h
  have := PyData.shown_le 200 (by decide) d h2
  have e : sizeLine = 16777216 := by decide
  rw [e]
  omega
theorem fine_all {n m : Nat} : ∀ {ds : List PyData}, (∀ d ∈ ds, fineB n m d = true) → PyData.showableAll ds = true ∧ PyData.leavesShortAll 200 ds = true ∧ PyData.weightAll ds ≤ ds.length * (n + 1) ∧ PyData.depthAll ds ≤ m
  | [], _ => ⟨rfl, rfl, Nat.zero_le _, Nat.zero_le _⟩
  | d :: r, h => by
    obtain ⟨a1, a2, a3, a4⟩ := fine_iff.mp (h d (List.mem_cons_self ..))
    obtain ⟨b1, b2, b3, b4⟩ := fine_all (ds := r) fun x hx => h x (List.mem_cons_of_mem _ hx)
    refine ⟨?_, ?_, ?_, ?_⟩
    · unfold PyData.showableAll
      rw [a1, b1]
      rfl
    · unfold PyData.leavesShortAll
      rw [a2, b2]
      rfl
    · unfold PyData.weightAll
      rw [List.length_cons, Nat.succ_mul]
      omega
    · unfold PyData.depthAll
      omega
theorem fine_tup {n m k : Nat} {ds : List PyData} (h : ∀ d ∈ ds, fineB n m d = true) (hk : ds.length ≤ k) : fineB (k * (n + 1)) (m + 1) (.tuple ds) = true := by
  obtain ⟨b1, b2, b3, b4⟩ := fine_all h
  refine fine_iff.mpr ⟨b1, b2, ?_, ?_⟩
  · show PyData.weightAll ds ≤ _
    exact Nat.le_trans b3 (Nat.mul_le_mul_right _ hk)
  · show PyData.depthAll ds + 1 ≤ _
    omega
theorem fine_lst {n m k : Nat} {ds : List PyData} (h : ∀ d ∈ ds, fineB n m d = true) (hk : ds.length ≤ k) : fineB (k * (n + 1)) (m + 1) (.list ds) = true := by
  obtain ⟨b1, b2, b3, b4⟩ := fine_all h
  refine fine_iff.mpr ⟨b1, b2, ?_, ?_⟩
  · show PyData.weightAll ds ≤ _
    exact Nat.le_trans b3 (Nat.mul_le_mul_right _ hk)
  · show PyData.depthAll ds + 1 ≤ _
    omega

mutual
theorem Sh.gr {H H' : Hp} (s : Gr H H') : ∀ {v : V} {d : PyData}, Sh H v d → Sh H' v d
  | _, _, .non => .non
  | _, _, .bl b => .bl b
  | _, _, .int i => .int i
  | _, _, .str x => .str x
  | _, _, .lst h n t => .lst (s.lst h) n (t.gr s)
  | _, _, .tup h t => .tup (s.tup h) (t.gr s)
  | _, _, .dic h t => .dic (s.1 _ _ (fun _ z => by cases z) h) (t.gr s)
theorem ShAll.gr {H H' : Hp} (s : Gr H H') : ∀ {vs : List V} {ds : List PyData}, ShAll H vs ds → ShAll H' vs ds
  | _, _, .nil => .nil
  | _, _, .cons h t => .cons (h.gr s) (t.gr s)
end
theorem ShAll.get {H : Hp} : ∀ {xs : List V} {ds : List PyData} {j : Nat} {x : V}, ShAll H xs ds → xs[j]? = some x → ∃ d, ds[j]? = some d ∧ Sh H x d
  | _, _, _, _, .nil, h => by simp at h
  | _, _, 0, _, .cons (d := d) a _, h => by
    cases (Option.some.inj h)
    exact ⟨d, rfl, a⟩
  | _, _, j + 1, _, .cons _ t, h => t.get h
theorem ShAll.append {H : Hp} : ∀ {xs ys : List V} {ds es : List PyData}, ShAll H xs ds → ShAll H ys es → ShAll H (xs ++ ys) (ds ++ es)
  | _, _, _, _, .nil, t => t
  | _, _, _, _, .cons a r, t => .cons a (r.append t)
theorem ShAll.take {H : Hp} : ∀ {xs : List V} {ds : List PyData} (n : Nat), ShAll H xs ds → ShAll H (xs.take n) (ds.take n)
  | _, _, 0, _ => by rw [List.take_zero, List.take_zero]; exact .nil
  | _, _, n + 1, .nil => .nil
  | _, _, n + 1, .cons a r => .cons a (r.take n)
theorem ShAll.drop {H : Hp} : ∀ {xs : List V} {ds : List PyData} (n : Nat), ShAll H xs ds → ShAll H (xs.drop n) (ds.drop n)
  | _, _, 0, h => h
  | _, _, n + 1, .nil => .nil
  | _, _, n + 1, .cons _ r => r.drop n
theorem notT {b : Bool} (h : (!b) = true) : ¬ b = true := by cases b <;> simp_all
theorem notF {b : Bool} (h : ¬ (!b) = true) : b = true := by cases b <;> simp_all

/-! ### anything against a text: ==, in a tuple of texts -/
def sB (z : Str) : PyData → Bool
  | .str x => decide (x = z)
  | _ => false
namespace EqS
open PySem PySem.Spec PyProof.Rows L2 PySem.SeqAt
theorem dict_declines_str (l : Addr) (es : Array DictEntry) (n : Nat) (dd : Option Addr) (sl : Array (Option Value)) (b : PySem.Str) (u : Tok) :
    Meets (Builtin.«dict.__eq__» ⟨[.ref l, .str b u], []⟩) (fun _ R s => s.heap.get? l = some { cls := .type "dict", dict := dd, data := .dict es n, slots := sl } ∧ R (.ok (.ret .notImplemented)) s) :=
  .of_wp fun prog w A R s h => by obtain ⟨hp, g, d, tk, os⟩ := s; obtain ⟨hl, h⟩ := h; have f1 := F.sub_str_dict; wp_walk using wpAny_loadPart' hl; exact ⟨_, rfl, h⟩
theorem str_declines_dict (b : PySem.Str) (u : Tok) (l : Addr) (es : Array DictEntry) (n : Nat) (dd : Option Addr) (sl : Array (Option Value)) :
    Meets (Builtin.«str.__eq__» ⟨[.str b u, .ref l], []⟩) (fun _ R s => s.heap.get? l = some { cls := .type "dict", dict := dd, data := .dict es n, slots := sl } ∧ R (.ok (.ret .notImplemented)) s) :=
  .of_wp fun prog w A R s h => by obtain ⟨hp, g, d, tk, os⟩ := s; obtain ⟨hl, h⟩ := h; wp_walk using wpAny_loadPart' hl, wpAny_load hl; exact ⟨_, rfl, h⟩
section
variable {A : Around} {s : Shared}
theorem rc_dict_str {l : Addr} {o : Obj} {es : Array DictEntry} {n : Nat} (b : PySem.Str) (u : Tok) (ho : s.heap.get? l = some o) (hc : o.cls = .type "dict") (hd : o.data = .dict es n) (hu : A.units < cLine) : RcAt A s (.ref l) (.str b u) false := fun prog w E Q h => by
  obtain ⟨cls, dd, data, sl⟩ := o
  simp only at hc hd
  subst hc hd
  exact rc_eq_decline_or (k := false) ⟨_, ho, rfl⟩ (typeIs_str s b u) (by decide) F.sub_str_dict F.slot_dict_eq F.slot_str_eq_refl
    (fun _ hq => call_meets F.slot_dict_eq ⟨_, ho, rfl⟩ F.entry_dict_eq (F.args_dict_eq_2 _ _) (dict_declines_str l es n dd sl b u) ⟨ho, hq⟩)
    (fun _ hq => call_meets F.slot_str_eq_refl (typeIs_str s b u) F.entry_str_eq (F.args_str_eq_2 _ _) (str_declines_dict b u l es n dd sl) ⟨ho, hq⟩)
    (fun _ hq => wpAny_of_eq (rfl : isSame (.ref l) (.str b u) = pure false) hq) (.inr hu) h
theorem rc_str_dict {l : Addr} {o : Obj} {es : Array DictEntry} {n : Nat} (b : PySem.Str) (u : Tok) (ho : s.heap.get? l = some o) (hc : o.cls = .type "dict") (hd : o.data = .dict es n) (hu : A.units < cLine) : RcAt A s (.str b u) (.ref l) false := fun prog w E Q h => by
  obtain ⟨cls, dd, data, sl⟩ := o
  simp only at hc hd
  subst hc hd
  exact rc_eq_decline_or (k := false) (typeIs_str s b u) ⟨_, ho, rfl⟩ (by decide) F.sub_dict_str F.slot_str_eq F.slot_dict_eq_refl
    (fun _ hq => call_meets F.slot_str_eq (typeIs_str s b u) F.entry_str_eq (F.args_str_eq_2 _ _) (str_declines_dict b u l es n dd sl) ⟨ho, hq⟩)
    (fun _ hq => call_meets F.slot_dict_eq_refl ⟨_, ho, rfl⟩ F.entry_dict_eq (F.args_dict_eq_2 _ _) (dict_declines_str l es n dd sl b u) ⟨ho, hq⟩)
    (fun _ hq => wpAny_of_eq (rfl : isSame (.str b u) (.ref l) = pure false) hq) (.inr hu) h
theorem beq_sB (x z : PySem.Str) : (x == z) = decide (x = z) := by
  by_cases h : x = z
  · rw [decide_eq_true h, h, beq_self_eq_true]
  · rw [decide_eq_false h]
    exact beq_eq_false_iff_ne.mpr h
theorem rc_any {v : Value} {d : PyData} {as : List Addr} (r : Reads s.heap v d as) (z : PySem.Str) (t : Tok) (hu : A.units < cLine) : RcAt A s v (.str z t) (sB z d) := by
  cases r with
  | none => exact RcAt.none_str z t
  | bool b => exact RcAt.bool_str b z t
  | int i k => exact RcAt.int_str i k z t
  | str x k =>
    have := RcAt.str_str (A := A) (s := s) x k z t
    rw [beq_sB] at this
    exact this
  | list h1 h2 h3 _ => exact RcAt.list_str z t ⟨_, h1, h2, _, h3⟩ hu
  | tuple h1 h2 h3 _ => exact RcAt.tuple_str z t ⟨_, h1, h2, _, h3⟩ hu
  | dict h1 h2 h3 _ _ => exact rc_dict_str z t h1 h2 h3 hu
theorem eq_any {v : Value} {d : PyData} {as : List Addr} (r : Reads s.heap v d as) (z : PySem.Str) (t : Tok) (hu : A.units < cLine) : EqAt A s (.str z t) v (sB z d) := by
  cases r with
  | none => exact EqAt.str_none z t
  | bool b => exact EqAt.str_bool z t b
  | int i k => exact EqAt.str_int z t i k
  | str x k =>
    have := EqAt.str_str (A := A) (s := s) z t x k
    have e : (z == x) = sB z (.str x) := by
      rw [beq_sB]
      show decide (z = x) = decide (x = z)
      exact decide_eq_decide.mpr ⟨Eq.symm, Eq.symm⟩
    rw [e] at this
    exact this
  | list h1 h2 h3 _ => exact EqAt.str_list z t ⟨_, h1, h2, _, h3⟩ hu
  | tuple h1 h2 h3 _ => exact EqAt.str_tuple z t ⟨_, h1, h2, _, h3⟩ hu
  | dict h1 h2 h3 _ _ =>
    intro prog w E Q h
    unfold eqBool
    refine wpAny_holding ?_
    refine wpAny_ite_split (fun hab => absurd (eq_of_beq hab) nofun) (fun _ => ?_)
    exact wpAny_bind (rc_str_dict z t h1 h2 h3 hu prog w E _ (wpAny_truthy_bool h))
end
theorem u0 {n c : Nat} (h : n + 64 < c) : n < c := by omega
theorem u1 {n c : Nat} (h : n + 64 < c) : n + 1 < c := by omega
section
variable {X : Cx}
def rEqS : R2 := fun x y H Q => ∃ d z, Sh H x d ∧ y = .str z ∧ Q (.bl (sB z d)) H
theorem op_eqS (hu : X.A.units < cLine) : OpR X (compareOp .Eq) rEqS := by
  intro pins s σ H x y v u Q I rx ry h
  obtain ⟨d, z, sh, rfl, q⟩ := h
  obtain ⟨as, r, _⟩ := Sh.reads I x d v sh rx
  obtain ⟨t, rfl⟩ := ry
  exact rc_any r z t hu X.prog X.w X.xe _ ⟨.bl _, H, I, rfl, q⟩
def rInS : R2 := fun x y H Q => ∃ (d : PyData) (a : Addr) (zs : List PySem.Str), Sh H x d ∧ y = .ref a ∧ H a = some (.tup (zs.map V.str)) ∧ Q (.bl (zs.any fun z => sB z d)) H
theorem any_vals : ∀ {zs : List PySem.Str} {us : List Value} (d : PyData), Vals (zs.map V.str) us → (us.any fun u => match u with | .str z _ => sB z d | _ => false) = zs.any fun z => sB z d
  | [], _, _, .nil => rfl
  | z :: r, _, d, .cons h t => by
    obtain ⟨k, rfl⟩ := h
    rw [List.any_cons, List.any_cons, any_vals d t]
theorem mem_vals : ∀ {zs : List PySem.Str} {us : List Value}, Vals (zs.map V.str) us → ∀ u ∈ us, ∃ z t, u = Value.str z t
  | [], _, .nil, _, h => by cases h
  | z :: r, _, .cons h t, u, hu => by
    obtain ⟨k, rfl⟩ := h
    rcases List.mem_cons.mp hu with e | e
    · exact ⟨_, _, e⟩
    · exact mem_vals t u e
theorem op_inS (hu : X.A.units + 1 < cLine) : OpR X (compareOp .In) rInS := by
  intro pins s σ H x y v u Q I rx ry h
  obtain ⟨d, a, zs, sh, rfl, ha, q⟩ := h
  obtain ⟨as, r, _⟩ := Sh.reads I x d v sh rx
  cases ry
  obtain ⟨its, rv, ⟨⟨cls, dd, data, sl⟩, ho, hc, n, hd⟩, hs⟩ := I.tuple (SqT.of (K := X.K) ha)
  refine in_tupleAt (fun u => match u with | .str z _ => sB z d | _ => false) ⟨_, ho, hc, n, hd⟩ (fun u hu' => ?_) ⟨.bl _, H, I, rfl, ?_⟩
  · obtain ⟨z, t, rfl⟩ := mem_vals rv u (by simpa using hu')
    exact eq_any r z t (by show X.A.units + 1 < cLine; exact hu)
  · have e : (its.toArray.any fun u => match u with | .str z _ => sB z d | _ => false) = zs.any fun z => sB z d := by
      rw [← any_vals d rv]
      simp
    rw [e]
    exact q
end
end EqS

section
variable {P : Program} {w : World} {K : PySem.W.Frag} {mg : Str → Option Value} {base : Heap}
/-! ### kinds of data -/
def isIntD : PyData → Bool
  | .int _ => true
  | .bool _ => true
  | _ => false
def isBoolD : PyData → Bool
  | .bool _ => true
  | _ => false
def isTupD : PyData → Bool
  | .tuple _ => true
  | _ => false
def isStrD : PyData → Bool
  | .str _ => true
  | _ => false
theorem kitInt : ∀ d : PyData, kitB (tyD d) "int" = some (isIntD d)
  | .none => (by decide +kernel : kitB "NoneType" "int" = some false)
  | .bool _ => (by decide +kernel : kitB "bool" "int" = some true)
  | .int _ => (by decide +kernel : kitB "int" "int" = some true)
  | .str _ => (by decide +kernel : kitB "str" "int" = some false)
  | .list _ => (by decide +kernel : kitB "list" "int" = some false)
  | .tuple _ => (by decide +kernel : kitB "tuple" "int" = some false)
  | .dict _ => (by decide +kernel : kitB "dict" "int" = some false)
theorem kitBool : ∀ d : PyData, kitB (tyD d) "bool" = some (isBoolD d)
  | .none => (by decide +kernel : kitB "NoneType" "bool" = some false)
  | .bool _ => (by decide +kernel : kitB "bool" "bool" = some true)
  | .int _ => (by decide +kernel : kitB "int" "bool" = some false)
  | .str _ => (by decide +kernel : kitB "str" "bool" = some false)
  | .list _ => (by decide +kernel : kitB "list" "bool" = some false)
  | .tuple _ => (by decide +kernel : kitB "tuple" "bool" = some false)
  | .dict _ => (by decide +kernel : kitB "dict" "bool" = some false)
theorem kitTup : ∀ d : PyData, kitB (tyD d) "tuple" = some (isTupD d)
  | .none => (by decide +kernel : kitB "NoneType" "tuple" = some false)
  | .bool _ => (by decide +kernel : kitB "bool" "tuple" = some false)
  | .int _ => (by decide +kernel : kitB "int" "tuple" = some false)
  | .str _ => (by decide +kernel : kitB "str" "tuple" = some false)
  | .list _ => (by decide +kernel : kitB "list" "tuple" = some false)
  | .tuple _ => (by decide +kernel : kitB "tuple" "tuple" = some true)
  | .dict _ => (by decide +kernel : kitB "dict" "tuple" = some false)
theorem kitStr : ∀ d : PyData, kitB (tyD d) "str" = some (isStrD d)
  | .none => (by decide +kernel : kitB "NoneType" "str" = some false)
  | .bool _ => (by decide +kernel : kitB "bool" "str" = some false)
  | .int _ => (by decide +kernel : kitB "int" "str" = some false)
  | .str _ => (by decide +kernel : kitB "str" "str" = some true)
  | .list _ => (by decide +kernel : kitB "list" "str" = some false)
  | .tuple _ => (by decide +kernel : kitB "tuple" "str" = some false)
  | .dict _ => (by decide +kernel : kitB "dict" "str" = some false)
def wholeD : PyData → Bool
  | .int _ => true
  | _ => false
def worthD : PyData → Bool
  | .int i => decide (0 ≤ i) && decide (i ≤ 1)
  | _ => false
theorem whole_of : ∀ {d : PyData}, isIntD d = true → wholeD d = !isBoolD d
  | .int _, _ => rfl
  | .bool _, _ => rfl
  | .none, h => by cases h
  | .str _, h => by cases h
  | .list _, h => by cases h
  | .tuple _, h => by cases h
  | .dict _, h => by cases h
theorem whole_not : ∀ {d : PyData}, ¬ isIntD d = true → wholeD d = false
  | .int _, h => absurd rfl h
  | .bool _, h => absurd rfl h
  | .none, _ => rfl
  | .str _, _ => rfl
  | .list _, _ => rfl
  | .tuple _, _ => rfl
  | .dict _, _ => rfl
theorem whole_int : ∀ {d : PyData}, wholeD d = true → ∃ i, d = .int i
  | .int i, _ => ⟨i, rfl⟩
  | .bool _, h => by cases h
  | .none, h => by cases h
  | .str _, h => by cases h
  | .list _, h => by cases h
  | .tuple _, h => by cases h
  | .dict _, h => by cases h
theorem worth_not : ∀ {d : PyData}, ¬ wholeD d = true → worthD d = false
  | .int _, h => absurd rfl h
  | .bool _, _ => rfl
  | .none, _ => rfl
  | .str _, _ => rfl
  | .list _, _ => rfl
  | .tuple _, _ => rfl
  | .dict _, _ => rfl
theorem tup_of : ∀ {d : PyData}, isTupD d = true → ∃ ds, d = .tuple ds
  | .tuple ds, _ => ⟨ds, rfl⟩
  | .bool _, h => by cases h
  | .none, h => by cases h
  | .str _, h => by cases h
  | .list _, h => by cases h
  | .int _, h => by cases h
  | .dict _, h => by cases h

end
end Gk

set_option Elab.async false
set_option linter.all false
set_option maxRecDepth 100000
set_option maxHeartbeats 1000000
set_option pp.maxSteps 1500
set_option pp.deepTerms false
namespace Gk
open PySem PySem.Spec PyProof.Rows L2
theorem str_len (x : String) : (Str.ofString x).length = x.length := PySem.ofString_length x

theorem int_weight {i : Int} {k : Nat} (h : i.natAbs < 2 ^ k) : (PyData.int i).weight ≤ k := by
  show (if i == 0 then 0 else i.natAbs.log2 + 1) ≤ k
  by_cases z : i = 0
  · rw [if_pos (by rw [z]; rfl)]
    exact Nat.zero_le _
  · rw [if_neg (by simpa using z)]
    exact (Nat.log2_lt (by omega)).mpr h

/-! ### what is spoilt stays small -/
mutual
def gd (B : Nat) : PyData → Bool
  | .none => true
  | .bool _ => true
  | .int i => decide (i.natAbs ≤ B)
  | .str x => x.cps.toList.all fun c => decide (c < 128)
  | .list xs => gds B xs
  | .tuple xs => gds B xs
  | .dict kvs => kvs.isEmpty
def gds (B : Nat) : List PyData → Bool
  | [] => true
  | x :: r => gd B x && gds B r
end
theorem gds_iff {B : Nat} : ∀ {l : List PyData}, gds B l = true ↔ ∀ x ∈ l, gd B x = true
  | [] => ⟨fun _ x hx => (by cases hx), fun _ => rfl⟩
  | y :: r => by
    show (gd B y && gds B r) = true ↔ _
    rw [Bool.and_eq_true, gds_iff (l := r)]
    exact ⟨fun ⟨a, b⟩ x hx => (List.mem_cons.mp hx).elim (fun e => e ▸ a) (b x), fun h => ⟨h y (List.mem_cons_self ..), fun x hx => h x (List.mem_cons_of_mem _ hx)⟩⟩
mutual
theorem gd_mono {B C : Nat} (h : B ≤ C) : ∀ {d : PyData}, gd B d = true → gd C d = true
  | .none, _ => rfl
  | .bool _, _ => rfl
  | .int _, e => decide_eq_true (Nat.le_trans (of_decide_eq_true e) h)
  | .str _, e => e
  | .list _, e => gds_mono h e
  | .tuple _, e => gds_mono h e
  | .dict _, e => e
theorem gds_mono {B C : Nat} (h : B ≤ C) : ∀ {l : List PyData}, gds B l = true → gds C l = true
  | [], _ => rfl
  | _ :: _, e => by
    have e' := Bool.and_eq_true_iff.mp e
    exact Bool.and_eq_true_iff.mpr ⟨gd_mono h e'.1, gds_mono h e'.2⟩
end
theorem small_log {i : Int} {B : Nat} (h : i.natAbs ≤ B) (hB : B < 2 ^ 190) : i.natAbs.log2 < 190 := by
  by_cases z : i.natAbs = 0
  · rw [z]; decide
  · exact (Nat.log2_lt z).mpr (Nat.lt_of_le_of_lt h hB)
mutual
theorem gd_show {B : Nat} (hB : B < 2 ^ 190) : ∀ {d : PyData}, gd B d = true → d.showable = true ∧ d.leavesShort 200 = true
  | .none, _ => ⟨rfl, rfl⟩
  | .bool _, _ => ⟨rfl, rfl⟩
  | .int i, e => by
    have l := small_log (of_decide_eq_true e) hB
    refine ⟨decide_eq_true (Nat.lt_trans l (by decide)), decide_eq_true ?_⟩
    have := PySem.int_text_length_le (a := i) (k := 190) (by decide) l
    show (Str.ofString (toString i)).length ≤ 200
    rw [str_len]
    omega
  | .str x, e => by
    refine ⟨rfl, ?_⟩
    show (x.cps.toList.all fun c => decide (c < 16 ^ 8)) = true
    refine List.all_eq_true.mpr fun c hc => decide_eq_true (Nat.lt_trans (of_decide_eq_true (List.all_eq_true.mp e c hc)) (by decide))
  | .list _, e => gds_show hB e
  | .tuple _, e => gds_show hB e
  | .dict [], _ => ⟨rfl, rfl⟩
  | .dict (_ :: _), e => by cases e
theorem gds_show {B : Nat} (hB : B < 2 ^ 190) : ∀ {l : List PyData}, gds B l = true → PyData.showableAll l = true ∧ PyData.leavesShortAll 200 l = true
  | [], _ => ⟨rfl, rfl⟩
  | _ :: _, e => by
    have e' := Bool.and_eq_true_iff.mp e
    have a := gd_show hB e'.1
    have b := gds_show hB e'.2
    exact ⟨Bool.and_eq_true_iff.mpr ⟨a.1, b.1⟩, Bool.and_eq_true_iff.mpr ⟨a.2, b.2⟩⟩
end
def Fit (B n m : Nat) (d : PyData) : Prop := gd B d = true ∧ d.weight ≤ n ∧ d.depth ≤ m
def FitL (B n m : Nat) (ds : List PyData) : Prop := gds B ds = true ∧ PyData.weightAll ds ≤ n ∧ PyData.depthAll ds ≤ m
theorem Fit.mono {B n m B' n' m' : Nat} {d : PyData} (h : Fit B n m d) (a : B ≤ B') (b : n ≤ n') (c : m ≤ m') : Fit B' n' m' d := ⟨gd_mono a h.1, Nat.le_trans h.2.1 b, Nat.le_trans h.2.2 c⟩
theorem Fit.tup {B n m : Nat} {ds : List PyData} (h : FitL B n m ds) : Fit B n (m + 1) (.tuple ds) := ⟨h.1, h.2.1, Nat.succ_le_succ h.2.2⟩
theorem Fit.lst {B n m : Nat} {ds : List PyData} (h : FitL B n m ds) : Fit B n (m + 1) (.list ds) := ⟨h.1, h.2.1, Nat.succ_le_succ h.2.2⟩
theorem Fit.inv {B n m : Nat} {ds : List PyData} (h : Fit B n (m + 1) (.tuple ds)) : FitL B n m ds := ⟨h.1, h.2.1, Nat.le_of_succ_le_succ h.2.2⟩
theorem Fit.fine {B n m : Nat} {d : PyData} (h : Fit B n m d) (hB : B < 2 ^ 190) (hn : n ≤ 50000) (hm : m ≤ 50) : d.showable = true ∧ d.shown.length ≤ sizeLine ∧ d.depth ≤ 50 := by
  have s := gd_show hB h.1
  exact ⟨s.1, fine_fits (n := n) (m := m) (fine_iff.mpr ⟨s.1, s.2, h.2.1, h.2.2⟩) hn, Nat.le_trans h.2.2 hm⟩
theorem weight_app : ∀ a b : List PyData, PyData.weightAll (a ++ b) = PyData.weightAll a + PyData.weightAll b
  | [], b => (Nat.zero_add _).symm
  | x :: r, b => by
    show x.weight + 1 + PyData.weightAll (r ++ b) = x.weight + 1 + PyData.weightAll r + PyData.weightAll b
    rw [weight_app r b]
    omega
theorem depth_app : ∀ a b : List PyData, PyData.depthAll (a ++ b) = max (PyData.depthAll a) (PyData.depthAll b)
  | [], b => (Nat.zero_max _).symm
  | x :: r, b => by
    show max x.depth (PyData.depthAll (r ++ b)) = max (max x.depth (PyData.depthAll r)) (PyData.depthAll b)
    rw [depth_app r b, Nat.max_assoc]
theorem FitL.app {B n n' m : Nat} {a b : List PyData} (h : FitL B n m a) (g : FitL B n' m b) : FitL B (n + n') m (a ++ b) := by
  refine ⟨gds_iff.mpr fun x hx => ?_, ?_, ?_⟩
  · rcases List.mem_append.mp hx with z | z
    · exact gds_iff.mp h.1 x z
    · exact gds_iff.mp g.1 x z
  · rw [weight_app]
    exact Nat.add_le_add h.2.1 g.2.1
  · rw [depth_app]
    exact Nat.max_le.mpr ⟨h.2.2, g.2.2⟩
theorem FitL.parts {B n m : Nat} {a b : List PyData} (h : FitL B n m (a ++ b)) : FitL B n m a ∧ FitL B n m b := by
  obtain ⟨h1, h2, h3⟩ := h
  rw [weight_app] at h2
  rw [depth_app] at h3
  exact ⟨⟨gds_iff.mpr fun x hx => gds_iff.mp h1 x (List.mem_append_left _ hx), by omega, by omega⟩, ⟨gds_iff.mpr fun x hx => gds_iff.mp h1 x (List.mem_append_right _ hx), by omega, by omega⟩⟩
theorem FitL.take {B n m : Nat} {a : List PyData} (h : FitL B n m a) (k : Nat) : FitL B n m (a.take k) := by
  rw [← List.take_append_drop k a] at h
  exact h.parts.1
theorem FitL.drop {B n m : Nat} {a : List PyData} (h : FitL B n m a) (k : Nat) : FitL B n m (a.drop k) := by
  rw [← List.take_append_drop k a] at h
  exact h.parts.2
theorem FitL.one {B n m : Nat} {d : PyData} (h : Fit B n m d) : FitL B (n + 1) m [d] := by
  refine ⟨gds_iff.mpr fun x hx => by rw [List.mem_singleton.mp hx]; exact h.1, ?_, ?_⟩
  · show d.weight + 1 + 0 ≤ n + 1
    have := h.2.1
    omega
  · show max d.depth 0 ≤ m
    have := h.2.2
    omega
theorem FitL.get {B n m : Nat} {ds : List PyData} (h : FitL B n m ds) {j : Nat} {d : PyData} (e : ds[j]? = some d) : Fit B n m d := by
  have s : ds = ds.take j ++ [d] ++ ds.drop (j + 1) := by
    obtain ⟨hl, e'⟩ := List.getElem?_eq_some_iff.mp e
    rw [← e', List.append_assoc, List.singleton_append, List.getElem_cons_drop, List.take_append_drop]
  rw [s] at h
  obtain ⟨h1, h2, h3⟩ := h.parts.1.parts.2
  refine ⟨gds_iff.mp h1 d (List.mem_singleton.mpr rfl), ?_, ?_⟩
  · have : d.weight + 1 + 0 ≤ n := h2
    omega
  · have : max d.depth 0 ≤ m := h3
    omega
theorem weight_rev (a : List PyData) : PyData.weightAll a.reverse = PyData.weightAll a := by
  induction a with
  | nil => rfl
  | cons x r ih =>
    rw [List.reverse_cons, weight_app, ih]
    show PyData.weightAll r + (x.weight + 1 + 0) = x.weight + 1 + PyData.weightAll r
    omega
theorem depth_rev (a : List PyData) : PyData.depthAll a.reverse = PyData.depthAll a := by
  induction a with
  | nil => rfl
  | cons x r ih =>
    rw [List.reverse_cons, depth_app, ih]
    show max (PyData.depthAll r) (max x.depth 0) = max x.depth (PyData.depthAll r)
    omega
theorem FitL.rev {B n m : Nat} {a : List PyData} (h : FitL B n m a) : FitL B n m a.reverse :=
  ⟨gds_iff.mpr fun x hx => gds_iff.mp h.1 x (List.mem_reverse.mp hx), by rw [weight_rev]; exact h.2.1, by rw [depth_rev]; exact h.2.2⟩
theorem ShAll.rev {H : Hp} : ∀ {xs : List V} {ds : List PyData}, ShAll H xs ds → ShAll H xs.reverse ds.reverse
  | _, _, .nil => .nil
  | _, _, .cons a r => by
    rw [List.reverse_cons, List.reverse_cons]
    exact (ShAll.rev r).append (.cons a .nil)

section
variable {P : Program} {w : World} {K : PySem.W.Frag} {mg : Str → Option Value} {base : Heap}
/-! ### forms, as data: what is one -/
def wIn : Str := Str.ofString "in"
def wNot : Str := Str.ofString "not"
def wAnd : Str := Str.ofString "and"
def wOr : Str := Str.ofString "or"
def wOne : Str := Str.ofString "one"
def wNou : Str := Str.ofString "nought"
def wireD (w : Int) : PyData → Bool
  | .int i => decide (0 ≤ i) && decide (i < w)
  | _ => false
def stillD (d : PyData) : Bool := sB wOne d || sB wNou d
def restD : PyData → Bool
  | .tuple ps => decide (2 ≤ ps.length) && decide (ps.length ≤ 4)
  | _ => false
def outP (m : Int) (h r : PyData) : Bool := if sB wIn h = true then wireD m r else if (sB wAnd h || sB wOr h) = true then restD r else sB wNot h
def outD (m : Int) : PyData → Bool
  | .tuple ds => (match ds with
    | [x] => stillD x
    | [h, r] => outP m h r
    | _ => false)
  | _ => false
def partsD : PyData → List PyData
  | .tuple ps => ps
  | _ => []
def inP (h r : PyData) : List PyData := if sB wNot h = true then [r] else if (sB wAnd h || sB wOr h) = true then partsD r else []
def inD : PyData → List PyData
  | .tuple ds => (match ds with
    | [h, r] => inP h r
    | _ => [])
  | _ => []
theorem parts_weight (r : PyData) : PyData.weightAll (partsD r) ≤ r.weight := by
  cases r <;> first | exact Nat.le_refl _ | exact Nat.zero_le _
theorem inD_weight (d : PyData) : PyData.weightAll (inD d) ≤ d.weight := by
  match d with
  | .tuple [h, r] =>
    show PyData.weightAll (inP h r) ≤ h.weight + 1 + (r.weight + 1 + 0)
    unfold inP
    split
    · show r.weight + 1 + 0 ≤ _
      omega
    · split
      · have := parts_weight r
        omega
      · exact Nat.zero_le _
  | .tuple [] => exact Nat.zero_le _
  | .tuple [_] => exact Nat.zero_le _
  | .tuple (_ :: _ :: _ :: _) => exact Nat.zero_le _
  | .none => exact Nat.zero_le _
  | .bool _ => exact Nat.zero_le _
  | .int _ => exact Nat.zero_le _
  | .str _ => exact Nat.zero_le _
  | .list _ => exact Nat.zero_le _
  | .dict _ => exact Nat.zero_le _
theorem mem_weight : ∀ {l : List PyData} {x : PyData}, x ∈ l → x.weight + 1 ≤ PyData.weightAll l
  | y :: r, x, h => by
    show _ ≤ y.weight + 1 + PyData.weightAll r
    rcases List.mem_cons.mp h with e | e
    · rw [e]; omega
    · have := mem_weight e
      omega
def isF (m : Int) (d : PyData) : Bool := outD m d && ((inD d).attach.all fun x => isF m x.1)
termination_by d.weight
decreasing_by
  have h1 := mem_weight x.2
  have h2 := inD_weight d
  omega
theorem isF_eq (m : Int) (d : PyData) : isF m d = (outD m d && (inD d).all (isF m)) := by
  rw [isF]
  congr 1
  rw [← List.attach_map_subtype_val (inD d), List.all_map]
  simp
theorem isF_out {m : Int} {d : PyData} (h : outD m d = false) : isF m d = false := by rw [isF_eq, h]; rfl
theorem isF_in {m : Int} {d : PyData} (h : outD m d = true) : isF m d = (inD d).all (isF m) := by rw [isF_eq, h]; rfl

end
end Gk

set_option Elab.async false
set_option linter.all false
set_option maxRecDepth 100000
set_option maxHeartbeats 1000000
set_option pp.maxSteps 1500
set_option pp.deepTerms false
namespace Gk
open PySem PySem.Spec PyProof.Rows L2
/-! ### d.get(key), d a module's dict -/
namespace KdG
open PySem PySem.W PySem.Calls PyProof.Rows L2
section
variable {X : Cx} {d : Addr} {es : Array DictEntry} {n : Nat} {o e : Expr} {apos cpos : Pos} {td ty : TE}
def tKGet (K : PySem.W.Frag) (d : Addr) (td ty : TE) : TE := fun σ H Q => td σ H fun x H1 => x = .ref d ∧ ty σ H1 fun y H2 => ∃ (z : Str) (r : Option Value) (v : V), y = .str z ∧ PySem.W.nsIn K d z = some r ∧ RelV v (r.getD .none) ∧ Q v H2
theorem pe_kget (D : KDict X.K X.w d es n) (ho : PE X o td) (he : PE X e ty) (m : M1 X o "get" apos e cpos) : PE X (.Call (.Attribute o "get" apos) [e] [] cpos) (tKGet X.K d td ty) := by
  refine ⟨fun pins s σ H Q I h => ?_⟩
  refine wpAny_Call_method m.base m.few m.line PySem.F.plainAttrs_dict PySem.F.slot_dict_get PySem.F.type_dict_get (thn (ho.run pins s σ H _ I h) fun u s1 ⟨x, H1, I1, rx, ex, q1⟩ => ?_)
  subst ex
  obtain rfl : u = Value.ref d := rx
  refine ⟨kd_type D I1, fun b q => ?_, ?_⟩
  · cases q
    exact ⟨_, I1.kIn _ _ D.at_, rfl⟩
  rw [m.trees]
  refine Calls.callWith_builtin rfl (Calls.evalArgs_plain (Calls.spliced_cons (thn (he.run pins s1 σ H1 _ I1 q1) fun iv s2 ⟨y, H2, I2, ry, z, r, v, ey, e1, rv, q2⟩ => Calls.spliced_nil ?_)))
  subst ey
  obtain ⟨t, rfl⟩ := ry
  refine call_meetsIn PySem.F.slot_dict_get (kd_type D I2) PySem.F.entry_dict_get (PySem.F.args_dict_get_2 _ _) (meets_dict_get (strKind X.prog X.w) d (PySem.strKind_is X.prog X.w z t) D.low) ⟨_, PySem.W.mapOf_K (prog := X.prog) I2.kIn D.at_ D.lit, v, H2, I2.tok _, ?_, q2⟩
  show RelV v ((findBy Value.isStrOf es z).getD .none)
  rw [PySem.W.find_K D.at_ e1]
  exact rv
end
end KdG

section
variable {P : Program} {w : World} {K : PySem.W.Frag} {mg : Str → Option Value} {base : Heap}
/-! ### forms -/
inductive Fm where
  | st (b : Bool)
  | inp (i : Nat)
  | no (f : Fm)
  | op (c : Bool) (fs : List Fm)
def wSt (b : Bool) : Str := if b = true then wOne else wNou
def wOp (c : Bool) : Str := if c = true then wAnd else wOr
mutual
def Fm.d : Fm → PyData
  | .st b => .tuple [.str (wSt b)]
  | .inp i => .tuple [.str wIn, .int i]
  | .no f => .tuple [.str wNot, f.d]
  | .op c fs => .tuple [.str (wOp c), .tuple (Fm.dl fs)]
def Fm.dl : List Fm → List PyData
  | [] => []
  | f :: r => f.d :: Fm.dl r
end
theorem Fm.dl_map : ∀ fs : List Fm, Fm.dl fs = fs.map Fm.d
  | [] => rfl
  | f :: r => by
    show f.d :: Fm.dl r = _
    rw [Fm.dl_map r]
    rfl
mutual
def Fm.ok (m : Nat) : Fm → Bool
  | .st _ => true
  | .inp i => decide (i < m)
  | .no f => f.ok m
  | .op _ fs => (decide (2 ≤ fs.length) && decide (fs.length ≤ 4)) && Fm.oks m fs
def Fm.oks (m : Nat) : List Fm → Bool
  | [] => true
  | f :: r => f.ok m && Fm.oks m r
end
mutual
def Fm.cnt : Fm → Nat
  | .st _ => 1
  | .inp _ => 1
  | .no f => 1 + f.cnt
  | .op _ fs => 1 + Fm.cnts fs
def Fm.cnts : List Fm → Nat
  | [] => 0
  | f :: r => f.cnt + Fm.cnts r
end
mutual
def Fm.lv : Fm → Nat
  | .st _ => 1
  | .inp _ => 1
  | .no f => f.lv
  | .op _ fs => Fm.lvs fs
def Fm.lvs : List Fm → Nat
  | [] => 0
  | f :: r => f.lv + Fm.lvs r
end
mutual
def Fm.dep : Fm → Nat
  | .st _ => 1
  | .inp _ => 1
  | .no f => f.dep + 1
  | .op _ fs => Fm.deps fs + 1
def Fm.deps : List Fm → Nat
  | [] => 0
  | f :: r => max f.dep (Fm.deps r)
end
def Fm.inner : Fm → List Fm
  | .no f => [f]
  | .op _ fs => fs
  | _ => []
theorem Fm.oks_mem {m : Nat} : ∀ {fs : List Fm}, Fm.oks m fs = true ↔ ∀ f ∈ fs, f.ok m = true
  | [] => ⟨(fun _ f h => by cases h), fun _ => rfl⟩
  | f :: r => by
    show (f.ok m && Fm.oks m r) = true ↔ _
    rw [Bool.and_eq_true, Fm.oks_mem (fs := r)]
    exact ⟨fun ⟨a, b⟩ x hx => (List.mem_cons.mp hx).elim (fun e => e ▸ a) (b x), fun h => ⟨h f List.mem_cons_self, fun x hx => h x (List.mem_cons_of_mem _ hx)⟩⟩
theorem Fm.deps_mem : ∀ {fs : List Fm} {f : Fm}, f ∈ fs → f.dep ≤ Fm.deps fs
  | g :: r, f, h => by
    show f.dep ≤ max g.dep (Fm.deps r)
    rcases List.mem_cons.mp h with e | e
    · rw [e]; exact Nat.le_max_left _ _
    · exact Nat.le_trans (Fm.deps_mem e) (Nat.le_max_right _ _)
theorem Fm.deps_le : ∀ {fs : List Fm} {k : Nat}, (∀ f ∈ fs, f.dep ≤ k) → Fm.deps fs ≤ k
  | [], _, _ => Nat.zero_le _
  | g :: r, k, h => Nat.max_le.mpr ⟨h g List.mem_cons_self, Fm.deps_le fun f hf => h f (List.mem_cons_of_mem _ hf)⟩
theorem Fm.inner_dep {f g : Fm} (h : g ∈ f.inner) : g.dep + 1 ≤ f.dep := by
  cases f with
  | st _ => cases h
  | inp _ => cases h
  | no f => rw [List.mem_singleton.mp h]; exact Nat.le_refl _
  | op c fs => exact Nat.succ_le_succ (Fm.deps_mem h)
theorem Fm.cnts_app : ∀ a b : List Fm, Fm.cnts (a ++ b) = Fm.cnts a + Fm.cnts b
  | [], b => (Nat.zero_add _).symm
  | f :: r, b => by
    show f.cnt + Fm.cnts (r ++ b) = f.cnt + Fm.cnts r + Fm.cnts b
    rw [Fm.cnts_app r b]
    omega
theorem Fm.lvs_app : ∀ a b : List Fm, Fm.lvs (a ++ b) = Fm.lvs a + Fm.lvs b
  | [], b => (Nat.zero_add _).symm
  | f :: r, b => by
    show f.lv + Fm.lvs (r ++ b) = f.lv + Fm.lvs r + Fm.lvs b
    rw [Fm.lvs_app r b]
    omega
theorem Fm.cnt_eq (f : Fm) : f.cnt = 1 + Fm.cnts f.inner := by
  cases f with
  | st _ => rfl
  | inp _ => rfl
  | no f => show 1 + f.cnt = 1 + (f.cnt + 0); omega
  | op c fs => rfl
mutual
theorem Fm.cnt_pos : ∀ f : Fm, 1 ≤ f.cnt
  | .st _ => Nat.le_refl _
  | .inp _ => Nat.le_refl _
  | .no f => by show 1 ≤ 1 + f.cnt; omega
  | .op _ fs => by show 1 ≤ 1 + Fm.cnts fs; omega
end
theorem w_head (z : Str) : ∀ x : Str, (sB z (.str x) = true) = (x = z) := fun x => by
  show (decide (x = z) = true) = _
  simp
theorem heads (c : Bool) : sB wIn (.str (wOp c)) = false ∧ sB wNot (.str (wOp c)) = false ∧ (sB wAnd (.str (wOp c)) || sB wOr (.str (wOp c))) = true := by
  cases c <;> decide +kernel
theorem headsN : sB wIn (.str wNot) = false ∧ sB wNot (.str wNot) = true ∧ (sB wAnd (.str wNot) || sB wOr (.str wNot)) = false := by decide +kernel
theorem headsI : sB wIn (.str wIn) = true ∧ sB wNot (.str wIn) = false ∧ (sB wAnd (.str wIn) || sB wOr (.str wIn)) = false := by decide +kernel
theorem headsS (b : Bool) : sB wIn (.str (wSt b)) = false ∧ sB wNot (.str (wSt b)) = false ∧ (sB wAnd (.str (wSt b)) || sB wOr (.str (wSt b))) = false := by cases b <;> decide +kernel
mutual
theorem Fm.isF {m : Nat} : ∀ {f : Fm}, f.ok m = true → isF m f.d = true
  | .st b, _ => by
    rw [isF_eq]
    show (stillD (.str (wSt b)) && true) = true
    cases b <;> decide +kernel
  | .inp i, h => by
    have h : i < m := of_decide_eq_true h
    rw [isF_eq]
    show (outP m (.str wIn) (.int i) && (inP (.str wIn) (.int i)).all (Gk.isF m)) = true
    unfold outP inP
    rw [if_pos headsI.1, headsI.2.1, if_neg (by decide), headsI.2.2, if_neg (by decide)]
    show ((decide (0 ≤ (i : Int)) && decide ((i : Int) < (m : Int))) && true) = true
    rw [decide_eq_true (by omega), decide_eq_true (by omega)]
    rfl
  | .no f, h => by
    have h : f.ok m = true := h
    rw [isF_eq]
    show (outP m (.str wNot) f.d && (inP (.str wNot) f.d).all (Gk.isF m)) = true
    unfold outP inP
    rw [if_pos headsN.2.1, headsN.1, if_neg (by decide), headsN.2.2, if_neg (by decide), headsN.2.1]
    show (true && (Gk.isF m f.d && true)) = true
    rw [Fm.isF h]
    rfl
  | .op c fs, h => by
    have h : ((decide (2 ≤ fs.length) && decide (fs.length ≤ 4)) && Fm.oks m fs) = true := h
    rw [Bool.and_eq_true] at h
    rw [isF_eq]
    show (outP m (.str (wOp c)) (.tuple (Fm.dl fs)) && (inP (.str (wOp c)) (.tuple (Fm.dl fs))).all (Gk.isF m)) = true
    unfold outP inP
    rw [(heads c).1, if_neg (by decide), (heads c).2.2, if_pos rfl, (heads c).2.1, if_neg (by decide), if_pos rfl]
    show ((decide (2 ≤ (Fm.dl fs).length) && decide ((Fm.dl fs).length ≤ 4)) && (Fm.dl fs).all (Gk.isF m)) = true
    have l : (Fm.dl fs).length = fs.length := by rw [Fm.dl_map, List.length_map]
    rw [l, h.1, Fm.isFs h.2]
    rfl
theorem Fm.isFs {m : Nat} : ∀ {fs : List Fm}, Fm.oks m fs = true → (Fm.dl fs).all (Gk.isF m) = true
  | [], _ => rfl
  | f :: r, h => by
    have h : (f.ok m && Fm.oks m r) = true := h
    rw [Bool.and_eq_true] at h
    show (Gk.isF m f.d && (Fm.dl r).all (Gk.isF m)) = true
    rw [Fm.isF h.1, Fm.isFs h.2]
    rfl
end
theorem w_len (c : Bool) : (wOp c).length ≤ 3 ∧ (wSt c).length ≤ 6 ∧ wIn.length = 2 ∧ wNot.length = 3 := by cases c <;> decide +kernel
theorem w_gd (c : Bool) : gd 100 (.str (wOp c)) = true ∧ gd 100 (.str (wSt c)) = true ∧ gd 100 (.str wIn) = true ∧ gd 100 (.str wNot) = true := by cases c <;> decide +kernel
mutual
theorem Fm.fit {m : Nat} (m6 : m ≤ 6) : ∀ {f : Fm}, f.ok m = true → gd 100 f.d = true ∧ f.d.weight + 1 ≤ 8 * f.cnt ∧ f.d.depth ≤ 2 * f.dep
  | .st b, _ => by cases b <;> decide +kernel
  | .inp i, h => by
    have h : i < m := of_decide_eq_true h
    have : i = 0 ∨ i = 1 ∨ i = 2 ∨ i = 3 ∨ i = 4 ∨ i = 5 := by omega
    rcases this with rfl | rfl | rfl | rfl | rfl | rfl <;> decide +kernel
  | .no f, h => by
    have h : f.ok m = true := h
    obtain ⟨a, b, c⟩ := Fm.fit m6 h
    refine ⟨?_, ?_, ?_⟩
    · show (gd 100 (.str wNot) && (gd 100 f.d && true)) = true
      rw [(w_gd true).2.2.2, a]
      rfl
    · show wNot.length + 1 + (f.d.weight + 1 + 0) + 1 ≤ 8 * (1 + f.cnt)
      have := (w_len true).2.2.2
      omega
    · show max 0 (max f.d.depth 0) + 1 ≤ 2 * (f.dep + 1)
      omega
  | .op c fs, h => by
    have h : ((decide (2 ≤ fs.length) && decide (fs.length ≤ 4)) && Fm.oks m fs) = true := h
    rw [Bool.and_eq_true] at h
    obtain ⟨a, b, e⟩ := Fm.fits m6 h.2
    refine ⟨?_, ?_, ?_⟩
    · show (gd 100 (.str (wOp c)) && (gds 100 (Fm.dl fs) && true)) = true
      rw [(w_gd c).1, a]
      rfl
    · show (wOp c).length + 1 + (PyData.weightAll (Fm.dl fs) + 1 + 0) + 1 ≤ 8 * (1 + Fm.cnts fs)
      have := (w_len c).1
      omega
    · show max 0 (max (PyData.depthAll (Fm.dl fs) + 1) 0) + 1 ≤ 2 * (Fm.deps fs + 1)
      omega
theorem Fm.fits {m : Nat} (m6 : m ≤ 6) : ∀ {fs : List Fm}, Fm.oks m fs = true → gds 100 (Fm.dl fs) = true ∧ PyData.weightAll (Fm.dl fs) ≤ 8 * Fm.cnts fs ∧ PyData.depthAll (Fm.dl fs) ≤ 2 * Fm.deps fs
  | [], _ => ⟨rfl, Nat.le_refl _, Nat.le_refl _⟩
  | f :: r, h => by
    have h : (f.ok m && Fm.oks m r) = true := h
    rw [Bool.and_eq_true] at h
    obtain ⟨a, b, c⟩ := Fm.fit m6 h.1
    obtain ⟨a2, b2, c2⟩ := Fm.fits m6 h.2
    refine ⟨?_, ?_, ?_⟩
    · show (gd 100 f.d && gds 100 (Fm.dl r)) = true
      rw [a, a2]
      rfl
    · show f.d.weight + 1 + PyData.weightAll (Fm.dl r) ≤ 8 * (f.cnt + Fm.cnts r)
      omega
    · show max f.d.depth (PyData.depthAll (Fm.dl r)) ≤ 2 * max f.dep (Fm.deps r)
      omega
end
mutual
theorem Fm.noL : ∀ f : Fm, noL f.d = true
  | .st _ => rfl
  | .inp _ => rfl
  | .no f => by
    show (true && (Gk.noL f.d && true)) = true
    rw [Fm.noL f]
    rfl
  | .op c fs => by
    show (true && (noLs (Fm.dl fs) && true)) = true
    rw [Fm.noLl fs]
    rfl
theorem Fm.noLl : ∀ fs : List Fm, noLs (Fm.dl fs) = true
  | [] => rfl
  | f :: r => by
    show (Gk.noL f.d && noLs (Fm.dl r)) = true
    rw [Fm.noL f, Fm.noLl r]
    rfl
end
theorem Fm.dep_pos (f : Fm) : 1 ≤ f.dep := by
  cases f with
  | st _ => exact Nat.le_refl _
  | inp _ => exact Nat.le_refl _
  | no f => exact Nat.succ_le_succ (Nat.zero_le _)
  | op c fs => exact Nat.succ_le_succ (Nat.zero_le _)
theorem Fm.inner_few {m : Nat} {f : Fm} (h : f.ok m = true) : f.inner.length ≤ 4 := by
  cases f with
  | st _ => exact Nat.zero_le _
  | inp _ => exact Nat.zero_le _
  | no f => show 1 ≤ 4; decide
  | op c fs =>
    have h : ((decide (2 ≤ fs.length) && decide (fs.length ≤ 4)) && Fm.oks m fs) = true := h
    rw [Bool.and_eq_true, Bool.and_eq_true (decide _)] at h
    exact of_decide_eq_true h.1.2
theorem Fm.inner_ok {m : Nat} {f g : Fm} (h : f.ok m = true) (hg : g ∈ f.inner) : g.ok m = true := by
  cases f with
  | st _ => cases hg
  | inp _ => cases hg
  | no f => rw [List.mem_singleton.mp hg]; exact h
  | op c fs =>
    have h : ((decide (2 ≤ fs.length) && decide (fs.length ≤ 4)) && Fm.oks m fs) = true := h
    rw [Bool.and_eq_true] at h
    exact Fm.oks_mem.mp h.2 g hg
theorem Fm.cnts_sum : ∀ fs : List Fm, (fs.map fun g => ((g.cnt : Nat) : Int)).sum = (Fm.cnts fs : Nat)
  | [] => rfl
  | f :: r => by
    rw [List.map_cons, List.sum_cons, Fm.cnts_sum r]
    show ((f.cnt : Nat) : Int) + (Fm.cnts r : Nat) = ((f.cnt + Fm.cnts r : Nat) : Int)
    push_cast
    rfl

theorem any_and_or (h : PyData) : ([wAnd, wOr].any fun z => sB z h) = (sB wAnd h || sB wOr h) := by
  show (sB wAnd h || (sB wOr h || false)) = _
  rw [Bool.or_false]
/-! ### forms on the heap -/
theorem Fm.tk_st {H : Hp} {v : V} {b : Bool} (h : Tk H v (Fm.st b).d) : ∃ a, v = .ref a ∧ H a = some (.tup [.str (wSt b)]) := by
  obtain ⟨a, xs, rfl, ha, t⟩ := Tk.tup_inv (ds := [.str (wSt b)]) h
  match xs, t with
  | [_], .cons (.str _) .nil => exact ⟨a, rfl, ha⟩
theorem Fm.tk_inp {H : Hp} {v : V} {i : Nat} (h : Tk H v (Fm.inp i).d) : ∃ a, v = .ref a ∧ H a = some (.tup [.str wIn, .int i]) := by
  obtain ⟨a, xs, rfl, ha, t⟩ := Tk.tup_inv (ds := [.str wIn, .int i]) h
  match xs, t with
  | [_, _], .cons (.str _) (.cons (.int _) .nil) => exact ⟨a, rfl, ha⟩
theorem Fm.tk_no {H : Hp} {v : V} {f : Fm} (h : Tk H v (Fm.no f).d) : ∃ a w, v = .ref a ∧ H a = some (.tup [.str wNot, w]) ∧ Tk H w f.d := by
  obtain ⟨a, xs, rfl, ha, t⟩ := Tk.tup_inv (ds := [.str wNot, f.d]) h
  match xs, t with
  | [_, w], .cons (.str _) (.cons tw .nil) => exact ⟨a, w, rfl, ha, tw⟩
theorem Fm.tk_op {H : Hp} {v : V} {c : Bool} {fs : List Fm} (h : Tk H v (Fm.op c fs).d) : ∃ a b ys, v = .ref a ∧ H a = some (.tup [.str (wOp c), .ref b]) ∧ H b = some (.tup ys) ∧ TkAll H ys (fs.map Fm.d) := by
  obtain ⟨a, xs, rfl, ha, t⟩ := Tk.tup_inv (ds := [.str (wOp c), .tuple (Fm.dl fs)]) h
  match xs, t with
  | [_, w], .cons (.str _) (.cons tw .nil) =>
    obtain ⟨b, ys, rfl, hb, ty⟩ := tw.tup_inv
    rw [Fm.dl_map] at ty
    exact ⟨a, b, ys, rfl, ha, hb, ty⟩

/-! ### what a form has within -/
def sp_inner_of (K : PySem.W.Frag) : Sp := fun vs H Q _ => ∃ (v : V) (f : Fm), vs = [v] ∧ Tk H v f.d ∧ ∀ H' a xs, Same H H' → H' a = some (.tup xs) → TkAll H' xs (f.inner.map Fm.d) → Q (.ref a) H'
theorem ok_inner_of (T : Tx w K mg) : FnOk P w K mg base CX0 1 T.f_inner_of T.fd_inner_of ["form"] (sp_inner_of K) := by
  refine T.F_inner_of.ok sc_inner_of (fun vs H Q E h => ?_) (fun cdv A outer s H vs Q E hr h => ?_)
  · obtain ⟨v, f, rfl, _⟩ := h
    rfl
  · obtain ⟨v, f, rfl, tk, q⟩ := h
    refine ⟨_, (pss_cons (ps_if (pt_cmpR op_eq (pe_ix ix_tup (pv 0) pe_int (fun _ _ => rfl)) pe_str (nomark _)) (pss_one (ps_ret (pe_tup (pa_cons (pe_ix ix_tup (pv 0) pe_int (fun _ _ => rfl)) pa_nil)))) pss_nil) (pss_one (ps_ret (pe_ifExp (pt_cmpR (EqS.op_inS (EqS.u1 hr.units)) (pe_ix ix_tup (pv 0) pe_int (fun _ _ => rfl)) (pe_tup (pa_cons pe_str (pa_cons pe_str pa_nil))) rfl) (pe_ix ix_tup (pv 0) pe_int (fun _ _ => rfl)) (pe_tup pa_nil))))), ?_⟩
    have key : (∃ a z r, v = .ref a ∧ H a = some (.tup (.str z :: r)) ∧ z ≠ wNot ∧ (sB wAnd (.str z) || sB wOr (.str z)) = false ∧ f.inner = []) ∨ (∃ g, f = .no g) ∨ ∃ c fs, f = .op c fs := by
      cases f with
      | st b =>
        obtain ⟨a, rfl, ha⟩ := Fm.tk_st tk
        exact .inl ⟨a, _, _, rfl, ha, by cases b <;> decide +kernel, (headsS b).2.2, rfl⟩
      | inp i =>
        obtain ⟨a, rfl, ha⟩ := Fm.tk_inp tk
        exact .inl ⟨a, _, _, rfl, ha, by decide +kernel, headsI.2.2, rfl⟩
      | no f => exact .inr (.inl ⟨f, rfl⟩)
      | op c fs => exact .inr (.inr ⟨c, fs, rfl⟩)
    rcases key with ⟨a, z, r, rfl, ha, n1, n2, fi⟩ | ⟨g, rfl⟩ | ⟨c, fs, rfl⟩
    · refine ⟨.ref a, rfl, a, _, ((0 : Nat) : Int), .str z, rfl, rfl, SqT.of ha, atI_nat rfl, rfl, _, rfl, ite2 (fun e => absurd (V.str.inj (of_decide_eq_true e)) n1) (fun _ => ?_)⟩
      refine ⟨.ref a, rfl, a, _, ((0 : Nat) : Int), .str z, rfl, rfl, SqT.of ha, atI_nat rfl, sl2, fun p np => ?_⟩
      have s1 := same_upd (o := HO.tup [V.str wAnd, V.str wOr]) np
      refine ⟨.str z, p, [wAnd, wOr], .str z, rfl, upd_same, _, rfl, ?_⟩
      rw [any_and_or, n2]
      exact iteF ⟨Nat.zero_le _, fun p2 np2 => q _ p2 [] (s1.trans (same_upd np2)) upd_same (by rw [fi]; exact .nil)⟩
    · obtain ⟨a, w', rfl, ha, tw⟩ := Fm.tk_no tk
      refine ⟨.ref a, rfl, a, _, 0, .str wNot, rfl, rfl, SqT.of ha, rfl, rfl, _, rfl, iteT ?_⟩
      refine ⟨.ref a, rfl, a, _, 1, w', rfl, rfl, SqT.of ha, rfl, sl1, fun p np => ?_⟩
      have s1 := same_upd (o := HO.tup [w']) np
      exact q _ p _ s1 upd_same (.cons (tw.same s1) .nil)
    · obtain ⟨a, b, ys, rfl, ha, hb, ty⟩ := Fm.tk_op tk
      refine ⟨.ref a, rfl, a, _, 0, .str (wOp c), rfl, rfl, SqT.of ha, rfl, rfl, _, rfl, ite2 (fun e => absurd (V.str.inj (of_decide_eq_true e)) (by cases c <;> decide +kernel)) (fun _ => ?_)⟩
      refine ⟨.ref a, rfl, a, _, 0, .str (wOp c), rfl, rfl, SqT.of ha, rfl, sl2, fun p np => ?_⟩
      have s1 := same_upd (o := HO.tup [V.str wAnd, V.str wOr]) np
      refine ⟨.str (wOp c), p, [wAnd, wOr], .str _, rfl, upd_same, _, rfl, ?_⟩
      rw [any_and_or, (heads c).2.2]
      exact iteT ⟨.ref a, rfl, a, _, 1, .ref b, rfl, rfl, SqT.of (s1 _ _ ha), rfl, q _ b ys s1 (s1 _ _ hb) (ty.same s1)⟩

end
end Gk

set_option Elab.async false
set_option linter.all false
set_option maxRecDepth 100000
set_option maxHeartbeats 1000000
set_option pp.maxSteps 1500
set_option pp.deepTerms false
namespace Gk
open PySem PySem.Spec PyProof.Rows L2
section
variable {P : Program} {w : World} {K : PySem.W.Frag} {mg : Str → Option Value} {base : Heap}
/-! ### the law's forms -/
def sp_l_inner (K : PySem.W.Frag) : Sp := fun vs H Q _ => ∃ (v : V) (f : Fm), vs = [v] ∧ Tk H v f.d ∧ ∀ H' a xs, Same H H' → H' a = some (.tup xs) → TkAll H' xs (f.inner.map Fm.d) → Q (.ref a) H'
theorem ok_inner (T : Tx w K mg) : FnOk P w K mg base CX0 1 T.f_inner T.fd_inner ["_law_form_here"] (sp_l_inner K) := by
  refine T.F_inner.ok sc_inner (fun vs H Q E h => ?_) (fun cdv A outer s H vs Q E hr h => ?_)
  · obtain ⟨v, f, rfl, _⟩ := h
    rfl
  · obtain ⟨v, f, rfl, tk, q⟩ := h
    refine ⟨_, (pss_cons (ps_if (pt_cmpR op_eq (pe_ix ix_tup (pv 0) pe_int (fun _ _ => rfl)) pe_str (nomark _)) (pss_one (ps_ret (pe_slice sl_tupA (pv 0) (po_some pe_int) po_none))) pss_nil) (pss_cons (ps_if (pt_cmpR (EqS.op_inS (EqS.u1 hr.units)) (pe_ix ix_tup (pv 0) pe_int (fun _ _ => rfl)) (pe_tup (pa_cons pe_str (pa_cons pe_str pa_nil))) rfl) (pss_one (ps_ret (pe_ix ix_tup (pv 0) pe_int (fun _ _ => rfl)))) pss_nil) (pss_one (ps_ret (pe_tup pa_nil))))), ?_⟩
    have key : (∃ a z r, v = .ref a ∧ H a = some (.tup (.str z :: r)) ∧ z ≠ wNot ∧ (sB wAnd (.str z) || sB wOr (.str z)) = false ∧ f.inner = []) ∨ (∃ g, f = .no g) ∨ ∃ c fs, f = .op c fs := by
      cases f with
      | st b =>
        obtain ⟨a, rfl, ha⟩ := Fm.tk_st tk
        exact .inl ⟨a, _, _, rfl, ha, by cases b <;> decide +kernel, (headsS b).2.2, rfl⟩
      | inp i =>
        obtain ⟨a, rfl, ha⟩ := Fm.tk_inp tk
        exact .inl ⟨a, _, _, rfl, ha, by decide +kernel, headsI.2.2, rfl⟩
      | no f => exact .inr (.inl ⟨f, rfl⟩)
      | op c fs => exact .inr (.inr ⟨c, fs, rfl⟩)
    rcases key with ⟨a, z, r, rfl, ha, n1, n2, fi⟩ | ⟨g, rfl⟩ | ⟨c, fs, rfl⟩
    · refine ⟨.ref a, rfl, a, _, ((0 : Nat) : Int), .str z, rfl, rfl, SqT.of ha, atI_nat rfl, rfl, _, rfl, ite2 (fun e => absurd (V.str.inj (of_decide_eq_true e)) n1) (fun _ => ?_)⟩
      refine ⟨.ref a, rfl, a, _, ((0 : Nat) : Int), .str z, rfl, rfl, SqT.of ha, atI_nat rfl, sl2, fun p np => ?_⟩
      have s1 := same_upd (o := HO.tup [V.str wAnd, V.str wOr]) np
      refine ⟨.str z, p, [wAnd, wOr], .str z, rfl, upd_same, _, rfl, ?_⟩
      rw [any_and_or, n2]
      exact iteF ⟨Nat.zero_le _, fun p2 np2 => q _ p2 [] (s1.trans (same_upd np2)) upd_same (by rw [fi]; exact .nil)⟩
    · obtain ⟨a, w', rfl, ha, tw⟩ := Fm.tk_no tk
      refine ⟨.ref a, rfl, a, _, 0, .str wNot, rfl, rfl, SqT.of ha, rfl, rfl, _, rfl, iteT ?_⟩
      refine ⟨.ref a, rfl, _, rfl, slAn ha fun p H1 s1 h1 => ?_⟩
      exact q H1 p _ s1 h1 (.cons (tw.same s1) .nil)
    · obtain ⟨a, b, ys, rfl, ha, hb, ty⟩ := Fm.tk_op tk
      refine ⟨.ref a, rfl, a, _, 0, .str (wOp c), rfl, rfl, SqT.of ha, rfl, rfl, _, rfl, ite2 (fun e => absurd (V.str.inj (of_decide_eq_true e)) (by cases c <;> decide +kernel)) (fun _ => ?_)⟩
      refine ⟨.ref a, rfl, a, _, 0, .str (wOp c), rfl, rfl, SqT.of ha, rfl, sl2, fun p np => ?_⟩
      have s1 := same_upd (o := HO.tup [V.str wAnd, V.str wOr]) np
      refine ⟨.str (wOp c), p, [wAnd, wOr], .str _, rfl, upd_same, _, rfl, ?_⟩
      rw [any_and_or, (heads c).2.2]
      exact iteT ⟨.ref a, rfl, a, _, 1, .ref b, rfl, rfl, SqT.of (s1 _ _ ha), rfl, q _ b ys s1 (s1 _ _ hb) (ty.same s1)⟩
/-- how many parts a form has, by its depth -/
def sp_count (K : PySem.W.Frag) (e : Nat) : Sp := fun vs H Q _ => ∃ (v : V) (f : Fm) (m : Nat), vs = [v] ∧ Tk H v f.d ∧ f.ok m = true ∧ f.dep ≤ e ∧ ∀ H', Same H H' → Q (.int (f.cnt : Nat)) H'
theorem ok_countE (T : Tx w K mg) : ∀ e : Nat, FnOk P w K mg base CX0 (e + 2) T.f_count T.fd_count ["_law_form_here"] (sp_count K e)
  | 0 => ⟨fun _ _ _ _ h => by obtain ⟨_, f, _, _, _, _, h, _⟩ := h; exact absurd h (by have := Fm.dep_pos f; omega), fun _ _ _ _ _ _ _ _ _ _ _ _ _ h => by obtain ⟨_, f, _, _, _, _, h, _⟩ := h; exact absurd h (by have := Fm.dep_pos f; omega)⟩
  | e + 1 => by
    have ih := ok_countE T e
    refine T.F_count.ok sc_count (fun vs H Q E h => ?_) (fun cdv A outer s H vs Q E hr h => ?_)
    · obtain ⟨v, f, m, rfl, _⟩ := h
      rfl
    · obtain ⟨v, f, m, rfl, tk, ok, de, q⟩ := h
      refine ⟨_, (pss_one (ps_ret (pe_op op_add pe_int (pe_callB (cr_sum rfl) (by rfl) T.m_sum (by decide +kernel) (pa_cons (pe_lc (own := [("_law_part", 1)]) (by rfl) sc_count.nd (pi_tup (pe_call (ok_inner T) (hr.mono (by omega)) (by rfl) T.g_inner T.F_inner.kp T.b_inner .nil pass0 (pa_cons (pv 0) pa_nil))) (blkOk_by (own := [("_law_part", 1)]) (N := ["_law_form_here", "_law_part"]) (sc := defScope s_count) (by decide +kernel)) (fun _ _ _ _ _ => (pg_name (i := 1) sc_count.nd rfl (by first | exact .inl rfl | exact .inr rfl))) (fun _ _ _ _ _ => pts_nil) (fun _ _ _ _ _ => (pe_call (ih) (hr.mono (by omega)) (by rfl) T.g_count T.F_count.kp T.b_count .nil pass0 (pa_cons (pv 1) pa_nil)))) pa_nil))))), ?_⟩
      refine ⟨v, rfl, v, f, rfl, tk, fun H1 a xs s1 ha txs => ⟨a, rfl, ⟨_, SqT.of ha⟩, fun D nD => ?_⟩⟩
      have lxs : xs.length = f.inner.length := by rw [txs.length, List.length_map]
      have few : f.inner.length ≤ 4 := Fm.inner_few ok
      refine lc_tup (K := K) (a := a) (xs := xs) (fun i H' => Same H1 (hd1 D H') ∧ H' D = some (.lst (((f.inner.take i).map fun g => ((g.cnt : Nat) : Int)).map V.int))) ⟨hd1_of (same_upd nD) nD, upd_same⟩ (fun i H' _ z => SqT.of (hd1_le _ _ (z.1 _ _ ha))) ?_ ?_
      · rintro i u H2 hu ⟨s2, hD⟩
        obtain ⟨g, hg, tg⟩ := txs.at hu
        have gm := List.mem_of_getElem? hg
        have k2 : Same H1 H2 := fun b o z => hd1_le _ _ (s2 b o z)
        have il := (List.getElem?_eq_some_iff.mp hg).1
        refine ⟨rfl, u, rfl, u, g, m, rfl, tg.same k2, Fm.inner_ok ok gm, by have := Fm.inner_dep gm; omega, fun H3 s3 => ⟨_, s3 _ _ hD, ?_, (s2.trans (hd1_same s3)).trans hd1_upd, ?_⟩⟩
        · rw [List.length_map, List.length_map, List.length_take]
          exact Nat.lt_of_le_of_lt (show min i f.inner.length ≤ 4 by omega) (by decide)
        · rw [upd_same, List.take_add_one, hg, List.map_append, List.map_append]
          rfl
      · rintro H2 ⟨s2, hD⟩
        rw [lxs, List.take_length] at hD
        have k2 : Same H1 H2 := fun b o z => hd1_le _ _ (s2 b o z)
        refine ⟨D, _, rfl, SqL.of hD, _, _, rfl, rfl, ?_⟩
        have e1 : (f.inner.map fun g => ((g.cnt : Nat) : Int)).sum = (Fm.cnts f.inner : Nat) := Fm.cnts_sum _
        rw [e1]
        have q := q H2 (s1.trans k2)
        rw [Fm.cnt_eq f] at q
        have e2 : ((1 + Fm.cnts f.inner : Nat) : Int) = 1 + (Fm.cnts f.inner : Nat) := by push_cast; rfl
        rw [e2] at q
        exact q

end
end Gk

set_option Elab.async false
set_option linter.all false
set_option maxRecDepth 100000
set_option maxHeartbeats 1000000
set_option pp.maxSteps 1500
set_option pp.deepTerms false
namespace Gk
open PySem PySem.Spec PyProof.Rows L2
section
variable {P : Program} {w : World} {K : PySem.W.Frag} {mg : Str → Option Value} {base : Heap}
/-! ### forms drawn -/
def Kp3 (a b c : Addr) (H H' : Hp) : Prop := ∀ x o, x ≠ a → x ≠ b → x ≠ c → H x = some o → H' x = some o
theorem Kp3.refl {a b c : Addr} {H : Hp} : Kp3 a b c H H := fun _ _ _ _ _ e => e
theorem Kp3.trans {a b c : Addr} {H H1 H2 : Hp} (s : Kp3 a b c H H1) (t : Kp3 a b c H1 H2) : Kp3 a b c H H2 := fun x o h1 h2 h3 e => t x o h1 h2 h3 (s x o h1 h2 h3 e)
theorem Kp3.fr {a b c : Addr} {H H' : Hp} (f : Fr a b H H') : Kp3 a b c H H' := fun x o h1 h2 _ e => f x o h1 h2 e
theorem Kp3.of {a b c : Addr} {H H' : Hp} (s : Same H H') : Kp3 a b c H H' := fun x o _ _ _ e => s x o e
theorem Kp3.ts {d l L : Addr} {n : Int} {b : V} {H H' : Hp} (k : Kp3 d l L H H') (D : DeckC H d l n) (hL : H L = some (.lst [b])) : Ts H H' := fun x xs e => by
  obtain ⟨_, cs, y, z, h1, h2, _⟩ := D
  exact k x _ (ne_of e h1 (by intro z; cases z)) (ne_of e h2 (by intro z; cases z)) (ne_of e hL (by intro z; cases z)) e
theorem Kp3.add {d l L : Addr} {H H' : Hp} {p : Addr} {o : HO} (k : Kp3 d l L H H') (n : H p = none) : Kp3 d l L H (upd H' p o) := fun x u h1 h2 h3 e => by
  rw [upd_ne (ne_of_none e n)]
  exact k x u h1 h2 h3 e
def sp_form (K : PySem.W.Frag) (e : Nat) : Sp := fun vs H Q _ => ∃ (d l L : Addr) (n : Int) (m : Nat) (b : Int), vs = [.ref d, .int (m : Nat), .int (e : Nat), .ref L] ∧ DeckC H d l n ∧ n + 40000 * (e + 1) ≤ 100000000 ∧ e ≤ 9 ∧ H L = some (.lst [.int b]) ∧ L ≠ d ∧ L ≠ l ∧ 1 ≤ m ∧ m ≤ 6 ∧ b ≤ 1000 ∧
  ∀ (v : V) (H' : Hp) (f : Fm), DeckC H' d l (n + 3 * ((e : Int) + 1) * (f.lv : Nat)) → Kp3 d l L H H' → H' L = some (.lst [.int (b - (f.lv : Nat))]) → Tk H' v f.d → f.ok m = true → f.dep ≤ e + 1 → 1 ≤ f.lv → (f.lv = 1 ∨ (f.lv : Int) ≤ b + 3 * e) → Q v H'
theorem never_okF {f : Addr} {fd : FuncData} {ps : List Str} : FnOk P w K mg base CX0 0 f fd ps (fun _ _ _ _ => False) := ⟨fun _ _ _ _ h => h.elim, fun _ _ _ _ _ _ _ _ _ _ _ _ _ h => h.elim⟩
theorem st_at {x : Int} (h0 : 7 < x) (h1 : x < 10) (u v : V) : ∃ b : Bool, atI [u, v] (x - 8) = some (if b = true then u else v) := by
  have : x = 8 ∨ x = 9 := by omega
  rcases this with rfl | rfl
  · exact ⟨true, rfl⟩
  · exact ⟨false, rfl⟩
theorem op_at {x : Int} (h0 : 0 ≤ x) (h1 : x < 2) : ∃ c : Bool, atI [V.str wAnd, V.str wOr] x = some (.str (wOp c)) := by
  have : x = 0 ∨ x = 1 := by omega
  rcases this with rfl | rfl
  · exact ⟨true, rfl⟩
  · exact ⟨false, rfl⟩
theorem num_at {x : Int} (h0 : 0 ≤ x) (h1 : x < 4) : ∃ c : Nat, atI [V.int 2, V.int 2, V.int 3, V.int 4] x = some (.int (c : Nat)) ∧ 2 ≤ c ∧ c ≤ 4 := by
  have : x = 0 ∨ x = 1 ∨ x = 2 ∨ x = 3 := by omega
  rcases this with rfl | rfl | rfl | rfl
  · exact ⟨2, rfl, by decide, by decide⟩
  · exact ⟨2, rfl, by decide, by decide⟩
  · exact ⟨3, rfl, by decide, by decide⟩
  · exact ⟨4, rfl, by decide, by decide⟩
theorem ok_formB (T : Tx w K mg) (e : Nat) (sub : Sp) (lvl : Nat) (hl : lvl + 3 ≤ e + 3) (ih : FnOk P w K mg base CX0 (lvl + 2) T.f_form T.fd_form ["_law_deck_here", "_law_many", "_law_deep", "_law_left"] sub) (hsub : ∀ k, e = k + 1 → ∀ vs H Q E, sp_form K k vs H Q E → sub vs H Q E) : FnOk P w K mg base CX0 (e + 3) T.f_form T.fd_form ["_law_deck_here", "_law_many", "_law_deep", "_law_left"] (sp_form K e) := by
  refine T.F_form.ok sc_form (fun vs H Q E h => ?_) (fun cdv A outer s H vs Q E hr h => ?_)
  · obtain ⟨d, l, L, n, m, b, rfl, _⟩ := h
    rfl
  · obtain ⟨d, l, L, n, m, b, rfl, D, hn, e9, hL, Ld, Ll, m1, m6, b1, q⟩ := h
    refine ⟨_, (pss_cons (ps_set (i := 4) sc_form.nd rfl (by first | exact .inl rfl | exact .inr rfl) (pe_call (ok_take T) (hr.mono (by omega)) (by rfl) T.g_take T.F_take.kp T.b_take .nil pass0 (pa_cons (pv 0) (pa_cons pe_int pa_nil)))) (pss_cons (ps_if (pt_cut (pw_or (pt_cmpR op_eq (pv 2) pe_int (nomark _)) (pw_or (pt_cmpR op_lt (pe_ix ix_list (pv 3) pe_int (fun _ _ => rfl)) pe_int (nomark _)) (pw_or1 (pt_cmpR op_lt (pv 4) pe_int (nomark _))))).pt) (pss_cons (ps_asg (pe_op op_sub (pe_ix ix_list (pv 3) pe_int (fun _ _ => rfl)) pe_int) (pg_sub (pv 3) pe_int set_list)) (pss_cons (ps_set (i := 5) sc_form.nd rfl (by first | exact .inl rfl | exact .inr rfl) (pe_call (ok_take T) (hr.mono (by omega)) (by rfl) T.g_take T.F_take.kp T.b_take .nil pass0 (pa_cons (pv 0) (pa_cons pe_int pa_nil)))) (pss_cons (ps_if (pt_cmpR op_gt (pv 5) pe_int (nomark _)) (pss_one (ps_ret (pe_ix ix_list (pe_lst (pa_cons (pe_tup (pa_cons pe_str pa_nil)) (pa_cons (pe_tup (pa_cons pe_str pa_nil)) pa_nil))) (pe_op op_sub (pv 5) pe_int) (fun _ _ => rfl)))) pss_nil) (pss_one (ps_ret (pe_tup (pa_cons pe_str (pa_cons (pe_call (ok_take T) (hr.mono (by omega)) (by rfl) T.g_take T.F_take.kp T.b_take .nil pass0 (pa_cons (pv 0) (pa_cons (pv 1) pa_nil))) pa_nil)))))))) pss_nil) (pss_cons (ps_if (pt_cmpR op_lt (pv 4) pe_int (nomark _)) (pss_one (ps_ret (pe_tup (pa_cons pe_str (pa_cons (pe_call (ih) (hr.mono (by omega)) (by rfl) T.g_form T.F_form.kp T.b_form .nil pass0 (pa_cons (pv 0) (pa_cons (pv 1) (pa_cons (pe_op op_sub (pv 2) pe_int) (pa_cons (pv 3) pa_nil))))) pa_nil))))) pss_nil) (pss_cons (ps_set (i := 6) sc_form.nd rfl (by first | exact .inl rfl | exact .inr rfl) (pe_ix ix_list (pe_lst (pa_cons pe_str (pa_cons pe_str pa_nil))) (pe_call (ok_take T) (hr.mono (by omega)) (by rfl) T.g_take T.F_take.kp T.b_take .nil pass0 (pa_cons (pv 0) (pa_cons pe_int pa_nil))) (fun _ _ => rfl))) (pss_cons (ps_set (i := 7) sc_form.nd rfl (by first | exact .inl rfl | exact .inr rfl) (pe_lst pa_nil)) (pss_cons (ps_for PassesOwn.never rfl (pi_range1 (by rfl) T.m_range (pa_cons (pe_ix ix_list (pe_lst (pa_cons pe_int (pa_cons pe_int (pa_cons pe_int (pa_cons pe_int pa_nil))))) (pe_call (ok_take T) (hr.mono (by omega)) (by rfl) T.g_take T.F_take.kp T.b_take .nil pass0 (pa_cons (pv 0) (pa_cons pe_int pa_nil))) (fun _ _ => rfl)) pa_nil)) (pg_name (i := 8) sc_form.nd rfl (by first | exact .inl rfl | exact .inr rfl)) (pss_one (ps_expr (pe_bm PySem.F.plainAttrs_list PySem.F.slot_list_append PySem.F.type_list_append mt_append (pv 7) (pa_cons (pe_call (ih) (hr.mono (by omega)) (by rfl) T.g_form T.F_form.kp T.b_form .nil pass0 (pa_cons (pv 0) (pa_cons (pv 1) (pa_cons (pe_op op_sub (pv 2) pe_int) (pa_cons (pv 3) pa_nil))))) pa_nil))))) (pss_one (ps_ret (pe_tup (pa_cons (pv 6) (pa_cons (pe_callTy call_tuple_of (by rfl) T.m_tuple (by decide +kernel) (pa_cons (pv 7) pa_nil)) pa_nil))))))))))), ?_⟩
    refine ⟨.ref d, rfl, d, l, 8, _, rfl, D, by omega, by decide, by decide, fun H1 way D1 fr1 w0 w1 => ?_⟩
    have hL1 := fr1 _ _ Ld Ll hL
    refine ⟨fun c H' => H' = H1 ∧ (c = false → e ≠ 0 ∧ 2 ≤ b), ?_, ?_⟩
    · refine ⟨.int (e : Nat), rfl, rfl, _, rfl, ite2 (fun _ => ⟨rfl, fun z => by cases z⟩) (fun ne => ?_)⟩
      have ne : e ≠ 0 := fun z => ne (by rw [z]; exact decide_eq_true rfl)
      refine ⟨.ref L, rfl, L, _, 0, .int b, rfl, rfl, SqL.of hL1, rfl, _, _, rfl, rfl, _, rfl, ite2 (fun _ => ⟨rfl, fun z => by cases z⟩) (fun nb => ?_)⟩
      have nb : ¬ b < 2 := fun z => nb (decide_eq_true z)
      exact ⟨.int way, rfl, _, _, rfl, rfl, _, rfl, rfl, fun _ => ⟨ne, by omega⟩⟩
    rintro c H2 ⟨h21, hc⟩
    have h21 := h21.symm
    subst h21
    cases c with
    | true =>
      refine iteT ?_
      refine ⟨.ref L, rfl, L, _, 0, .int b, rfl, rfl, SqL.of hL1, rfl, _, _, rfl, rfl, .ref L, rfl, L, _, _, 0, rfl, rfl, hL1, rfl, ?_⟩
      have D3 := D1.upd (p := L) (o := .lst [.int (b - 1)]) Ld Ll
      have k3 : Kp3 d l L H (upd H1 L (.lst [.int (b - 1)])) := (Kp3.fr fr1).trans fun x o _ _ h3 e => by
        rw [upd_ne h3]
        exact e
      have hL3 : upd H1 L (.lst [.int (b - 1)]) L = some (.lst [.int (b - 1)]) := upd_same
      show tSeq _ _ _ _ (upd H1 L (HO.lst [.int (b - 1)]))
      generalize upd H1 L (.lst [.int (b - 1)]) = H3 at D3 k3 hL3 ⊢
      have c1 : (1 : Int) ≤ 3 * ((e : Int) + 1) := by omega
      refine ⟨.ref d, rfl, d, l, 10, _, rfl, D3, by omega, by decide, by decide, fun H4 x D4 fr4 x0 x1 => ?_⟩
      have hL4 := fr4 _ _ Ld Ll hL3
      have k4 := k3.trans (Kp3.fr fr4)
      refine ⟨.int x, rfl, _, _, rfl, rfl, _, rfl, ite2 (fun x7 => ?_) (fun x7 => ?_)⟩
      · have x7 : 7 < x := of_decide_eq_true x7
        refine ⟨sl1, fun p1 np1 => ?_⟩
        have s5 := same_upd (o := (HO.tup [V.str (Str.ofString "one")])) np1
        have h5 : upd H4 p1 (HO.tup [V.str (Str.ofString "one")]) p1 = some (HO.tup [V.str (Str.ofString "one")]) := upd_same
        generalize upd H4 p1 (HO.tup [V.str (Str.ofString "one")]) = H5 at s5 h5 ⊢
        refine ⟨sl1, fun p2 np2 => ?_⟩
        have s6 := same_upd (o := (HO.tup [V.str (Str.ofString "nought")])) np2
        have h6 : upd H5 p2 (HO.tup [V.str (Str.ofString "nought")]) p2 = some (HO.tup [V.str (Str.ofString "nought")]) := upd_same
        generalize upd H5 p2 (HO.tup [V.str (Str.ofString "nought")]) = H6 at s6 h6 ⊢
        refine ⟨sl2, fun p3 np3 => ?_⟩
        have s7 := same_upd (o := (HO.lst [V.ref p1, V.ref p2])) np3
        have h7 : upd H6 p3 (HO.lst [V.ref p1, V.ref p2]) p3 = some (HO.lst [V.ref p1, V.ref p2]) := upd_same
        generalize upd H6 p3 (HO.lst [V.ref p1, V.ref p2]) = H7 at s7 h7 ⊢
        obtain ⟨sb, hsb⟩ := st_at x7 x1 (V.ref p1) (V.ref p2)
        have sA := s5.trans (s6.trans s7)
        refine ⟨.int x, rfl, _, _, rfl, rfl, p3, _, _, _, rfl, rfl, SqL.of h7, hsb, ?_⟩
        refine q _ H7 (.st sb) ((D4.same sA).mono (by show n + 1 + 1 ≤ n + 3 * ((e : Int) + 1) * 1; omega)) (k4.trans (Kp3.of sA)) (sA _ _ hL4) ?_ rfl (Nat.succ_le_succ (Nat.zero_le _)) (Nat.le_refl _) (.inl rfl)
        cases sb
        · exact .tup (s7 _ _ h6) (.cons (.str _) .nil)
        · exact .tup (s7 _ _ (s6 _ _ h5)) (.cons (.str _) .nil)
      · refine ⟨.ref d, rfl, .int (m : Nat), rfl, d, l, (m : Nat), _, rfl, D4, by omega, by omega, by omega, fun H5 i D5 fr5 i0 i1 => ?_⟩
        obtain ⟨i, rfl⟩ := Int.eq_ofNat_of_zero_le i0
        refine ⟨sl2, fun p np => ?_⟩
        have s6 := same_upd (o := HO.tup [V.str (Str.ofString "in"), V.int (i : Nat)]) np
        refine q _ _ (.inp i) ((D5.same s6).mono (by show n + 1 + 1 + 1 ≤ n + 3 * ((e : Int) + 1) * 1; omega)) ((k4.trans (Kp3.fr fr5)).trans (Kp3.of s6)) (s6 _ _ (fr5 _ _ Ld Ll hL4)) (.tup upd_same (.cons (.str _) (.cons (.int _) .nil))) (decide_eq_true (by omega)) (Nat.succ_le_succ (Nat.zero_le _)) (Nat.le_refl _) (.inl rfl)
    | false =>
      obtain ⟨ne, b2⟩ := hc rfl
      obtain ⟨k, rfl⟩ : ∃ k, e = k + 1 := ⟨e - 1, by omega⟩
      have e1 : (((k + 1 : Nat) : Int) - 1) = (k : Nat) := by omega
      have cc : 3 * (((k + 1 : Nat) : Int) + 1) = 3 * ((k : Int) + 1) + 3 := by omega
      rw [cc] at q
      refine iteF ?_
      refine ⟨.int way, rfl, _, _, rfl, rfl, _, rfl, ite2 (fun w4 => ?_) (fun w4 => ?_)⟩
      · refine ⟨.ref d, rfl, .int (m : Nat), rfl, .int ((k + 1 : Nat) : Int), rfl, _, _, rfl, rfl, .ref L, rfl, hsub k rfl _ _ _ _ ⟨d, l, L, _, m, b, (by show [V.ref d, V.int (m : Nat), V.int (((k + 1 : Nat) : Int) - 1), V.ref L] = _; rw [e1]), D1, by omega, by omega, hL1, Ld, Ll, m1, m6, b1, fun v H3 f D3 k3 hL3 tk ok de lp lb => ?_⟩⟩
        refine ⟨sl2, fun p np => ?_⟩
        have s4 := same_upd (o := HO.tup [V.str (Str.ofString "not"), v]) np
        have e2 : (3 * ((k : Int) + 1) + 3) * (f.lv : Nat) = 3 * ((k : Int) + 1) * (f.lv : Nat) + 3 * (f.lv : Nat) := Int.add_mul ..
        refine q _ _ (.no f) ((D3.same s4).mono (by show _ ≤ n + (3 * ((k : Int) + 1) + 3) * (f.lv : Nat); rw [e2]; omega)) (((Kp3.fr fr1).trans k3).trans (Kp3.of s4)) (s4 _ _ hL3) (.tup upd_same (.cons (.str _) (.cons (tk.same s4) .nil))) ok (Nat.succ_le_succ de) lp (by
          rcases lb with z | z
          · exact .inl z
          · exact .inr (by show (f.lv : Int) ≤ _; omega))
      · refine ⟨sl2, fun p np => ?_⟩
        have op := D1.off np
        have Lp : L ≠ p := ne_of_none hL1 np
        have s2 := same_upd (o := (HO.lst [V.str (Str.ofString "and"), V.str (Str.ofString "or")])) np
        have h2 : upd H1 p (HO.lst [V.str (Str.ofString "and"), V.str (Str.ofString "or")]) p = some (HO.lst [V.str (Str.ofString "and"), V.str (Str.ofString "or")]) := upd_same
        generalize upd H1 p (HO.lst [V.str (Str.ofString "and"), V.str (Str.ofString "or")]) = H2 at s2 h2 ⊢
        have D2 := D1.same s2
        refine ⟨.ref d, rfl, d, l, 2, _, rfl, D2, by omega, by decide, by decide, fun H3 x D3 fr3 x0 x1 => ?_⟩
        obtain ⟨cw, hcw⟩ := op_at x0 x1
        refine ⟨p, _, x, .str (wOp cw), rfl, rfl, SqL.of (fr3 _ _ op.1 op.2 h2), hcw, ?_⟩
        have hL3 := fr3 _ _ Ld Ll (s2 _ _ hL1)
        have k3 : Kp3 d l L H H3 := ((Kp3.fr fr1).trans (Kp3.of s2)).trans (Kp3.fr fr3)
        refine ⟨Nat.zero_le _, fun W nW => ?_⟩
        have oW := D3.off nW
        have LW : L ≠ W := ne_of_none hL3 nW
        have s4 := same_upd (o := (HO.lst [])) nW
        have hW : upd H3 W (HO.lst []) W = some (HO.lst []) := upd_same
        generalize upd H3 W (HO.lst []) = H4 at s4 hW ⊢
        have D4 := D3.same s4
        refine ⟨sl4, fun p5 np5 => ?_⟩
        have o5 := D4.off np5
        have s5 := same_upd (o := (HO.lst [V.int 2, V.int 2, V.int 3, V.int 4])) np5
        have h5 : upd H4 p5 (HO.lst [V.int 2, V.int 2, V.int 3, V.int 4]) p5 = some (HO.lst [V.int 2, V.int 2, V.int 3, V.int 4]) := upd_same
        generalize upd H4 p5 (HO.lst [V.int 2, V.int 2, V.int 3, V.int 4]) = H5 at s5 h5 ⊢
        have D5 := D4.same s5
        refine ⟨.ref d, rfl, d, l, 4, _, rfl, D5, by omega, by decide, by decide, fun H6 y D6 fr6 y0 y1 => ?_⟩
        obtain ⟨c, hcn, c2, c4⟩ := num_at y0 y1
        refine ⟨p5, _, y, .int (c : Nat), rfl, rfl, SqL.of (fr6 _ _ o5.1 o5.2 h5), hcn, c, rfl, by omega, by omega, ?_⟩
        have hW6 := fr6 _ _ oW.1 oW.2 (s5 _ _ hW)
        have hL6 := fr6 _ _ Ld Ll (s5 _ _ (s4 _ _ hL3))
        have k6 : Kp3 d l L H H6 := ((k3.trans (Kp3.of s4)).trans (Kp3.of s5)).trans (Kp3.fr fr6)
        have nW0 : H W = none := by
          cases z : H W with
          | none => rfl
          | some o =>
            have := k3 W o oW.1 oW.2 LW.symm z
            rw [nW] at this
            cases this
        refine for_range (lo := 0) (n := (c : Int).toNat) (fun i σ H' => ∃ y8 vs fs, σ = [some (.ref d), some (.int (m : Nat)), some (.int ((k + 1 : Nat) : Int)), some (.ref L), some (.int way), none, some (.str (wOp cw)), some (.ref W), y8] ∧ DeckC H' d l (n + 3 + 3 * ((k : Int) + 1) * (Fm.lvs fs : Nat)) ∧ Kp3 d l L H H' ∧ H' L = some (.lst [.int (b - (Fm.lvs fs : Nat))]) ∧ H' W = some (.lst vs) ∧ TkAll H' vs (fs.map Fm.d) ∧ fs.length = i ∧ Fm.oks m fs = true ∧ Fm.deps fs ≤ k + 1 ∧ i ≤ Fm.lvs fs ∧ (Fm.lvs fs : Int) ≤ b + 3 * (k : Int) + (i : Int) - 1)
          ⟨_, [], [], rfl, D6.mono (by show n + 1 + 1 + 1 ≤ n + 3 + 3 * ((k : Int) + 1) * ((0 : Nat) : Int); omega), k6, by show H6 L = some (.lst [.int (b - ((0 : Nat) : Int))]); rw [show b - ((0 : Nat) : Int) = b by omega]; exact hL6, hW6, .nil, rfl, rfl, Nat.zero_le _, Nat.le_refl _, by show ((0 : Nat) : Int) ≤ _; omega⟩ ?_ ?_
        · rintro i σ H7 hi ⟨y8, vs, fs, rfl, D7, k7, hL7, hW7, tv, lf, okf, df, ilv, lvb⟩
          have hi' : i < c := by omega
          have lvs : vs.length = i := by rw [tv.length, List.length_map, lf]
          have small : 3 * ((k : Int) + 1) * (Fm.lvs fs : Nat) ≤ 27 * 1050 := Int.mul_le_mul (by omega) (by omega) (by omega) (by decide)
          refine ⟨.ref W, rfl, .inl ⟨rfl, _, SqL.of hW7⟩, .ref d, rfl, .int (m : Nat), rfl, .int ((k + 1 : Nat) : Int), rfl, _, _, rfl, rfl, .ref L, rfl, hsub k rfl _ _ _ _ ⟨d, l, L, _, m, b - (Fm.lvs fs : Nat), (by show [V.ref d, V.int (m : Nat), V.int (((k + 1 : Nat) : Int) - 1), V.ref L] = _; rw [e1]), D7, by omega, by omega, hL7, Ld, Ll, m1, m6, by omega, fun v H8 f D8 k8 hL8 tk ok de lp lb => ?_⟩⟩
          have hW8 := k8 _ _ oW.1 oW.2 LW.symm hW7
          have ts8 := k8.ts D7 hL7
          have ts9 := Ts.set (ys := vs ++ [v]) hW8
          have la : Fm.lvs (fs ++ [f]) = Fm.lvs fs + f.lv := by rw [Fm.lvs_app]; rfl
          have e3 : 3 * ((k : Int) + 1) * ((Fm.lvs (fs ++ [f]) : Nat) : Int) = 3 * ((k : Int) + 1) * (Fm.lvs fs : Nat) + 3 * ((k : Int) + 1) * (f.lv : Nat) := by
            rw [la]
            push_cast
            rw [Int.mul_add]
          refine ⟨W, _, _, rfl, rfl, hW8, Nat.lt_of_lt_of_le (show vs.length < 64 by omega) (by decide), _, vs ++ [v], fs ++ [f], rfl, ?_, ?_, ?_, upd_same, ?_, by rw [List.length_append, lf]; rfl, ?_, ?_, ?_, ?_⟩
          · exact (D8.upd oW.1 oW.2).mono (by rw [e3]; omega)
          · exact fun x o h1 h2 h3 z => by
              rw [upd_ne (ne_of_none z nW0)]
              exact (k7.trans k8) x o h1 h2 h3 z
          · rw [upd_ne LW, hL8, la]
            congr 4
            push_cast
            omega
          · rw [List.map_append]
            exact ((tv.ts (ts8.trans ts9) (by rw [← Fm.dl_map]; exact Fm.noLl fs))).append (.cons (tk.ts ts9 (Fm.noL f)) .nil)
          · exact Fm.oks_mem.mpr fun g hg => by
              rcases List.mem_append.mp hg with z | z
              · exact Fm.oks_mem.mp okf g z
              · rw [List.mem_singleton.mp z]; exact ok
          · exact Fm.deps_le fun g hg => by
              rcases List.mem_append.mp hg with z | z
              · exact Nat.le_trans (Fm.deps_mem z) df
              · rw [List.mem_singleton.mp z]; exact de
          · rw [la]; omega
          · rw [la]
            push_cast
            rcases lb with z | z <;> omega
        · rintro σ H7 ⟨y8, vs, fs, rfl, D7, k7, hL7, hW7, tv, lf, okf, df, ilv, lvb⟩
          have ec : (c : Int).toNat = c := by omega
          rw [ec] at lf ilv lvb
          refine ⟨.str (wOp cw), rfl, .ref W, rfl, W, _, rfl, .inl ⟨SqL.of hW7, fun p8 np8 => ?_⟩⟩
          have s8 := same_upd (o := (HO.tup vs)) np8
          have h8 : upd H7 p8 (HO.tup vs) p8 = some (HO.tup vs) := upd_same
          generalize upd H7 p8 (HO.tup vs) = H8 at s8 h8 ⊢
          refine ⟨sl2, fun p9 np9 => ?_⟩
          have s9 := same_upd (o := HO.tup [V.str (wOp cw), V.ref p8]) np9
          have e2 : (3 * ((k : Int) + 1) + 3) * (Fm.lvs fs : Nat) = 3 * ((k : Int) + 1) * (Fm.lvs fs : Nat) + 3 * (Fm.lvs fs : Nat) := Int.add_mul ..
          refine q _ _ (.op cw fs) (((D7.same s8).same s9).mono (by show _ ≤ n + (3 * ((k : Int) + 1) + 3) * (Fm.lvs fs : Nat); rw [e2]; omega)) ((k7.trans (Kp3.of s8)).trans (Kp3.of s9)) (s9 _ _ (s8 _ _ hL7)) (.tup upd_same (.cons (.str _) (.cons (.tup (s9 _ _ h8) (by rw [Fm.dl_map]; exact tv.same (s8.trans s9))) .nil))) ?_ (Nat.succ_le_succ df) (by show 1 ≤ Fm.lvs fs; omega) (.inr (by show (Fm.lvs fs : Int) ≤ _; omega))
          show ((decide (2 ≤ fs.length) && decide (fs.length ≤ 4)) && Fm.oks m fs) = true
          rw [decide_eq_true (by omega), decide_eq_true (by omega), okf]
          rfl
theorem ok_formE (T : Tx w K mg) : ∀ e : Nat, FnOk P w K mg base CX0 (e + 3) T.f_form T.fd_form ["_law_deck_here", "_law_many", "_law_deep", "_law_left"] (sp_form K e)
  | 0 => ok_formB T 0 (fun _ _ _ _ => False) 0 (by omega) (never_okF.mono (by omega)) (fun k h => by cases h)
  | e + 1 => ok_formB T (e + 1) (sp_form K e) (e + 1) (by omega) (ok_formE T e) (fun k h vs H Q E z => by cases h; exact z)
def sp_formA (K : PySem.W.Frag) : Sp := fun vs H Q E => ∃ e ≤ 9, sp_form K e vs H Q E
theorem ok_form (T : Tx w K mg) : FnOk P w K mg base CX0 12 T.f_form T.fd_form ["_law_deck_here", "_law_many", "_law_deep", "_law_left"] (sp_formA K) :=
  ⟨fun vs H Q E ⟨e, _, h⟩ => (ok_formE (P := P) (base := base) T e).len vs H Q E h, fun A outer s H args us vs Q E hr e0 hb r ⟨e, he, h⟩ => (ok_formE (P := P) (base := base) T e).run A outer s H args us vs Q E (hr.mono (by omega)) e0 hb r h⟩

end
end Gk

set_option Elab.async false
set_option linter.all false
set_option maxRecDepth 100000
set_option maxHeartbeats 1000000
set_option pp.maxSteps 1500
set_option pp.deepTerms false
namespace Gk
open PySem PySem.Spec PyProof.Rows L2
section
variable {P : Program} {w : World} {K : PySem.W.Frag} {mg : Str → Option Value} {base : Heap}
/-! ### towers, some form -/
theorem third_at {k : Nat} {u w : V} : atI [u, w] (if decide (((k : Nat) : Int) > 0) = true then 1 else 0) = some (if 0 < k then w else u) := by
  by_cases z : 0 < k
  · rw [if_pos (decide_eq_true (by omega)), if_pos z]
    rfl
  · rw [if_neg (fun y => z (by have := of_decide_eq_true y; omega)), if_neg z]
    rfl
theorem five_at {x : Int} (h0 : 0 ≤ x) (h1 : x < 5) {P : V → Prop} {a b c d e : V} (ha : P a) (hb : P b) (hc : P c) (hd : P d) (he : P e) : ∃ v, atI ([a, b, c, d] ++ [e]) x = some v ∧ P v := by
  have : x = 0 ∨ x = 1 ∨ x = 2 ∨ x = 3 ∨ x = 4 := by omega
  rcases this with rfl | rfl | rfl | rfl | rfl
  · exact ⟨a, rfl, ha⟩
  · exact ⟨b, rfl, hb⟩
  · exact ⟨c, rfl, hc⟩
  · exact ⟨d, rfl, hd⟩
  · exact ⟨e, rfl, he⟩
/-- a form at v, of so many parts at most, so deep at most -/
def FmAt (H : Hp) (m c e : Nat) (v : V) : Prop := ∃ f : Fm, Tk H v f.d ∧ f.ok m = true ∧ f.cnt ≤ c ∧ f.dep ≤ e
theorem FmAt.same {H H' : Hp} {m c e : Nat} {v : V} (h : FmAt H m c e v) (s : Same H H') : FmAt H' m c e v := by
  obtain ⟨f, t, r⟩ := h
  exact ⟨f, t.same s, r⟩
theorem FmAt.ts {H H' : Hp} {m c e : Nat} {v : V} (h : FmAt H m c e v) (s : Ts H H') : FmAt H' m c e v := by
  obtain ⟨f, t, r⟩ := h
  exact ⟨f, t.ts s (Fm.noL f), r⟩
theorem FmAt.mono {H : Hp} {m c e c' e' : Nat} {v : V} (h : FmAt H m c e v) (a : c ≤ c') (b : e ≤ e') : FmAt H m c' e' v := by
  obtain ⟨f, t, o, h1, h2⟩ := h
  exact ⟨f, t, o, Nat.le_trans h1 a, Nat.le_trans h2 b⟩
theorem FmAt.inp {H : Hp} {m i : Nat} {a : Addr} (h : H a = some (.tup [.str (Str.ofString "in"), .int (i : Nat)])) (hi : i < m) : FmAt H m 1 1 (.ref a) :=
  ⟨.inp i, .tup h (.cons (.str _) (.cons (.int _) .nil)), decide_eq_true hi, Nat.le_refl _, Nat.le_refl _⟩
theorem FmAt.no {H : Hp} {m c e : Nat} {a : Addr} {v : V} (h : H a = some (.tup [.str (Str.ofString "not"), v])) (hv : FmAt H m c e v) : FmAt H m (1 + c) (e + 1) (.ref a) := by
  obtain ⟨f, t, o, h1, h2⟩ := hv
  exact ⟨.no f, .tup h (.cons (.str _) (.cons t .nil)), o, Nat.add_le_add_left h1 1, Nat.succ_le_succ h2⟩
theorem FmAt.op {H : Hp} {m : Nat} {a b : Addr} {vs : List V} {fs : List Fm} (c : Bool) (h : H a = some (.tup [.str (wOp c), .ref b])) (hb : H b = some (.tup vs)) (t : TkAll H vs (fs.map Fm.d)) (l2 : 2 ≤ fs.length) (l4 : fs.length ≤ 4) (ok : Fm.oks m fs = true) {C E : Nat} (hc : 1 + Fm.cnts fs ≤ C) (he : Fm.deps fs + 1 ≤ E) : FmAt H m C E (.ref a) :=
  ⟨.op c fs, .tup h (.cons (.str _) (.cons (.tup hb (by rw [Fm.dl_map]; exact t)) .nil)), by
    show ((decide (2 ≤ fs.length) && decide (fs.length ≤ 4)) && Fm.oks m fs) = true
    rw [decide_eq_true l2, decide_eq_true l4, ok]
    rfl, hc, he⟩
def sp_tower (K : PySem.W.Frag) : Sp := fun vs H Q _ => ∃ (d l : Addr) (n : Int) (m : Nat), vs = [.ref d, .int (m : Nat)] ∧ DeckC H d l n ∧ n ≤ 100000000 ∧ 1 ≤ m ∧ m ≤ 6 ∧ ∀ v H', DeckC H' d l (n + 19) → Fr d l H H' → FmAt H' m 37 11 v → Q v H'
theorem ok_tower (T : Tx w K mg) : FnOk P w K mg base CX0 3 T.f_tower T.fd_tower ["_law_deck_here", "_law_many"] (sp_tower K) := by
  refine T.F_tower.ok sc_tower (fun vs H Q E h => ?_) (fun cdv A outer s H vs Q E hr h => ?_)
  · obtain ⟨d, l, n, m, rfl, _⟩ := h
    rfl
  · obtain ⟨d, l, n, m, rfl, D, hn, m1, m6, q⟩ := h
    refine ⟨_, (pss_cons (ps_set (i := 2) sc_tower.nd rfl (by first | exact .inl rfl | exact .inr rfl) (pe_tup (pa_cons pe_str (pa_cons (pe_call (ok_take T) (hr.mono (by decide)) (by rfl) T.g_take T.F_take.kp T.b_take .nil pass0 (pa_cons (pv 0) (pa_cons (pv 1) pa_nil))) pa_nil)))) (pss_cons (ps_for PassesOwn.never rfl (pi_range1 (by rfl) T.m_range (pa_cons pe_int pa_nil)) (pg_name (i := 3) sc_tower.nd rfl (by first | exact .inl rfl | exact .inr rfl)) (pss_cons (ps_set (i := 4) sc_tower.nd rfl (by first | exact .inl rfl | exact .inr rfl) (pe_call (ok_take T) (hr.mono (by decide)) (by rfl) T.g_take T.F_take.kp T.b_take .nil pass0 (pa_cons (pv 0) (pa_cons pe_int pa_nil)))) (pss_cons (ps_set (i := 5) sc_tower.nd rfl (by first | exact .inl rfl | exact .inr rfl) (pe_tup (pa_cons pe_str (pa_cons (pe_call (ok_take T) (hr.mono (by decide)) (by rfl) T.g_take T.F_take.kp T.b_take .nil pass0 (pa_cons (pv 0) (pa_cons (pv 1) pa_nil))) pa_nil)))) (pss_cons (ps_set (i := 6) sc_tower.nd rfl (by first | exact .inl rfl | exact .inr rfl) (pe_ix ix_list (pe_lst (pa_cons (pv 5) (pa_cons (pe_tup (pa_cons pe_str (pa_cons (pv 5) pa_nil))) pa_nil))) (pe_callTy call_int1 (by rfl) T.m_int (by decide +kernel) (pa_cons (pe_cmpR op_gt (pv 3) pe_int (nomark _)) pa_nil)) (fun _ _ => rfl))) (pss_cons (ps_set (i := 7) sc_tower.nd rfl (by first | exact .inl rfl | exact .inr rfl) (pe_lst (pa_cons (pe_tup (pa_cons pe_str (pa_cons (pv 2) pa_nil))) (pa_cons (pe_tup (pa_cons pe_str (pa_cons (pe_tup (pa_cons (pv 2) (pa_cons (pv 5) pa_nil))) pa_nil))) (pa_cons (pe_tup (pa_cons pe_str (pa_cons (pe_tup (pa_cons (pv 5) (pa_cons (pv 2) pa_nil))) pa_nil))) (pa_cons (pe_tup (pa_cons pe_str (pa_cons (pe_tup (pa_cons (pv 5) (pa_cons (pv 2) (pa_cons (pv 6) pa_nil)))) pa_nil))) pa_nil)))))) (pss_one (ps_set (i := 2) sc_tower.nd rfl (by first | exact .inl rfl | exact .inr rfl) (pe_ix ix_list (pe_op op_cat (pv 7) (pe_lst (pa_cons (pe_tup (pa_cons pe_str (pa_cons (pe_tup (pa_cons (pv 2) (pa_cons (pv 5) (pa_cons (pe_tup (pa_cons pe_str pa_nil)) (pa_cons (pe_tup (pa_cons pe_str pa_nil)) pa_nil))))) pa_nil))) pa_nil))) (pv 4) (fun _ _ => rfl))))))))) (pss_one (ps_ret (pv 2))))), ?_⟩
    refine ⟨.ref d, rfl, .int (m : Nat), rfl, d, l, (m : Nat), _, rfl, D, by omega, by omega, by omega, fun H1 i D1 fr1 i0 i1 => ?_⟩
    obtain ⟨i, rfl⟩ := Int.eq_ofNat_of_zero_le i0
    refine ⟨sl2, fun p np => ?_⟩
    have s2 := same_upd (o := (HO.tup [V.str (Str.ofString "in"), V.int (i : Nat)])) np
    have h2 : upd H1 p (HO.tup [V.str (Str.ofString "in"), V.int (i : Nat)]) p = some (HO.tup [V.str (Str.ofString "in"), V.int (i : Nat)]) := upd_same
    generalize upd H1 p (HO.tup [V.str (Str.ofString "in"), V.int (i : Nat)]) = H2 at s2 h2 ⊢
    refine ⟨9, rfl, by decide, by decide, ?_⟩
    refine for_range (lo := 0) (n := (9 : Int).toNat) (fun k σ H' => ∃ v y3 y4 y5 y6 y7, σ = [some (.ref d), some (.int (m : Nat)), some v, y3, y4, y5, y6, y7] ∧ DeckC H' d l (n + 1 + 2 * (k : Nat)) ∧ Fr d l H H' ∧ FmAt H' m (1 + 4 * k) (2 + k) v)
      ⟨_, _, _, _, _, _, rfl, (D1.same s2).mono (by omega), fr1.trans (Fr.of s2), (FmAt.inp h2 (by omega)).mono (by omega) (by omega)⟩ ?_ ?_
    · rintro k σ H3 hk ⟨v, y3, y4, y5, y6, y7, rfl, D3, fr3, fm3⟩
      have hk' : k < 9 := hk
      refine ⟨.ref d, rfl, d, l, 5, _, rfl, D3, by omega, by decide, by decide, fun H4 way D4 fr4 w0 w1 => ?_⟩
      refine ⟨.ref d, rfl, .int (m : Nat), rfl, d, l, (m : Nat), _, rfl, D4, by omega, by omega, by omega, fun H5 j D5 fr5 j0 j1 => ?_⟩
      obtain ⟨j, rfl⟩ := Int.eq_ofNat_of_zero_le j0
      obtain ⟨f, tf, okf, cf, df⟩ := (fm3.ts (Ts.frC D3 fr4)).ts (Ts.frC D4 fr5)
      have fr05 := (fr3.trans fr4).trans fr5
      refine ⟨sl2, fun p1 np1 => ?_⟩
      have s6 := same_upd (o := (HO.tup [V.str (Str.ofString "in"), V.int (j : Nat)])) np1
      have h6 : upd H5 p1 (HO.tup [V.str (Str.ofString "in"), V.int (j : Nat)]) p1 = some (HO.tup [V.str (Str.ofString "in"), V.int (j : Nat)]) := upd_same
      generalize upd H5 p1 (HO.tup [V.str (Str.ofString "in"), V.int (j : Nat)]) = H6 at s6 h6 ⊢
      refine ⟨.ref p1, rfl, .ref p1, rfl, sl2, fun p2 np2 => ?_⟩
      have s7 := same_upd (o := (HO.tup [V.str (Str.ofString "not"), V.ref p1])) np2
      have h7 : upd H6 p2 (HO.tup [V.str (Str.ofString "not"), V.ref p1]) p2 = some (HO.tup [V.str (Str.ofString "not"), V.ref p1]) := upd_same
      generalize upd H6 p2 (HO.tup [V.str (Str.ofString "not"), V.ref p1]) = H7 at s7 h7 ⊢
      refine ⟨sl2, fun p3 np3 => ?_⟩
      have s8 := same_upd (o := (HO.lst [V.ref p1, V.ref p2])) np3
      have h8 : upd H7 p3 (HO.lst [V.ref p1, V.ref p2]) p3 = some (HO.lst [V.ref p1, V.ref p2]) := upd_same
      generalize upd H7 p3 (HO.lst [V.ref p1, V.ref p2]) = H8 at s8 h8 ⊢
      have e0 : (0 : Int) + (k : Int) = (k : Int) := Int.zero_add _
      rw [e0]
      refine ⟨.int (k : Nat), rfl, _, _, rfl, rfl, .inr ⟨_, rfl, p3, _, _, _, rfl, rfl, SqL.of h8, third_at, ?_⟩⟩
      generalize ew : (if 0 < k then V.ref p2 else V.ref p1) = w'
      refine ⟨v, rfl, sl2, fun p4 np4 => ?_⟩
      have s9 := same_upd (o := (HO.tup [V.str (Str.ofString "not"), v])) np4
      have h9 : upd H8 p4 (HO.tup [V.str (Str.ofString "not"), v]) p4 = some (HO.tup [V.str (Str.ofString "not"), v]) := upd_same
      generalize upd H8 p4 (HO.tup [V.str (Str.ofString "not"), v]) = H9 at s9 h9 ⊢
      refine ⟨v, rfl, .ref p1, rfl, sl2, fun p5 np5 => ?_⟩
      have s10 := same_upd (o := (HO.tup [v, V.ref p1])) np5
      have h10 : upd H9 p5 (HO.tup [v, V.ref p1]) p5 = some (HO.tup [v, V.ref p1]) := upd_same
      generalize upd H9 p5 (HO.tup [v, V.ref p1]) = H10 at s10 h10 ⊢
      refine ⟨sl2, fun p6 np6 => ?_⟩
      have s11 := same_upd (o := (HO.tup [V.str (Str.ofString "and"), V.ref p5])) np6
      have h11 : upd H10 p6 (HO.tup [V.str (Str.ofString "and"), V.ref p5]) p6 = some (HO.tup [V.str (Str.ofString "and"), V.ref p5]) := upd_same
      generalize upd H10 p6 (HO.tup [V.str (Str.ofString "and"), V.ref p5]) = H11 at s11 h11 ⊢
      refine ⟨.ref p1, rfl, v, rfl, sl2, fun p7 np7 => ?_⟩
      have s12 := same_upd (o := (HO.tup [V.ref p1, v])) np7
      have h12 : upd H11 p7 (HO.tup [V.ref p1, v]) p7 = some (HO.tup [V.ref p1, v]) := upd_same
      generalize upd H11 p7 (HO.tup [V.ref p1, v]) = H12 at s12 h12 ⊢
      refine ⟨sl2, fun p8 np8 => ?_⟩
      have s13 := same_upd (o := (HO.tup [V.str (Str.ofString "or"), V.ref p7])) np8
      have h13 : upd H12 p8 (HO.tup [V.str (Str.ofString "or"), V.ref p7]) p8 = some (HO.tup [V.str (Str.ofString "or"), V.ref p7]) := upd_same
      generalize upd H12 p8 (HO.tup [V.str (Str.ofString "or"), V.ref p7]) = H13 at s13 h13 ⊢
      refine ⟨.ref p1, rfl, v, rfl, w', rfl, sl3, fun p9 np9 => ?_⟩
      have s14 := same_upd (o := (HO.tup [V.ref p1, v, w'])) np9
      have h14 : upd H13 p9 (HO.tup [V.ref p1, v, w']) p9 = some (HO.tup [V.ref p1, v, w']) := upd_same
      generalize upd H13 p9 (HO.tup [V.ref p1, v, w']) = H14 at s14 h14 ⊢
      refine ⟨sl2, fun p10 np10 => ?_⟩
      have s15 := same_upd (o := (HO.tup [V.str (Str.ofString "and"), V.ref p9])) np10
      have h15 : upd H14 p10 (HO.tup [V.str (Str.ofString "and"), V.ref p9]) p10 = some (HO.tup [V.str (Str.ofString "and"), V.ref p9]) := upd_same
      generalize upd H14 p10 (HO.tup [V.str (Str.ofString "and"), V.ref p9]) = H15 at s15 h15 ⊢
      refine ⟨sl4, fun p11 np11 => ?_⟩
      have s16 := same_upd (o := (HO.lst [V.ref p4, V.ref p6, V.ref p8, V.ref p10])) np11
      have h16 : upd H15 p11 (HO.lst [V.ref p4, V.ref p6, V.ref p8, V.ref p10]) p11 = some (HO.lst [V.ref p4, V.ref p6, V.ref p8, V.ref p10]) := upd_same
      generalize upd H15 p11 (HO.lst [V.ref p4, V.ref p6, V.ref p8, V.ref p10]) = H16 at s16 h16 ⊢
      refine ⟨.ref p11, rfl, v, rfl, .ref p1, rfl, sl1, fun p12 np12 => ?_⟩
      have s17 := same_upd (o := (HO.tup [V.str (Str.ofString "one")])) np12
      have h17 : upd H16 p12 (HO.tup [V.str (Str.ofString "one")]) p12 = some (HO.tup [V.str (Str.ofString "one")]) := upd_same
      generalize upd H16 p12 (HO.tup [V.str (Str.ofString "one")]) = H17 at s17 h17 ⊢
      refine ⟨sl1, fun p13 np13 => ?_⟩
      have s18 := same_upd (o := (HO.tup [V.str (Str.ofString "nought")])) np13
      have h18 : upd H17 p13 (HO.tup [V.str (Str.ofString "nought")]) p13 = some (HO.tup [V.str (Str.ofString "nought")]) := upd_same
      generalize upd H17 p13 (HO.tup [V.str (Str.ofString "nought")]) = H18 at s18 h18 ⊢
      refine ⟨sl4, fun p14 np14 => ?_⟩
      have s19 := same_upd (o := (HO.tup [v, V.ref p1, V.ref p12, V.ref p13])) np14
      have h19 : upd H18 p14 (HO.tup [v, V.ref p1, V.ref p12, V.ref p13]) p14 = some (HO.tup [v, V.ref p1, V.ref p12, V.ref p13]) := upd_same
      generalize upd H18 p14 (HO.tup [v, V.ref p1, V.ref p12, V.ref p13]) = H19 at s19 h19 ⊢
      refine ⟨sl2, fun p15 np15 => ?_⟩
      have s20 := same_upd (o := (HO.tup [V.str (Str.ofString "or"), V.ref p14])) np15
      have h20 : upd H19 p15 (HO.tup [V.str (Str.ofString "or"), V.ref p14]) p15 = some (HO.tup [V.str (Str.ofString "or"), V.ref p14]) := upd_same
      generalize upd H19 p15 (HO.tup [V.str (Str.ofString "or"), V.ref p14]) = H20 at s20 h20 ⊢
      refine ⟨sl1, fun p16 np16 => ?_⟩
      have s21 := same_upd (o := (HO.lst [V.ref p15])) np16
      have h21 : upd H20 p16 (HO.lst [V.ref p15]) p16 = some (HO.lst [V.ref p15]) := upd_same
      generalize upd H20 p16 (HO.lst [V.ref p15]) = H21 at s21 h21 ⊢
      have k20 : Same H20 H21 := s21
      have k19 := s20.trans k20
      have k18 := s19.trans k19
      have k17 := s18.trans k18
      have k16 := s17.trans k17
      have k15 := s16.trans k16
      have k14 := s15.trans k15
      have k13 := s14.trans k14
      have k12 := s13.trans k13
      have k11 := s12.trans k12
      have k10 := s11.trans k11
      have k9 := s10.trans k10
      have k8 := s9.trans k9
      have k7 := s8.trans k8
      have k6 := s7.trans k7
      have k5 := s6.trans k6
      refine ⟨p11, p16, _, _, rfl, rfl, k16 _ _ h16, h21, (by show 5 ≤ sizeLine; decide), fun p17 np17 => ?_⟩
      have s22 := same_upd (o := (HO.lst ([V.ref p4, V.ref p6, V.ref p8, V.ref p10] ++ [V.ref p15]))) np17
      have h22 : upd H21 p17 (HO.lst ([V.ref p4, V.ref p6, V.ref p8, V.ref p10] ++ [V.ref p15])) p17 = some (HO.lst ([V.ref p4, V.ref p6, V.ref p8, V.ref p10] ++ [V.ref p15])) := upd_same
      generalize upd H21 p17 (HO.lst ([V.ref p4, V.ref p6, V.ref p8, V.ref p10] ++ [V.ref p15])) = H22 at s22 h22 ⊢
      have kk : ∀ {a : Addr} {o : HO}, H21 a = some o → H22 a = some o := fun e => s22 _ _ e
      have tf' : Tk H22 v f.d := tf.same (k5.trans s22)
      have t1 : Tk H22 (.ref p1) (Fm.inp j).d := .tup (kk (k6 _ _ h6)) (.cons (.str _) (.cons (.int _) .nil))
      obtain ⟨g, tg, okg, cg, dg⟩ : FmAt H22 m 2 2 w' := by
        rw [← ew]
        split
        · exact FmAt.no (kk (k7 _ _ h7)) (FmAt.inp (kk (k6 _ _ h6)) (by omega))
        · exact (FmAt.inp (kk (k6 _ _ h6)) (by omega)).mono (by omega) (by omega)
      have o1 : (Fm.inp j).ok m = true := decide_eq_true (by omega)
      have oks2 : ∀ {a b : Fm}, a.ok m = true → b.ok m = true → Fm.oks m [a, b] = true := fun x y => by
        show (_ && (_ && true)) = true
        rw [x, y]
        rfl
      have md : ∀ {a b c : Nat}, a ≤ c → b ≤ c → max a b ≤ c := fun x y => Nat.max_le.mpr ⟨x, y⟩
      have a1 : FmAt H22 m (1 + 4 * (k + 1)) (2 + (k + 1)) (.ref p4) := (FmAt.no (kk (k9 _ _ h9)) ⟨f, tf', okf, cf, df⟩).mono (by omega) (by omega)
      have a2 : FmAt H22 m (1 + 4 * (k + 1)) (2 + (k + 1)) (.ref p6) := FmAt.op (fs := [f, .inp j]) true (kk (k11 _ _ h11)) (kk (k10 _ _ h10)) (.cons tf' (.cons t1 .nil)) (Nat.le_refl 2) (by show 2 ≤ 4; decide) (oks2 okf o1) (by show 1 + (f.cnt + (1 + 0)) ≤ _; omega) (by show max f.dep (max 1 0) + 1 ≤ _; omega)
      have a3 : FmAt H22 m (1 + 4 * (k + 1)) (2 + (k + 1)) (.ref p8) := FmAt.op (fs := [.inp j, f]) false (kk (k13 _ _ h13)) (kk (k12 _ _ h12)) (.cons t1 (.cons tf' .nil)) (Nat.le_refl 2) (by show 2 ≤ 4; decide) (oks2 o1 okf) (by show 1 + (1 + (f.cnt + 0)) ≤ _; omega) (by show max 1 (max f.dep 0) + 1 ≤ _; omega)
      have a4 : FmAt H22 m (1 + 4 * (k + 1)) (2 + (k + 1)) (.ref p10) := FmAt.op (fs := [.inp j, f, g]) true (kk (k15 _ _ h15)) (kk (k14 _ _ h14)) (.cons t1 (.cons tf' (.cons tg .nil))) (by show 2 ≤ 3; decide) (by show 3 ≤ 4; decide) (by show (_ && (_ && (_ && true))) = true; rw [o1, okf, okg]; rfl) (by show 1 + (1 + (f.cnt + (g.cnt + 0))) ≤ _; omega) (by show max 1 (max f.dep (max g.dep 0)) + 1 ≤ _; omega)
      have a5 : FmAt H22 m (1 + 4 * (k + 1)) (2 + (k + 1)) (.ref p15) := FmAt.op (fs := [f, .inp j, .st true, .st false]) false (kk (k20 _ _ h20)) (kk (k19 _ _ h19)) (.cons tf' (.cons t1 (.cons (.tup (kk (k17 _ _ h17)) (.cons (.str _) .nil)) (.cons (.tup (kk (k18 _ _ h18)) (.cons (.str _) .nil)) .nil)))) (by show 2 ≤ 4; decide) (Nat.le_refl 4) (by show (_ && (_ && (true && (true && true)))) = true; rw [okf, o1]; rfl) (by show 1 + (f.cnt + (1 + (1 + (1 + 0)))) ≤ _; omega) (by show max f.dep (max 1 (max 1 (max 1 0))) + 1 ≤ _; omega)
      obtain ⟨u, hu, au⟩ := five_at w0 w1 (P := FmAt H22 m (1 + 4 * (k + 1)) (2 + (k + 1))) a1 a2 a3 a4 a5
      refine ⟨.int way, rfl, p17, _, way, u, rfl, rfl, SqL.of h22, hu, ?_⟩
      exact ⟨_, _, _, _, _, _, rfl, (D5.same (k5.trans s22)).mono (by push_cast; omega), fr05.trans (Fr.of (k5.trans s22)), au⟩
    · rintro σ H3 ⟨v, y3, y4, y5, y6, y7, rfl, D3, fr3, fm3⟩
      exact ⟨v, rfl, q _ H3 (D3.mono (by show n + 1 + 2 * ((9 : Nat) : Int) ≤ _; omega)) fr3 fm3⟩
theorem ok_count (T : Tx w K mg) : FnOk P w K mg base CX0 24 T.f_count T.fd_count ["_law_form_here"] (sp_count K 22) := ok_countE T 22
theorem deep_at {x : Int} (h0 : 0 ≤ x) (h1 : x < 8) (n7 : x ≠ 7) : (∃ e : Nat, atI [V.int 0, V.int 2, V.int 3, V.int 4, V.int 6, V.int 9, V.int 3] x = some (.int (e : Nat)) ∧ e ≤ 9) ∧ ∃ b : Int, atI [V.int 1, V.int 4, V.int 6, V.int 9, V.int 9, V.int 9, V.int 24] x = some (.int b) ∧ b ≤ 24 := by
  have : x = 0 ∨ x = 1 ∨ x = 2 ∨ x = 3 ∨ x = 4 ∨ x = 5 ∨ x = 6 := by omega
  rcases this with rfl | rfl | rfl | rfl | rfl | rfl | rfl
  · exact ⟨⟨0, rfl, by decide⟩, 1, rfl, by decide⟩
  · exact ⟨⟨2, rfl, by decide⟩, 4, rfl, by decide⟩
  · exact ⟨⟨3, rfl, by decide⟩, 6, rfl, by decide⟩
  · exact ⟨⟨4, rfl, by decide⟩, 9, rfl, by decide⟩
  · exact ⟨⟨6, rfl, by decide⟩, 9, rfl, by decide⟩
  · exact ⟨⟨9, rfl, by decide⟩, 9, rfl, by decide⟩
  · exact ⟨⟨3, rfl, by decide⟩, 24, rfl, by decide⟩
def sp_some_form (K : PySem.W.Frag) : Sp := fun vs H Q _ => ∃ (d l : Addr) (n : Int) (m : Nat), vs = [.ref d, .int (m : Nat)] ∧ DeckC H d l n ∧ n ≤ 90000000 ∧ 1 ≤ m ∧ m ≤ 6 ∧ ∀ v H', DeckC H' d l (n + 1600) → Fr d l H H' → FmAt H' m 40 11 v → Q v H'
theorem ok_some_form (T : Tx w K mg) : FnOk P w K mg base CX0 25 T.f_some_form T.fd_some_form ["_law_deck_here", "_law_many"] (sp_some_form K) := by
  refine T.F_some_form.ok sc_some_form (fun vs H Q E h => ?_) (fun cdv A outer s H vs Q E hr h => ?_)
  · obtain ⟨d, l, n, m, rfl, _⟩ := h
    rfl
  · obtain ⟨d, l, n, m, rfl, D, hn, m1, m6, q⟩ := h
    refine ⟨_, (pss_cons (ps_set (i := 2) sc_some_form.nd rfl (by first | exact .inl rfl | exact .inr rfl) (pe_call (ok_take T) (hr.mono (by decide)) (by rfl) T.g_take T.F_take.kp T.b_take .nil pass0 (pa_cons (pv 0) (pa_cons pe_int pa_nil)))) (pss_cons (ps_if (pt_cmpR op_eq (pv 2) pe_int (nomark _)) (pss_one (ps_ret (pe_call (ok_tower T) (hr.mono (by decide)) (by rfl) T.g_tower T.F_tower.kp T.b_tower .nil pass0 (pa_cons (pv 0) (pa_cons (pv 1) pa_nil))))) pss_nil) (pss_cons (ps_set (i := 3) sc_some_form.nd rfl (by first | exact .inl rfl | exact .inr rfl) (pe_call (ok_form T) (hr.mono (by decide)) (by rfl) T.g_form T.F_form.kp T.b_form .nil pass0 (pa_cons (pv 0) (pa_cons (pv 1) (pa_cons (pe_ix ix_list (pe_lst (pa_cons pe_int (pa_cons pe_int (pa_cons pe_int (pa_cons pe_int (pa_cons pe_int (pa_cons pe_int (pa_cons pe_int pa_nil)))))))) (pv 2) (fun _ _ => rfl)) (pa_cons (pe_lst (pa_cons (pe_ix ix_list (pe_lst (pa_cons pe_int (pa_cons pe_int (pa_cons pe_int (pa_cons pe_int (pa_cons pe_int (pa_cons pe_int (pa_cons pe_int pa_nil)))))))) (pv 2) (fun _ _ => rfl)) pa_nil)) pa_nil)))))) (pss_cons (ps_if (pt_cmpR op_gt (pe_call (ok_count T) (hr.mono (by decide)) (by rfl) T.g_count T.F_count.kp T.b_count .nil pass0 (pa_cons (pv 3) pa_nil)) pe_int (nomark _)) (pss_one (ps_ret (pe_tup (pa_cons pe_str (pa_cons (pe_tup (pa_cons (pe_tup (pa_cons pe_str (pa_cons pe_int pa_nil))) (pa_cons (pe_tup (pa_cons pe_str (pa_cons (pe_tup (pa_cons pe_str (pa_cons (pe_op op_sub (pv 1) pe_int) pa_nil))) pa_nil))) pa_nil))) pa_nil))))) pss_nil) (pss_one (ps_ret (pv 3))))))), ?_⟩
    refine ⟨.ref d, rfl, d, l, 8, _, rfl, D, by omega, by decide, by decide, fun H1 way D1 fr1 w0 w1 => ?_⟩
    refine ⟨.int way, rfl, rfl, _, rfl, ite2 (fun e7 => ?_) (fun n7 => ?_)⟩
    · exact ⟨.ref d, rfl, .int (m : Nat), rfl, d, l, _, m, rfl, D1, by omega, m1, m6, fun v H2 D2 fr2 fm => q v H2 (D2.mono (by omega)) (fr1.trans fr2) (fm.mono (by omega) (by omega))⟩
    have n7 : way ≠ 7 := fun z => n7 (by rw [z]; exact decide_eq_true rfl)
    obtain ⟨⟨e, he, e9⟩, b, hb, b24⟩ := deep_at w0 w1 n7
    refine ⟨.ref d, rfl, .int (m : Nat), rfl, (by show 7 ≤ sizeLine; decide), fun p1 np1 => ?_⟩
    have s2 := same_upd (o := (HO.lst [V.int 0, V.int 2, V.int 3, V.int 4, V.int 6, V.int 9, V.int 3])) np1
    have h2 : upd H1 p1 (HO.lst [V.int 0, V.int 2, V.int 3, V.int 4, V.int 6, V.int 9, V.int 3]) p1 = some (HO.lst [V.int 0, V.int 2, V.int 3, V.int 4, V.int 6, V.int 9, V.int 3]) := upd_same
    generalize upd H1 p1 (HO.lst [V.int 0, V.int 2, V.int 3, V.int 4, V.int 6, V.int 9, V.int 3]) = H2 at s2 h2 ⊢
    refine ⟨.int way, rfl, p1, _, way, _, rfl, rfl, SqL.of h2, he, (by show 7 ≤ sizeLine; decide), fun p2 np2 => ?_⟩
    have s3 := same_upd (o := (HO.lst [V.int 1, V.int 4, V.int 6, V.int 9, V.int 9, V.int 9, V.int 24])) np2
    have h3 : upd H2 p2 (HO.lst [V.int 1, V.int 4, V.int 6, V.int 9, V.int 9, V.int 9, V.int 24]) p2 = some (HO.lst [V.int 1, V.int 4, V.int 6, V.int 9, V.int 9, V.int 9, V.int 24]) := upd_same
    generalize upd H2 p2 (HO.lst [V.int 1, V.int 4, V.int 6, V.int 9, V.int 9, V.int 9, V.int 24]) = H3 at s3 h3 ⊢
    refine ⟨.int way, rfl, p2, _, way, _, rfl, rfl, SqL.of h3, hb, sl1, fun L nL => ?_⟩
    have D3 := D1.same (s2.trans s3)
    obtain ⟨Ld, Ll⟩ := D3.off nL
    have s4 := same_upd (o := (HO.lst [V.int b])) nL
    have hL : upd H3 L (HO.lst [V.int b]) L = some (HO.lst [V.int b]) := upd_same
    generalize upd H3 L (HO.lst [V.int b]) = H4 at s4 hL ⊢
    have D4 := D3.same s4
    have s14 := s2.trans (s3.trans s4)
    refine ⟨e, e9, d, l, L, _, m, b, rfl, D4, by omega, e9, hL, Ld, Ll, m1, m6, by omega, fun v H5 f D5 k5 hL5 tk ok de lp lb => ?_⟩
    have fr5 : Fr d l H3 H5 := fun x o h1 h2 z => k5 x o h1 h2 (ne_of_none z nL) (s4 _ _ z)
    have fr05 : Fr d l H H5 := (fr1.trans (Fr.of (s2.trans s3))).trans fr5
    have used : 3 * ((e : Int) + 1) * (f.lv : Nat) ≤ 30 * 51 := Int.mul_le_mul (by omega) (by omega) (by omega) (by decide)
    refine ⟨v, rfl, v, f, m, rfl, tk, ok, by omega, fun H6 s6 => ⟨_, _, rfl, rfl, _, rfl, ite2 (fun big => ?_) (fun small => ?_)⟩⟩
    · have D6 := D5.same s6
      refine ⟨sl2, fun p1 np1 => ?_⟩
      have s7 := same_upd (o := (HO.tup [V.str (Str.ofString "in"), V.int 0])) np1
      have h7 : upd H6 p1 (HO.tup [V.str (Str.ofString "in"), V.int 0]) p1 = some (HO.tup [V.str (Str.ofString "in"), V.int 0]) := upd_same
      generalize upd H6 p1 (HO.tup [V.str (Str.ofString "in"), V.int 0]) = H7 at s7 h7 ⊢
      refine ⟨.int (m : Nat), rfl, _, _, rfl, rfl, sl2, fun p2 np2 => ?_⟩
      have s8 := same_upd (o := (HO.tup [V.str (Str.ofString "in"), V.int ((m : Nat) - 1)])) np2
      have h8 : upd H7 p2 (HO.tup [V.str (Str.ofString "in"), V.int ((m : Nat) - 1)]) p2 = some (HO.tup [V.str (Str.ofString "in"), V.int ((m : Nat) - 1)]) := upd_same
      generalize upd H7 p2 (HO.tup [V.str (Str.ofString "in"), V.int ((m : Nat) - 1)]) = H8 at s8 h8 ⊢
      refine ⟨sl2, fun p3 np3 => ?_⟩
      have s9 := same_upd (o := (HO.tup [V.str (Str.ofString "not"), V.ref p2])) np3
      have h9 : upd H8 p3 (HO.tup [V.str (Str.ofString "not"), V.ref p2]) p3 = some (HO.tup [V.str (Str.ofString "not"), V.ref p2]) := upd_same
      generalize upd H8 p3 (HO.tup [V.str (Str.ofString "not"), V.ref p2]) = H9 at s9 h9 ⊢
      refine ⟨sl2, fun p4 np4 => ?_⟩
      have s10 := same_upd (o := (HO.tup [V.ref p1, V.ref p3])) np4
      have h10 : upd H9 p4 (HO.tup [V.ref p1, V.ref p3]) p4 = some (HO.tup [V.ref p1, V.ref p3]) := upd_same
      generalize upd H9 p4 (HO.tup [V.ref p1, V.ref p3]) = H10 at s10 h10 ⊢
      refine ⟨sl2, fun p5 np5 => ?_⟩
      have s11 := same_upd (o := (HO.tup [V.str (Str.ofString "and"), V.ref p4])) np5
      have h11 : upd H10 p5 (HO.tup [V.str (Str.ofString "and"), V.ref p4]) p5 = some (HO.tup [V.str (Str.ofString "and"), V.ref p4]) := upd_same
      generalize upd H10 p5 (HO.tup [V.str (Str.ofString "and"), V.ref p4]) = H11 at s11 h11 ⊢
      have em : ((m : Nat) : Int) - 1 = ((m - 1 : Nat) : Int) := by omega
      rw [em] at h8
      have sB := s10.trans s11
      have sA := s9.trans sB
      refine q _ H11 ((D6.same ((s7.trans s8).trans sA)).mono (by omega)) (fr05.trans (Fr.of (s6.trans ((s7.trans s8).trans sA)))) (FmAt.op (fs := [.inp 0, .no (.inp (m - 1))]) true h11 (s11 _ _ h10) (.cons (.tup ((s8.trans sA) _ _ h7) (.cons (.str _) (.cons (.int _) .nil))) (.cons (.tup (sB _ _ h9) (.cons (.str _) (.cons (.tup (sA _ _ h8) (.cons (.str _) (.cons (.int _) .nil))) .nil))) .nil)) (Nat.le_refl 2) (by show 2 ≤ 4; decide) (by show (decide (0 < m) && (decide (m - 1 < m) && true)) = true; rw [decide_eq_true (by omega), decide_eq_true (by omega)]; rfl) (by show 1 + (1 + ((1 + 1) + 0)) ≤ 40; decide) (by show max 1 (max (1 + 1) 0) + 1 ≤ 11; decide))
    · have small : ¬ ((f.cnt : Nat) : Int) > 40 := fun z => small (decide_eq_true z)
      exact ⟨v, rfl, q v H6 ((D5.same s6).mono (by omega)) (fr05.trans (Fr.of s6)) ⟨f, tk.same s6, ok, by omega, by omega⟩⟩

end
end Gk

set_option Elab.async false
set_option linter.all false
set_option maxRecDepth 100000
set_option maxHeartbeats 1000000
set_option pp.maxSteps 1500
set_option pp.deepTerms false
namespace Gk
open PySem PySem.Spec PyProof.Rows L2
section
variable {P : Program} {w : World} {K : PySem.W.Frag} {mg : Str → Option Value} {base : Heap}
/-! ### the worth of a form -/
mutual
def Fm.wo (r : List Int) : Fm → Int
  | .st b => if b = true then 1 else 0
  | .inp i => r.getD i 0
  | .no f => 1 - f.wo r
  | .op c fs => if c = true then (if 0 ∈ Fm.wos r fs then 0 else 1) else (if 1 ∈ Fm.wos r fs then 1 else 0)
def Fm.wos (r : List Int) : List Fm → List Int
  | [] => []
  | f :: fs => f.wo r :: Fm.wos r fs
end
theorem Fm.wos_map (r : List Int) : ∀ fs : List Fm, Fm.wos r fs = fs.map (Fm.wo r)
  | [] => rfl
  | f :: fs => by
    show f.wo r :: Fm.wos r fs = _
    rw [Fm.wos_map r fs]
    rfl
mutual
theorem Fm.wo01 {r : List Int} {m : Nat} (hr : Row01 r) (hl : r.length = m) : ∀ {f : Fm}, f.ok m = true → f.wo r = 0 ∨ f.wo r = 1
  | .st b, _ => by cases b <;> first | exact .inl rfl | exact .inr rfl
  | .inp i, h => by
    have h : i < m := of_decide_eq_true h
    have e : r[i]? = some (r.getD i 0) := by
      rw [List.getD_eq_getElem?_getD, List.getElem?_eq_getElem (by omega)]
      rfl
    exact hr _ (List.mem_of_getElem? e)
  | .no f, h => by
    have h := Fm.wo01 hr hl (f := f) h
    show 1 - f.wo r = 0 ∨ 1 - f.wo r = 1
    omega
  | .op c fs, _ => by
    show (if c = true then (if 0 ∈ Fm.wos r fs then (0 : Int) else 1) else (if 1 ∈ Fm.wos r fs then 1 else 0)) = 0 ∨ (if c = true then (if 0 ∈ Fm.wos r fs then (0 : Int) else 1) else (if 1 ∈ Fm.wos r fs then 1 else 0)) = 1
    repeat' split
    all_goals first | exact .inl rfl | exact .inr rfl
end
theorem still_get {K : PySem.W.Frag} {a : Addr} (at_ : ∀ z : PySem.Str, KdS.At K a [(("one" : PySem.Str), KdS.Kv.i 1), (("nought" : PySem.Str), KdS.Kv.i 0)] z) (z : Str) : ∃ (r : Option Value) (v : V), PySem.W.nsIn K a z = some r ∧ RelV v (r.getD .none) ∧ ((z = wOne ∧ v = .int 1) ∨ (z = wNou ∧ v = .int 0) ∨ (z ≠ wOne ∧ z ≠ wNou ∧ v = .non)) := by
  obtain ⟨r, h1, h2⟩ := at_ z
  rcases h2 with ⟨kv, u, f1, f2, f3⟩ | ⟨f1, f2⟩
  · subst f2
    unfold KdS.find at f1
    by_cases c : (Str.ofString "one") = z
    · rw [if_pos c] at f1
      cases Option.some.inj f1
      cases u <;> try cases f3
      rename_i j t
      have e : j = 1 := of_decide_eq_true f3
      exact ⟨_, .int 1, h1, ⟨t, by rw [← e]; rfl⟩, .inl ⟨c.symm, rfl⟩⟩
    · rw [if_neg c] at f1
      unfold KdS.find at f1
      by_cases c2 : (Str.ofString "nought") = z
      · rw [if_pos c2] at f1
        cases Option.some.inj f1
        cases u <;> try cases f3
        rename_i j t
        have e : j = 0 := of_decide_eq_true f3
        exact ⟨_, .int 0, h1, ⟨t, by rw [← e]; rfl⟩, .inr (.inl ⟨c2.symm, rfl⟩)⟩
      · rw [if_neg c2] at f1
        cases f1
  · subst f2
    refine ⟨none, .non, h1, rfl, .inr (.inr ⟨fun e => ?_, fun e => ?_, rfl⟩)⟩
    · subst e
      revert f1
      decide +kernel
    · subst e
      revert f1
      decide +kernel
def sp_still_worth (K : PySem.W.Frag) : Sp := fun vs H Q _ => ∃ (a : Addr) (z : Str) (r : List V), vs = [.ref a] ∧ H a = some (.tup (.str z :: r)) ∧ (z = wOne → Q (.int 1) H) ∧ (z = wNou → Q (.int 0) H) ∧ (z ≠ wOne → z ≠ wNou → Q .non H)
theorem ok_still_worth (T : Tx w K mg) : FnOk P w K mg base CX0 1 T.f_still_worth T.fd_still_worth ["form"] (sp_still_worth K) := by
  refine T.F_still_worth.ok sc_still_worth (fun vs H Q E h => ?_) (fun cdv A outer s H vs Q E hr h => ?_)
  · obtain ⟨a, z, r, rfl, _⟩ := h
    rfl
  · obtain ⟨a, z, rs, rfl, ha, q1, q2, q3⟩ := h
    refine ⟨_, (pss_one (ps_ret (KdG.pe_kget T.kd_STILL.choose_spec.choose_spec (pe_glob (v := .ref T.A_STILL) (by rfl) T.gA_STILL rfl) (pe_ix ix_tup (pv 0) pe_int (fun _ _ => rfl)) ⟨rfl, rfl, rfl, rfl⟩))), ?_⟩
    obtain ⟨r, v, e1, rv, cases3⟩ := still_get T.kv_STILL z
    refine ⟨rfl, .ref a, rfl, a, _, ((0 : Nat) : Int), .str z, rfl, rfl, SqT.of ha, atI_nat rfl, z, r, v, rfl, e1, rv, ?_⟩
    rcases cases3 with ⟨e, rfl⟩ | ⟨e, rfl⟩ | ⟨e, e', rfl⟩
    · exact q1 e
    · exact q2 e
    · exact q3 e e'
def sp_worth (K : PySem.W.Frag) (e : Nat) : Sp := fun vs H Q _ => ∃ (v : V) (f : Fm) (m : Nat) (a : Addr) (r : List Int), vs = [v, .ref a] ∧ Tk H v f.d ∧ f.ok m = true ∧ f.dep ≤ e ∧ H a = some (.tup (r.map V.int)) ∧ r.length = m ∧ Row01 r ∧ ∀ H', Same H H' → Q (.int (f.wo r)) H'

end
end Gk

set_option Elab.async false
set_option linter.all false
set_option maxRecDepth 100000
set_option maxHeartbeats 1000000
set_option pp.maxSteps 1500
set_option pp.deepTerms false
namespace Gk
open PySem PySem.Spec PyProof.Rows L2
section
variable {P : Program} {w : World} {K : PySem.W.Frag} {mg : Str → Option Value} {base : Heap}
/-! ### .. by the law -/
def sp_l_worth (K : PySem.W.Frag) (e : Nat) : Sp := fun vs H Q _ => ∃ (v : V) (f : Fm) (m : Nat) (a : Addr) (r : List Int), vs = [v, .ref a] ∧ Tk H v f.d ∧ f.ok m = true ∧ f.dep ≤ e ∧ H a = some (.tup (r.map V.int)) ∧ r.length = m ∧ Row01 r ∧ ∀ H', Same H H' → Q (.int (f.wo r)) H'
theorem ok_l_worthE (T : Tx w K mg) : ∀ e : Nat, FnOk P w K mg base CX0 (e + 2) T.f_worth T.fd_worth ["_law_form_here", "_law_row"] (sp_l_worth K e)
  | 0 => ⟨fun _ _ _ _ h => by obtain ⟨_, f, _, _, _, _, _, _, h, _⟩ := h; exact absurd h (by have := Fm.dep_pos f; omega), fun _ _ _ _ _ _ _ _ _ _ _ _ _ h => by obtain ⟨_, f, _, _, _, _, _, _, h, _⟩ := h; exact absurd h (by have := Fm.dep_pos f; omega)⟩
  | e + 1 => by
    have ih := ok_l_worthE T e
    refine T.F_worth.ok sc_worth (fun vs H Q E h => ?_) (fun cdv A outer s H vs Q E hr h => ?_)
    · obtain ⟨v, f, m, a, r, rfl, _⟩ := h
      rfl
    · obtain ⟨v, f, m, ar, r, rfl, tk, ok, de, har, hl, hr01, q⟩ := h
      refine ⟨_, (pss_cons (ps_set (i := 2) sc_worth.nd rfl (by first | exact .inl rfl | exact .inr rfl) (pe_ix ix_tup (pv 0) pe_int (fun _ _ => rfl))) (pss_cons (ps_if (pt_cmpR op_eq (pv 2) pe_str (nomark _)) (pss_one (ps_ret (pe_ix ix_tup (pv 1) (pe_ix ix_tup (pv 0) pe_int (fun _ _ => rfl)) (fun _ _ => rfl)))) pss_nil) (pss_cons (ps_if (pt_cmpR op_in_seq (pv 2) (pe_tup (pa_cons pe_str (pa_cons pe_str pa_nil))) rfl) (pss_one (ps_ret (pe_callTy call_int1 (by rfl) T.m_int (by decide +kernel) (pa_cons (pe_cmpR op_eq (pv 2) pe_str (nomark _)) pa_nil)))) pss_nil) (pss_cons (ps_setLc (i := 3) (own := [("_law_part", 4)]) (by rfl) sc_worth.nd rfl rfl (sw_true rfl rfl rfl (by decide +kernel)) (pi_tup (pe_call (ok_inner T) (hr.mono (by omega)) (by rfl) T.g_inner T.F_inner.kp T.b_inner .nil pass0 (pa_cons (pv 0) pa_nil))) (blkOk_by (own := [("_law_part", 4)]) (N := ["_law_form_here", "_law_row", "_law_word_here", "_law_told", "_law_part"]) (sc := defScope s_worth) (by decide +kernel)) (fun _ _ _ _ _ => (pg_name (i := 4) sc_worth.nd rfl (by first | exact .inl rfl | exact .inr rfl))) (fun _ _ _ _ _ => pts_nil) (fun _ _ _ _ _ => (pe_call (ih) (hr.mono (by omega)) (by rfl) T.g_worth T.F_worth.kp T.b_worth .nil pass0 (pa_cons (pv 4) (pa_cons (pv 1) pa_nil))))) (pss_cons (ps_if (pt_cmpR op_eq (pv 2) pe_str (nomark _)) (pss_one (ps_ret (pe_op op_sub pe_int (pe_ix ix_list (pv 3) pe_int (fun _ _ => rfl))))) pss_nil) (pss_cons (ps_if (pt_cmpR op_eq (pv 2) pe_str (nomark _)) (pss_one (ps_ret (pe_callTy call_int1 (by rfl) T.m_int (by decide +kernel) (pa_cons (pe_cmpR op_notIn_seq pe_int (pv 3) rfl) pa_nil)))) pss_nil) (pss_one (ps_ret (pe_callTy call_int1 (by rfl) T.m_int (by decide +kernel) (pa_cons (pe_cmpR op_in_seq pe_int (pv 3) rfl) pa_nil)))))))))), ?_⟩
      have key : (∃ b, f = .st b) ∨ (∃ i, f = .inp i) ∨ ∃ a z rest, v = .ref a ∧ H a = some (.tup (.str z :: rest)) ∧ z ≠ wIn ∧ z ≠ wOne ∧ z ≠ wNou ∧ ((z = wNot ∧ ∃ g, f = .no g) ∨ ∃ c fs, f = .op c fs ∧ z = wOp c ∧ fs ≠ []) := by
        cases f with
        | st b => exact .inl ⟨b, rfl⟩
        | inp i => exact .inr (.inl ⟨i, rfl⟩)
        | no f =>
          obtain ⟨a, w', rfl, ha, _⟩ := Fm.tk_no tk
          exact .inr (.inr ⟨a, _, _, rfl, ha, by decide +kernel, by decide +kernel, by decide +kernel, .inl ⟨rfl, f, rfl⟩⟩)
        | op c fs =>
          obtain ⟨a, b, ys, rfl, ha, _⟩ := Fm.tk_op tk
          refine .inr (.inr ⟨a, _, _, rfl, ha, by cases c <;> decide +kernel, by cases c <;> decide +kernel, by cases c <;> decide +kernel, .inr ⟨c, fs, rfl, rfl, fun z => ?_⟩⟩)
          subst z
          cases ok
      have two : ∀ z : Str, (if false = true then !inV (.str z) [V.str wOne, V.str wNou] else inV (.str z) [V.str wOne, V.str wNou]) = (decide (z = wOne) || decide (z = wNou)) := fun z => by
        rw [if_neg (by decide)]
        show (decide (wOne = z) || (decide (wNou = z) || false)) = _
        rw [Bool.or_false, decide_eq_decide.mpr (eq_comm (a := wOne)), decide_eq_decide.mpr (eq_comm (a := wNou))]
      rcases key with ⟨b, rfl⟩ | ⟨i, rfl⟩ | ⟨a, z, rest, rfl, ha, n1, n2, n3, sorts⟩
      · obtain ⟨a, rfl, ha⟩ := Fm.tk_st tk
        refine ⟨.ref a, rfl, a, _, 0, .str (wSt b), rfl, rfl, SqT.of ha, rfl, ?_⟩
        refine ⟨.str (wSt b), rfl, rfl, _, rfl, ite2 (fun e => absurd (V.str.inj (of_decide_eq_true e)) (by cases b <;> decide +kernel)) (fun _ => ?_)⟩
        refine ⟨.str (wSt b), rfl, sl2, fun p np => ?_⟩
        have s1 := same_upd (o := HO.tup [V.str wOne, V.str wNou]) np
        have q := q _ s1
        refine ⟨p, _, rfl, .inr (SqT.of upd_same), rfl, rfl, _, rfl, ite2 (fun _ => ?_) (fun k => absurd ((two (wSt b)).trans (by cases b <;> decide +kernel)) k)⟩
        cases b
        · exact ⟨.str (wSt false), rfl, rfl, .inr ⟨_, rfl, by rw [decide_eq_false (show ¬ V.str (wSt false) = V.str (Str.ofString "one") from fun z => absurd (V.str.inj z) (by decide +kernel))]; exact q⟩⟩
        · exact ⟨.str (wSt true), rfl, rfl, .inr ⟨_, rfl, by rw [decide_eq_true (show V.str (wSt true) = V.str (Str.ofString "one") from rfl)]; exact q⟩⟩
      · obtain ⟨a, rfl, ha⟩ := Fm.tk_inp tk
        refine ⟨.ref a, rfl, a, _, 0, .str wIn, rfl, rfl, SqT.of ha, rfl, ?_⟩
        refine ⟨.str wIn, rfl, rfl, _, rfl, ite2 (fun _ => ?_) (fun k => absurd (decide_eq_true rfl) k)⟩
        have hi : i < m := of_decide_eq_true ok
        refine ⟨.ref ar, rfl, .ref a, rfl, a, _, 1, .int i, rfl, rfl, SqT.of ha, rfl, ar, _, i, .int (r.getD i 0), rfl, rfl, SqT.of har, atI_nat ?_, q H (Same.refl _)⟩
        rw [List.getElem?_map, List.getElem?_eq_getElem (by omega), List.getD_eq_getElem?_getD, List.getElem?_eq_getElem (by omega)]
        rfl
      refine ⟨.ref a, rfl, a, _, ((0 : Nat) : Int), .str z, rfl, rfl, SqT.of ha, atI_nat rfl, ?_⟩
      refine ⟨.str z, rfl, rfl, _, rfl, ite2 (fun e => absurd (V.str.inj (of_decide_eq_true e)) n1) (fun _ => ?_)⟩
      refine ⟨.str z, rfl, sl2, fun p np => ?_⟩
      have s0 := same_upd (o := HO.tup [V.str wOne, V.str wNou]) np
      refine ⟨p, _, rfl, .inr (SqT.of upd_same), rfl, rfl, _, rfl, ite2 (fun k => ?_) (fun _ => ?_)⟩
      · have k := (two z).symm.trans k
        rw [decide_eq_false n2, decide_eq_false n3] at k
        cases k
      refine ⟨.ref a, rfl, .ref a, f, rfl, tk.same s0, fun H1 b xs s1 hb txs => ⟨b, rfl, ⟨_, SqT.of hb⟩, fun D nD => ?_⟩⟩
      replace s1 := s0.trans s1
      have lxs : xs.length = f.inner.length := by rw [txs.length, List.length_map]
      have few : f.inner.length ≤ 4 := Fm.inner_few ok
      have har1 := s1 _ _ har
      refine lc_tup (K := K) (a := b) (xs := xs) (fun i H' => Same H1 (hd1 D H') ∧ H' D = some (.lst (((f.inner.take i).map (Fm.wo r)).map V.int))) ⟨hd1_of (same_upd nD) nD, upd_same⟩ (fun i H' _ z => SqT.of (hd1_le _ _ (z.1 _ _ hb))) ?_ ?_
      · rintro i u H2 hu ⟨s2, hD⟩
        obtain ⟨g, hg, tg⟩ := txs.at hu
        have gm := List.mem_of_getElem? hg
        have k2 : Same H1 H2 := fun b o z => hd1_le _ _ (s2 b o z)
        have il := (List.getElem?_eq_some_iff.mp hg).1
        refine ⟨rfl, u, rfl, .ref ar, rfl, u, g, m, ar, r, rfl, tg.same k2, Fm.inner_ok ok gm, by have := Fm.inner_dep gm; omega, k2 _ _ har1, hl, hr01, fun H3 s3 => ⟨_, s3 _ _ hD, ?_, (s2.trans (hd1_same s3)).trans hd1_upd, ?_⟩⟩
        · rw [List.length_map, List.length_map, List.length_take]
          exact Nat.lt_of_le_of_lt (show min i f.inner.length ≤ 4 by omega) (by decide)
        · rw [upd_same, List.take_add_one, hg, List.map_append, List.map_append]
          rfl
      · rintro H2 ⟨s2, hD⟩
        rw [lxs, List.take_length] at hD
        have k2 : Same H1 H2 := fun b o z => hd1_le _ _ (s2 b o z)
        have q := q H2 (s1.trans k2)
        rcases sorts with ⟨rfl, g, rfl⟩ | ⟨c, fs, rfl, rfl, nf⟩
        · refine ⟨.str wNot, rfl, rfl, _, rfl, ite2 (fun _ => ?_) (fun k => absurd (decide_eq_true rfl) k)⟩
          exact ⟨.ref D, rfl, D, _, 0, .int (g.wo r), rfl, rfl, SqL.of hD, rfl, _, _, rfl, rfl, q⟩
        · have ei : (Fm.op c fs).inner = fs := rfl
          rw [ei] at hD
          have isin : ∀ (k : Int) (ns : List Int), inV (.int k) (ns.map V.int) = decide (k ∈ ns) := fun k ns => by
            induction ns with
            | nil => rfl
            | cons y s ih =>
              show (eqV (.int y) (.int k) || inV (.int k) (s.map V.int)) = _
              rw [ih]
              have e : eqV (.int y) (.int k) = decide (y = k) := by
                first
                  | rfl
                  | simp [eqV]
              rw [e, Bool.eq_iff_iff, Bool.or_eq_true, decide_eq_true_eq, decide_eq_true_eq, decide_eq_true_eq, List.mem_cons]
              exact ⟨fun h => h.imp Eq.symm id, fun h => h.imp Eq.symm id⟩
          refine ⟨.str (wOp c), rfl, rfl, _, rfl, ite2 (fun e => absurd (V.str.inj (of_decide_eq_true e)) (by cases c <;> decide +kernel)) (fun _ => ?_)⟩
          have qe : (Fm.op c fs).wo r = if c = true then (if 0 ∈ fs.map (Fm.wo r) then 0 else 1) else (if 1 ∈ fs.map (Fm.wo r) then 1 else 0) := by
            rw [← Fm.wos_map]
            rfl
          rw [qe] at q
          have fl : (fs.map (Fm.wo r)).map V.int = (fs.map (Fm.wo r)).map V.int := rfl
          have scal : ∀ ns : List Int, (ns.map V.int).all flatV = true := fun ns => List.all_eq_true.mpr fun x hx => by
            obtain ⟨y, _, rfl⟩ := List.mem_map.mp hx
            rfl
          cases c with
          | true =>
            refine ⟨.str wAnd, rfl, rfl, _, rfl, ite2 (fun _ => ?_) (fun k => absurd (decide_eq_true rfl) k)⟩
            rw [if_pos rfl] at q
            refine ⟨.ref D, rfl, D, _, rfl, .inl (SqL.of hD), rfl, scal _, .inr ⟨_, rfl, ?_⟩⟩
            rw [if_pos rfl, isin]
            by_cases z : 0 ∈ fs.map (Fm.wo r)
            · rw [if_pos z] at q
              rw [decide_eq_true z]
              exact q
            · rw [if_neg z] at q
              rw [decide_eq_false z]
              exact q
          | false =>
            refine ⟨.str wOr, rfl, rfl, _, rfl, ite2 (fun k => absurd (V.str.inj (of_decide_eq_true k)) (by decide +kernel)) (fun _ => ?_)⟩
            rw [if_neg (by decide)] at q
            refine ⟨.ref D, rfl, D, _, rfl, .inl (SqL.of hD), rfl, scal _, .inr ⟨_, rfl, ?_⟩⟩
            rw [if_neg Bool.false_ne_true, isin]
            by_cases z : 1 ∈ fs.map (Fm.wo r)
            · rw [if_pos z] at q
              rw [decide_eq_true z]
              exact q
            · rw [if_neg z] at q
              rw [decide_eq_false z]
              exact q

end
end Gk

set_option Elab.async false
set_option linter.all false
set_option maxRecDepth 100000
set_option maxHeartbeats 1000000
set_option pp.maxSteps 1500
set_option pp.deepTerms false
namespace Gk
open PySem PySem.Spec PyProof.Rows L2
/-! ### sum(elt for tg in iter ..), of ints -/
namespace GxS
open PySem PySem.Spec PyProof.Rows L2
section
variable {X : Cx} {A A' : Around} {s_0 : Shared} {H_0 : Hp} {cenv : Env} {fp : List Addr} {tn : Nat → Heap → Prop} {ga S : Addr} {gn n : Nat} {go : Obj}
def ACs (ga : Addr) (go : Obj) (S : Addr) (a : Int) (cp : List (Addr × Obj)) : Prop := ∃ (t : Tok) (c : Nat), cp = [(ga, go), (S, lstObj #[.int a t] c)]
def YdS (a : Int) (y : V) (H : Hp) (Nx : Int → Hp → Prop) : Prop := ∃ i : Int, y = .int i ∧ InLong i ∧ InLong (a + i) ∧ Nx (a + i) H
theorem lst_one {a a' : Int} {t t' : Tok} {c c' : Nat} (h : some (lstObj #[Value.int a t] c) = some (lstObj #[Value.int a' t'] c')) : a' = a := by
  have h1 := congrArg Obj.data (Option.some.inj h)
  have h2 : #[Value.int a t] = #[Value.int a' t'] := by
    have h1 : (lstObj #[Value.int a t] c).data = (lstObj #[Value.int a' t'] c').data := h1
    unfold lstObj at h1
    injection h1
  have h3 : [Value.int a t] = [Value.int a' t'] := congrArg Array.toList h2
  have h4 := (List.cons.inj h3).1
  injection h4 with h5 _
  exact h5.symm
theorem sum_gx {R : Result → Shared → Prop} {End : Int → Hp → Prop} (hh : A.handled = none) (hroom : A.depth < recursionLimit) (hG : GenObj go gn) (hSa : S ≠ ga) (far : (gblk X A' s_0 H_0 cenv fp).s_0.heap.objs.size ≤ S) (hSc : ∀ x c, cenv.cells.lookup x = some c → c ≠ S)
    (keep : ∀ i h h', tn i h → (∀ b ∈ fp, ∀ o, h.get? b = some o → h'.get? b = some o) → tn i h') (hSf : ∀ b ∈ fp, b ≠ S)
    (yes : ∀ (σ : L2.St) (H : Hp) (a : Int) (t : Tok) (cp : List (Addr × Obj)) (s1 : Shared), Inv (gblk X A' s_0 H_0 cenv fp) cp σ H s1 → End a H → R (.ok (.ret (.int a t))) s1) :
    ∀ (n : Nat) (s : Shared) (a : Int) (t : Tok) (c : Nat), s.heap.NoLimit → s.heap.get? ga = some go → s.heap.get? S = some (lstObj #[.int a t] c) → (∃ gs, s.gens[gn]? = some gs ∧ gs.Goes (model X.prog X.w) A.in1.in1 (RG (gblk X A' s_0 H_0 cenv fp) (ACs ga go S) End)
      (YG (gblk X A' s_0 H_0 cenv fp) fp tn (ACs ga go S) YdS) n (.send .none) (s.setGen gn .running)) →
      codeAny (model X.prog X.w) A (.builtin "sum.loop" ⟨[.ref ga, .ref S, rawInt 0, rawInt 0], []⟩) R s := by
  intro n
  induction n using Nat.strongRecOn with
  | ind n ih =>
    rintro s a t c hl e hS ⟨gs, hgs, hgo⟩
    refine codeAny_builtin F.entry_sum_loop ?_
    rw [Around.under_plainId F.plain_sum_loop _]
    show wpAny _ A.in1 (seqItems? (.ref S) >>= _) _ _ s
    refine wpAny_bind (wpAny_seqItems hS rfl ?_)
    show wpAny _ A.in1 (tryCatch (pyNext (.ref ga)) _ >>= _) _ _ s
    refine wpAny_bind (wpAny_tryCatch (next_gx2 (A := A.in1) hh hroom hl hG e hgs hgo (fun a' x σ H i cp Nx v s1 gs' r hac tie I st hy at_ kap => ?_) fun a' σ H cp s1 hac tie I q => ?_))
    · obtain ⟨t', c', rfl⟩ := hac
      have e1 := tie (S, lstObj #[.int a' t'] c') (List.mem_cons_of_mem _ List.mem_cons_self)
      rw [hS] at e1
      obtain rfl := lst_one e1
      obtain ⟨j, rfl, ⟨f1, f2⟩, ⟨f3, f4⟩, nx⟩ := hy
      obtain ⟨tk, rfl⟩ := (show ∃ t, v = Value.int j t from r)
      have pS := I.pin (S, lstObj #[.int a' t'] c') (List.mem_append_right _ (List.mem_cons_of_mem _ List.mem_cons_self))
      have I0 : Inv (gblk X A' s_0 H_0 cenv fp) [(ga, go)] σ H s1 := I.pins_of fun p hp => I.pin p (List.mem_append_right _ (by rw [List.mem_singleton.mp hp]; exact List.mem_cons_self))
      have I1 := I0.turned (t' := s1.toks + 1) (h' := s1.heap.update S (Obj.mapSeq (fun _ => #[Value.int (a' + j) s1.toks]))) (it := S) (fun b o hb q => (Heap.get?_update_other _ _ (Ne.symm hb)).trans q) pS.2.1 pS.2.2.1 (.inr far) hSc (fun p hp => by rw [List.mem_singleton.mp (show p ∈ [(ga, go)] by simpa using hp)]; exact Ne.symm hSa)
      have e2 := Heap.get?_update_self (Obj.mapSeq (fun _ => #[Value.int (a' + j) s1.toks])) pS.1 rfl
      have pG := I1.pin (ga, go) (List.mem_append_right _ List.mem_cons_self)
      have hc : ((decide (-(2 ^ 63) ≤ j) && decide (j < 2 ^ 63)) && (decide (-(2 ^ 63) ≤ a' + j) && decide (a' + j < 2 ^ 63))) = true := by
        simp only [Bool.and_eq_true, decide_eq_true_eq]
        exact ⟨⟨f1, f2⟩, f3, f4⟩
      show wpAny _ A.in1 (if (_ : Bool) = true then (mkInt (a' + j) >>= _) else _) _ _ _
      split
      · refine wpAny_bind (wpAny_mkInt ?_)
        show wpAny _ A.in1 (updateSeq S (fun _ => #[Value.int (a' + j) s1.toks]) >>= _) _ _ _
        refine wpAny_bind ?_
        obtain ⟨m, hm, z⟩ := kap (a' + j) [(ga, go), (S, _)] (({ s1 with toks := s1.toks + 1, heap := s1.heap.update S (Obj.mapSeq (fun _ => #[Value.int (a' + j) s1.toks])) } : Shared).setGen gn .running) nx ⟨_, _, rfl⟩ (inv_moved (I1.pins_of fun p hp => by
          rcases List.mem_cons.mp hp with z | z
          · rw [z]; exact pG
          · rw [List.mem_singleton.mp z]; exact ⟨e2, pS.2.1, pS.2.2.1, pS.2.2.2.1, fun v q => by cases q⟩) rfl (allBare_setGen (s := { s1 with toks := s1.toks + 1, heap := s1.heap.update S (Obj.mapSeq (fun _ => #[Value.int (a' + j) s1.toks])) }) I1.bare rfl) fun _ _ q => q) (keep _ _ _ st fun b hb o q => (Heap.get?_update_other _ _ (Ne.symm (hSf b hb))).trans q)
        refine wpAny_updateSeq pS.1 rfl (wpAny_pure ⟨plainId_quiet F.plain_sum_loop _, ih m (by omega) _ (a' + j) s1.toks _ I1.nolimit pG.1 e2 ⟨gs', at_, z⟩⟩)
      · rename_i hneg
        exact absurd hc hneg
    · obtain ⟨t', c', rfl⟩ := hac
      have e1 := tie (S, lstObj #[.int a' t'] c') (List.mem_cons_of_mem _ List.mem_cons_self)
      rw [hS] at e1
      obtain rfl := lst_one e1
      exact wpAny_pure (yes σ H a' t _ s1 I q)
end
section
variable {X : Cx}
def tSumX (P : Addr) (wi : TI) (g : TG) (tt : TT) (te : TE) (vs : List Nat) : TE := fun σ H Q => wi σ H fun J H1 => GxR.TabG H1 P ∧ ∀ H2, GxR.Tabbed P H1 H2 → ∃ W : Nat → Nat → Int → Hp → Prop, (∃ m, W 0 m 0 H2) ∧
  tGx J g tt te (wipe σ vs) vs (fun a H => Q (.int a) H) YdS W
theorem pe_sumX {c P : Addr} {elt tg iter : Expr} {ifs : List Expr} {p pos gpos : Pos} {scope : Scope} {own : List (Str × Nat)} {wi : TI} {g : TG} {tt : TT} {te : TE} {k : Nat}
    (hr : Room (k + 1) X.A) (hc : X.calm = true) (hN : X.N.Nodup) (hgl : Gl X "sum") (hm : X.mg "sum" = none) (hb : bootBuiltins "sum" = some (.builtin "sum")) (TB : GxR.TabB X.base X.mg c P) (hcode : X.env.code = .ref c)
    (hco : scope.isCoroutine = false) (hdot : scope.names.lookup (".0" : Str) = some NameKind.local) (nocell : ∀ y ∈ scope.names, y.2 ≠ .cell) (ok : BlkOk X.N X.env.scope scope own) (hi : PI X tg iter wi)
    (hg : ∀ (A' : Around) (s : Shared) (H : Hp) (C : Addr) (cl : List (Str × Addr)) (code : Value) (fp : List Addr), Room k A' → A'.guards = X.A.guards → PG (gblk X A' s H (genEnv scope cl C code builtinsNs X.env) fp) tg g)
    (ht : ∀ (A' : Around) (s : Shared) (H : Hp) (C : Addr) (cl : List (Str × Addr)) (code : Value) (fp : List Addr), Room k A' → A'.guards = X.A.guards → PTs (gblk X A' s H (genEnv scope cl C code builtinsNs X.env) fp) ifs tt)
    (he : ∀ (A' : Around) (s : Shared) (H : Hp) (C : Addr) (cl : List (Str × Addr)) (code : Value) (fp : List Addr), Room k A' → A'.guards = X.A.guards → PE (gblk X A' s H (genEnv scope cl C code builtinsNs X.env) fp) elt te)
    (hs : ∀ v, genFold iter X.env v = pure v)
    (hst : starEach [.GeneratorExp elt [⟨tg, iter, ifs, 0⟩] scope gpos] X.env = (false, eval (.GeneratorExp elt [⟨tg, iter, ifs, 0⟩] scope gpos) X.env) :: starEach [] X.env := by rfl) :
    PE X (.Call (.Name "sum" p) [.GeneratorExp elt [⟨tg, iter, ifs, 0⟩] scope gpos] [] pos) (tSumX P wi g tt te (own.map (·.2))) := by
  refine ⟨fun pins s σ H Q I h => ?_⟩
  refine wpAny_Call_Name_kw (ld_blt I hgl hm hb ?_)
  refine PyProof.Rows.callWith_builtin1 ?_ hst (by rfl)
  rw [hst]
  show wpAny _ _ (spliced ((false, eval (.GeneratorExp elt [⟨tg, iter, ifs, 0⟩] scope gpos) X.env) :: backTo pos (starEach [] X.env))) _ _ s
  refine Calls.spliced_cons (gx_make (A := X.A.in1.in1) hr ⟨rfl, rfl, rfl, rfl, (by show X.A.units + 1 + 1 ≤ _; omega)⟩ hc hN TB hcode hco hdot nocell ok hi hg ht he hs I h fun J H1 H2 u s5 hR hT hG => ?_)
  obtain ⟨A', s_0, H_0, cenv, fp, ga, gn, go, tn, gs, rfl, hGO, hgs, hbare, I5, st5, nf, hlt, keep, back, goes⟩ := hG
  obtain ⟨W, ⟨m, w0⟩, turn⟩ := hR H2 hT
  refine Calls.spliced_nil ?_
  have pin5 := (I5.pin (ga, go) (List.mem_append_right _ List.mem_cons_self)).1
  have glt : ga < s5.heap.objs.size := Heap.lt_size pin5
  have hSI : s5.heap.objs.size ≠ ga := Nat.ne_of_gt glt
  refine call_function_tree F.kind_sum F.plain_sum F.entry_sum (F.args_sum1 _) ?_
  unfold Builtin.«sum»
  simp only [List.length_cons, List.length_nil]
  rw [if_neg (by decide)]
  refine wpAny_bind (wpAny_of_eq (show Builtin.Builtins.bindParams "sum" ["start"] 0 { } = pure [none] from rfl) ?_)
  refine wpAny_bind (wpAny_pyIter_gen (hGO.isGen pin5) ?_)
  refine wpAny_bind (wpAny_mkInt ?_)
  refine wpAny_bind (wpAny_pure ?_)
  simp only [List.forIn_cons, List.forIn_nil]
  refine wpAny_bind (wpAny_bind (wpAny_bind (wpAny_isInstance (T := "int") (b := false) (typeIs_int _ _ _) PySem.sub_int_str ?_)))
  simp only [Bool.false_eq_true, if_false]
  refine wpAny_pure (wpAny_bind (wpAny_bind (wpAny_isInstance (T := "int") (b := false) (typeIs_int _ _ _) PySem.sub_int_bytes ?_)))
  simp only [Bool.false_eq_true, if_false]
  refine wpAny_pure (wpAny_bind (wpAny_bind (wpAny_isInstance (T := "int") (b := false) (typeIs_int _ _ _) PySem.sub_int_bytearray ?_)))
  simp only [Bool.false_eq_true, if_false]
  refine wpAny_pure (wpAny_pure ?_)
  refine wpAny_bind (wpAny_newObj_type ?_)
  have k1 : ∀ b o, s5.heap.get? b = some o → (s5.heap.push { cls := .type "list", data := .seq [Value.int 0 s5.toks].toArray }).get? b = some o := fun b o e => Heap.get?_push_of_some _ e
  have hS₁ : (s5.heap.push { cls := .type "list", data := .seq [Value.int 0 s5.toks].toArray }).get? s5.heap.objs.size = some (lstObj #[.int 0 s5.toks] 0) := Heap.get?_push_size _ rfl
  have fS : FpOk (gblk X A' s_0 H_0 cenv fp) [(ga, go)] H2 s5.heap.objs.size := I5.fpOk (Nat.le_refl _) (I5.hok.fresh (Nat.le_refl _))
  have hfS : ∀ b ∈ fp, b ≠ s5.heap.objs.size := fun b hb => Nat.ne_of_lt (Nat.lt_trans (hlt b hb) glt)
  have I6 := inv_moved (s' := { s5 with toks := s5.toks + 1, heap := s5.heap.push { cls := .type "list", data := .seq [Value.int 0 s5.toks].toArray } }) I5 rfl I5.bare k1
  refine wpAny_pure ⟨plainId_quiet F.plain_sum_loop _, sum_gx (A' := A') (s_0 := s_0) (H_0 := H_0) (cenv := cenv) (fp := fp) (tn := tn) (go := go) (gn := gn) (End := fun a H => Q (.int a) H) hr.hd hr.depth hGO hSI (Nat.le_trans I5.sz (Nat.le_refl _)) fS.2.2.2.2.1 keep hfS
    (fun σ' H' a t cp s1 I1 q => ⟨.int a, H', back _ _ _ _ I1, ⟨t, rfl⟩, q⟩) (m + 1) _ 0 s5.toks 0 I6.nolimit (k1 _ _ pin5) hS₁ ⟨gs, hgs, ?_⟩⟩
  refine goes Int (ACs ga go s5.heap.objs.size) _ YdS W m (m + 1) 0 [(ga, go), (s5.heap.objs.size, lstObj #[.int 0 s5.toks] 0)] _ turn w0 (Nat.lt_succ_self _) (fun a cp hac p hp b hb z => ?_) ⟨_, _, rfl⟩
    (inv_moved (I6.pins_of fun p hp => ?_) rfl (allBare_setGen (s := { s5 with toks := s5.toks + 1, heap := _ }) I5.bare rfl) fun _ _ q => q) (keep _ _ _ st5 fun b hb o q => k1 b o q)
  · obtain ⟨t, c, rfl⟩ := hac
    rcases List.mem_cons.mp hp with e | e
    · rw [e] at z
      exact absurd (hlt b hb) (by rw [← z]; exact Nat.lt_irrefl _)
    · rw [List.mem_singleton.mp e] at z
      exact hfS b hb z.symm
  · rcases List.mem_cons.mp hp with e | e
    · rw [e]
      exact I6.pin (ga, go) (List.mem_append_right _ List.mem_cons_self)
    · rw [List.mem_singleton.mp e]
      exact ⟨hS₁, fS.1, fS.2.1, fS.2.2.1, fun v q => by cases q⟩
end
end GxS

/-! ### min(elt for tg in iter ..), of ints -/
namespace GxM
open PySem PySem.Spec PyProof.Rows L2
section
variable {X : Cx} {A A' : Around} {s_0 : Shared} {H_0 : Hp} {cenv : Env} {fp : List Addr} {tn : Nat → Heap → Prop} {ga S : Addr} {gn n : Nat} {go : Obj}
/-- what the loop's box holds: nothing yet, or the least so far, twice -/
def boxM : Option Int → Tok → Array Value
  | none, _ => #[]
  | some m, t => #[.int m t, .int m t]
def ACm (ga : Addr) (go : Obj) (S : Addr) (a : Option Int) (cp : List (Addr × Obj)) : Prop := ∃ (t : Tok) (c : Nat), cp = [(ga, go), (S, lstObj (boxM a t) c)]
def lessM : Option Int → Int → Int
  | none, i => i
  | some m, i => if i < m then i else m
def YdM (a : Option Int) (y : V) (H : Hp) (Nx : Option Int → Hp → Prop) : Prop := ∃ i : Int, y = .int i ∧ Nx (some (lessM a i)) H
theorem box_one {a a' : Option Int} {t t' : Tok} {c c' : Nat} (h : some (lstObj (boxM a t) c) = some (lstObj (boxM a' t') c')) : a' = a := by
  have h1 : (lstObj (boxM a t) c).data = (lstObj (boxM a' t') c').data := congrArg Obj.data (Option.some.inj h)
  unfold lstObj at h1
  injection h1 with h2
  cases a with
  | none =>
    cases a' with
    | none => rfl
    | some m' => exact absurd (congrArg Array.size h2) (by show ¬ 0 = 2; decide)
  | some m =>
    cases a' with
    | none => exact absurd (congrArg Array.size h2) (by show ¬ 2 = 0; decide)
    | some m' =>
      have h3 : [Value.int m t, Value.int m t] = [Value.int m' t', Value.int m' t'] := congrArg Array.toList h2
      have h4 := (List.cons.inj h3).1
      injection h4 with h5 _
      rw [h5]
theorem cmp_lt {prog : Program} {w : World} {A : Around} {i j : Int} {t u : Tok} {s : Shared} {Q : Value → Shared → Prop} {E : Value → Shared → Prop} (h : Q (.bool (decide (i < j))) s) : wpAny (model prog w) A (richCompare .Lt (.int i t) (.int j u)) Q E s :=
  richCompare_gives (op := .Lt) (typeIs_int s _ t) (typeIs_int s _ u) F.slot_int_lt F.entry_int_lt (F.args_int_lt_2 _ _) (gives_int_lt _ _ t u) (fun x => nomatch x) h
theorem min_gx {R : Result → Shared → Prop} {End : Option Int → Hp → Prop} (hh : A.handled = none) (hroom : A.depth < recursionLimit) (hG : GenObj go gn) (hSa : S ≠ ga) (far : (gblk X A' s_0 H_0 cenv fp).s_0.heap.objs.size ≤ S) (hSc : ∀ x c, cenv.cells.lookup x = some c → c ≠ S)
    (keep : ∀ i h h', tn i h → (∀ b ∈ fp, ∀ o, h.get? b = some o → h'.get? b = some o) → tn i h') (hSf : ∀ b ∈ fp, b ≠ S) (noE : ∀ H, ¬ End none H)
    (yes : ∀ (σ : L2.St) (H : Hp) (m : Int) (t : Tok) (cp : List (Addr × Obj)) (s1 : Shared), Inv (gblk X A' s_0 H_0 cenv fp) cp σ H s1 → End (some m) H → R (.ok (.ret (.int m t))) s1) :
    ∀ (n : Nat) (s : Shared) (a : Option Int) (t : Tok) (c : Nat), s.heap.NoLimit → s.heap.get? ga = some go → s.heap.get? S = some (lstObj (boxM a t) c) → (∃ gs, s.gens[gn]? = some gs ∧ gs.Goes (model X.prog X.w) A.in1.in1 (RG (gblk X A' s_0 H_0 cenv fp) (ACm ga go S) End)
      (YG (gblk X A' s_0 H_0 cenv fp) fp tn (ACm ga go S) YdM) n (.send .none) (s.setGen gn .running)) →
      codeAny (model X.prog X.w) A (.builtin "min.loop" ⟨[.ref ga, .none, .ref S], []⟩) R s := by
  have nm : (toString "min" ++ toString ".loop" : String) = "min.loop" := by decide
  intro n
  induction n using Nat.strongRecOn with
  | ind n ih =>
    rintro s a t c hl e hS ⟨gs, hgs, hgo⟩
    refine codeAny_builtin F.entry_min_loop ?_
    rw [Around.under_plainId F.plain_min_loop _]
    show wpAny _ A.in1 (seqItems? (.ref S) >>= _) _ _ s
    refine wpAny_bind (wpAny_seqItems hS rfl ?_)
    show wpAny _ A.in1 (tryCatch (pyNext (.ref ga)) _ >>= _) _ _ s
    refine wpAny_bind (wpAny_tryCatch (next_gx2 (A := A.in1) hh hroom hl hG e hgs hgo (fun a' x σ H i cp Nx v s1 gs' r hac tie I st hy at_ kap => ?_) fun a' σ H cp s1 hac tie I q => ?_))
    · obtain ⟨t', c', rfl⟩ := hac
      have e1 := tie (S, lstObj (boxM a' t') c') (List.mem_cons_of_mem _ List.mem_cons_self)
      rw [hS] at e1
      obtain rfl := box_one e1
      obtain ⟨j, rfl, nx⟩ := hy
      obtain ⟨tk, rfl⟩ := (show ∃ t, v = Value.int j t from r)
      have pS := I.pin (S, lstObj (boxM a' t') c') (List.mem_append_right _ (List.mem_cons_of_mem _ List.mem_cons_self))
      have pG0 := I.pin (ga, go) (List.mem_append_right _ List.mem_cons_self)
      have I0 : Inv (gblk X A' s_0 H_0 cenv fp) [(ga, go)] σ H s1 := I.pins_of fun p hp => I.pin p (List.mem_append_right _ (by rw [List.mem_singleton.mp hp]; exact List.mem_cons_self))
      -- a new least is laid
      have lay : ∀ u : Nat, codeAny (model X.prog X.w) A (.builtin "min.loop" ⟨[.ref ga, .none, .ref S], []⟩) R { s1 with heap := s1.heap.update S (Obj.mapSeq (fun _ => #[Value.int (lessM a' j) u, Value.int (lessM a' j) u])) } := fun u => by
        have I1 := I0.turned (t' := s1.toks) (h' := s1.heap.update S (Obj.mapSeq (fun _ => #[Value.int (lessM a' j) u, Value.int (lessM a' j) u]))) (it := S) (fun b o hb q => (Heap.get?_update_other _ _ (Ne.symm hb)).trans q) pS.2.1 pS.2.2.1 (.inr far) hSc (fun p hp => by rw [List.mem_singleton.mp (show p ∈ [(ga, go)] by simpa using hp)]; exact Ne.symm hSa)
        have e2 := Heap.get?_update_self (Obj.mapSeq (fun _ => #[Value.int (lessM a' j) u, Value.int (lessM a' j) u])) pS.1 rfl
        have pG := I1.pin (ga, go) (List.mem_append_right _ List.mem_cons_self)
        obtain ⟨m, hm, z⟩ := kap (some (lessM a' j)) [(ga, go), (S, _)] (({ s1 with heap := s1.heap.update S (Obj.mapSeq (fun _ => #[Value.int (lessM a' j) u, Value.int (lessM a' j) u])) } : Shared).setGen gn .running) nx ⟨u, _, rfl⟩ (inv_moved (I1.pins_of fun p hp => by
          rcases List.mem_cons.mp hp with z | z
          · rw [z]; exact pG
          · rw [List.mem_singleton.mp z]; exact ⟨e2, pS.2.1, pS.2.2.1, pS.2.2.2.1, fun v q => by cases q⟩) rfl (allBare_setGen (s := { s1 with heap := s1.heap.update S (Obj.mapSeq (fun _ => #[Value.int (lessM a' j) u, Value.int (lessM a' j) u])) }) I1.bare rfl) fun _ _ q => q) (keep _ _ _ st fun b hb o q => (Heap.get?_update_other _ _ (Ne.symm (hSf b hb))).trans q)
        exact ih m (by omega) _ (some (lessM a' j)) u _ I1.nolimit pG.1 e2 ⟨gs', at_, z⟩
      cases a' with
      | none =>
        show wpAny _ A.in1 (updateSeq S (fun _ => #[Value.int j tk, Value.int j tk]) >>= _) _ _ _
        refine wpAny_bind ?_
        refine wpAny_updateSeq (hz := by show 0 ≤ sizeLine; decide) pS.1 rfl ?_
        rw [nm]
        exact wpAny_pure ⟨plainId_quiet F.plain_min_loop _, lay tk⟩
      | some m0 =>
        show wpAny _ A.in1 (tryCatch (holding [Value.int j tk, Value.int j tk] (richCompare .Lt (Value.int j tk) (Value.int m0 t) >>= _)) _ >>= _) _ _ _
        refine wpAny_bind (wpAny_tryCatch (wpAny_holding (wpAny_bind (cmp_lt ?_))))
        refine wpAny_bind (wpAny_holding (wpAny_truthy_bool ?_))
        refine wpAny_bind (wpAny_letGo (wpAny_pure ?_))
        by_cases hlt : j < m0
        · rw [decide_eq_true hlt]
          simp only [if_true]
          refine wpAny_bind ?_
          refine wpAny_updateSeq (hz := by show 2 ≤ sizeLine; decide) pS.1 rfl (wpAny_bind (wpAny_letGo ?_))
          rw [nm]
          have l := lay tk
          rw [show lessM (some m0) j = j from if_pos hlt] at l
          exact wpAny_pure ⟨plainId_quiet F.plain_min_loop _, l⟩
        · rw [decide_eq_false hlt]
          simp only [Bool.false_eq_true, if_false]
          refine wpAny_bind (wpAny_letGo ?_)
          rw [nm]
          rw [show lessM (some m0) j = m0 from if_neg hlt] at nx
          obtain ⟨m, hm, z⟩ := kap (some m0) [(ga, go), (S, lstObj (boxM (some m0) t') c')] (s1.setGen gn .running) nx ⟨t', c', rfl⟩ (inv_moved (I.pins_of fun p hp => I.pin p (List.mem_append_right _ hp)) rfl (allBare_setGen (s := s1) I.bare rfl) fun _ _ q => q) st
          exact wpAny_pure ⟨plainId_quiet F.plain_min_loop _, ih m (by omega) _ (some m0) t' _ I0.nolimit pG0.1 pS.1 ⟨gs', at_, z⟩⟩
    · obtain ⟨t', c', rfl⟩ := hac
      have e1 := tie (S, lstObj (boxM a' t') c') (List.mem_cons_of_mem _ List.mem_cons_self)
      rw [hS] at e1
      obtain rfl := box_one e1
      cases a' with
      | none => exact absurd q (noE H)
      | some m0 =>
        have pS := I.pin (S, lstObj (boxM (some m0) t') c') (List.mem_append_right _ (List.mem_cons_of_mem _ List.mem_cons_self))
        have I0 : Inv (gblk X A' s_0 H_0 cenv fp) [(ga, go)] σ H s1 := I.pins_of fun p hp => I.pin p (List.mem_append_right _ (by rw [List.mem_singleton.mp hp]; exact List.mem_cons_self))
        have I1 := I0.turned (t' := s1.toks) (h' := s1.heap.update S (Obj.mapSeq (fun _ => #[]))) (it := S) (fun b o hb q => (Heap.get?_update_other _ _ (Ne.symm hb)).trans q) pS.2.1 pS.2.2.1 (.inr far) hSc (fun p hp => by rw [List.mem_singleton.mp (show p ∈ [(ga, go)] by simpa using hp)]; exact Ne.symm hSa)
        show wpAny _ A.in1 (updateSeq S (fun _ => #[]) >>= _) _ _ _
        refine wpAny_bind ?_
        exact wpAny_updateSeq (hz := by show 2 ≤ sizeLine; decide) pS.1 rfl (wpAny_bind (wpAny_letGo (wpAny_pure (yes σ H m0 t _ _ I1 q))))
end
section
variable {X : Cx}
def tMinX (P : Addr) (wi : TI) (g : TG) (tt : TT) (te : TE) (vs : List Nat) : TE := fun σ H Q => wi σ H fun J H1 => GxR.TabG H1 P ∧ ∀ H2, GxR.Tabbed P H1 H2 → ∃ W : Nat → Nat → Option Int → Hp → Prop, (∃ m, W 0 m none H2) ∧
  tGx J g tt te (wipe σ vs) vs (fun a H => ∃ m, a = some m ∧ Q (.int m) H) YdM W
theorem pe_minX {c P : Addr} {elt tg iter : Expr} {ifs : List Expr} {p pos gpos : Pos} {scope : Scope} {own : List (Str × Nat)} {wi : TI} {g : TG} {tt : TT} {te : TE} {k : Nat}
    (hr : Room (k + 1) X.A) (hc : X.calm = true) (hN : X.N.Nodup) (hgl : Gl X "min") (hm : X.mg "min" = none) (hb : bootBuiltins "min" = some (.builtin "min")) (TB : GxR.TabB X.base X.mg c P) (hcode : X.env.code = .ref c)
    (hco : scope.isCoroutine = false) (hdot : scope.names.lookup (".0" : Str) = some NameKind.local) (nocell : ∀ y ∈ scope.names, y.2 ≠ .cell) (ok : BlkOk X.N X.env.scope scope own) (hi : PI X tg iter wi)
    (hg : ∀ (A' : Around) (s : Shared) (H : Hp) (C : Addr) (cl : List (Str × Addr)) (code : Value) (fp : List Addr), Room k A' → A'.guards = X.A.guards → PG (gblk X A' s H (genEnv scope cl C code builtinsNs X.env) fp) tg g)
    (ht : ∀ (A' : Around) (s : Shared) (H : Hp) (C : Addr) (cl : List (Str × Addr)) (code : Value) (fp : List Addr), Room k A' → A'.guards = X.A.guards → PTs (gblk X A' s H (genEnv scope cl C code builtinsNs X.env) fp) ifs tt)
    (he : ∀ (A' : Around) (s : Shared) (H : Hp) (C : Addr) (cl : List (Str × Addr)) (code : Value) (fp : List Addr), Room k A' → A'.guards = X.A.guards → PE (gblk X A' s H (genEnv scope cl C code builtinsNs X.env) fp) elt te)
    (hs : ∀ v, genFold iter X.env v = pure v)
    (hst : starEach [.GeneratorExp elt [⟨tg, iter, ifs, 0⟩] scope gpos] X.env = (false, eval (.GeneratorExp elt [⟨tg, iter, ifs, 0⟩] scope gpos) X.env) :: starEach [] X.env := by rfl) :
    PE X (.Call (.Name "min" p) [.GeneratorExp elt [⟨tg, iter, ifs, 0⟩] scope gpos] [] pos) (tMinX P wi g tt te (own.map (·.2))) := by
  refine ⟨fun pins s σ H Q I h => ?_⟩
  refine wpAny_Call_Name_kw (ld_blt I hgl hm hb ?_)
  refine PyProof.Rows.callWith_builtin1 ?_ hst (by rfl)
  rw [hst]
  show wpAny _ _ (spliced ((false, eval (.GeneratorExp elt [⟨tg, iter, ifs, 0⟩] scope gpos) X.env) :: backTo pos (starEach [] X.env))) _ _ s
  refine Calls.spliced_cons (gx_make (A := X.A.in1.in1) hr ⟨rfl, rfl, rfl, rfl, (by show X.A.units + 1 + 1 ≤ _; omega)⟩ hc hN TB hcode hco hdot nocell ok hi hg ht he hs I h fun J H1 H2 u s5 hR hT hG => ?_)
  obtain ⟨A', s_0, H_0, cenv, fp, ga, gn, go, tn, gs, rfl, hGO, hgs, hbare, I5, st5, nf, hlt, keep, back, goes⟩ := hG
  obtain ⟨W, ⟨m, w0⟩, turn⟩ := hR H2 hT
  refine Calls.spliced_nil ?_
  have pin5 := (I5.pin (ga, go) (List.mem_append_right _ List.mem_cons_self)).1
  have glt : ga < s5.heap.objs.size := Heap.lt_size pin5
  have hSI : s5.heap.objs.size ≠ ga := Nat.ne_of_gt glt
  refine call_function_tree F.kind_min F.plain_min F.entry_min (F.args_min1 _) ?_
  unfold Builtin.«min»
  refine wpAny_bind (wpAny_of_eq (show Builtin.Builtins.bindParams "min" ["key", "default"] 0 ⟨[], []⟩ = pure [none, none] from rfl) ?_)
  refine wpAny_bind (wpAny_pure ?_)
  refine wpAny_bind (wpAny_pyIter_gen (hGO.isGen pin5) ?_)
  refine wpAny_bind (wpAny_newObj_type ?_)
  have k1 : ∀ b o, s5.heap.get? b = some o → (s5.heap.push { cls := .type "list", data := .seq #[] }).get? b = some o := fun b o e => Heap.get?_push_of_some _ e
  have hS₁ : (s5.heap.push { cls := .type "list", data := .seq #[] }).get? s5.heap.objs.size = some (lstObj (boxM none 0) 0) := Heap.get?_push_size _ rfl
  have fS : FpOk (gblk X A' s_0 H_0 cenv fp) [(ga, go)] H2 s5.heap.objs.size := I5.fpOk (Nat.le_refl _) (I5.hok.fresh (Nat.le_refl _))
  have hfS : ∀ b ∈ fp, b ≠ s5.heap.objs.size := fun b hb => Nat.ne_of_lt (Nat.lt_trans (hlt b hb) glt)
  have I6 := inv_moved (s' := { s5 with heap := s5.heap.push { cls := .type "list", data := .seq #[] } }) I5 rfl I5.bare k1
  have nm : (toString "min" ++ toString ".loop" : String) = "min.loop" := by decide
  rw [nm]
  refine wpAny_pure ⟨plainId_quiet F.plain_min_loop _, min_gx (A' := A') (s_0 := s_0) (H_0 := H_0) (cenv := cenv) (fp := fp) (tn := tn) (go := go) (gn := gn) (End := fun a H => ∃ m, a = some m ∧ Q (.int m) H) hr.hd hr.depth hGO hSI (Nat.le_trans I5.sz (Nat.le_refl _)) fS.2.2.2.2.1 keep hfS (fun H h => by obtain ⟨m, e, _⟩ := h; cases e)
    (fun σ' H' m t cp s1 I1 q => by obtain ⟨m', e, q⟩ := q; cases e; exact ⟨.int m, H', back _ _ _ _ I1, ⟨t, rfl⟩, q⟩) (m + 1) _ none 0 0 I6.nolimit (k1 _ _ pin5) hS₁ ⟨gs, hgs, ?_⟩⟩
  refine goes (Option Int) (ACm ga go s5.heap.objs.size) _ YdM W m (m + 1) none [(ga, go), (s5.heap.objs.size, lstObj (boxM none 0) 0)] _ turn w0 (Nat.lt_succ_self _) (fun a cp hac p hp b hb z => ?_) ⟨0, 0, rfl⟩
    (inv_moved (I6.pins_of fun p hp => ?_) rfl (allBare_setGen (s := { s5 with heap := _ }) I5.bare rfl) fun _ _ q => q) (keep _ _ _ st5 fun b hb o q => k1 b o q)
  · obtain ⟨t, c, rfl⟩ := hac
    rcases List.mem_cons.mp hp with e | e
    · rw [e] at z
      exact absurd (hlt b hb) (by rw [← z]; exact Nat.lt_irrefl _)
    · rw [List.mem_singleton.mp e] at z
      exact hfS b hb z.symm
  · rcases List.mem_cons.mp hp with e | e
    · rw [e]
      exact I6.pin (ga, go) (List.mem_append_right _ List.mem_cons_self)
    · rw [List.mem_singleton.mp e]
      exact ⟨hS₁, fS.1, fS.2.1, fS.2.2.1, fun v q => by cases q⟩
end
end GxM

/-! ### a generator expression over a list -/
theorem gx_list {α : Type} {K : PySem.W.Frag} {a : Addr} {xs : List V} {g : TG} {tt : TT} {te : TE} {vs : List Nat} {σ0 : L2.St} {End : α → Hp → Prop} {Yd : α → V → Hp → (α → Hp → Prop) → Prop} {a0 : α} {H0 : Hp} (Pv : Nat → α → Hp → Prop) (h0 : Pv 0 a0 H0)
    (hl : ∀ i c H, i ≤ xs.length → Pv i c H → SqL K H a xs)
    (hs : ∀ i x c H, xs[i]? = some x → Pv i c H → g x σ0 H fun σ2 H2 => wipe σ2 vs = σ0 ∧ tt σ2 H2 fun b H3 => if b = true then te σ2 H3 fun y H4 => Yd c y H4 (Pv (i + 1)) else Pv (i + 1) c H3) (hd : ∀ c H, Pv xs.length c H → End c H) :
    ∃ W : Nat → Nat → α → Hp → Prop, (∃ m, W 0 m a0 H0) ∧ tGx (Itl K a) g tt te σ0 vs End Yd W := by
  refine ⟨fun i m c H => m = xs.length - i ∧ i ≤ xs.length ∧ Pv i c H, ⟨xs.length, rfl, Nat.zero_le _, h0⟩, ?_⟩
  rintro i m c H ⟨rfl, hi, p⟩
  by_cases hlt : i < xs.length
  · have hx : xs[i]? = some xs[i] := List.getElem?_eq_getElem hlt
    refine .inr ⟨⟨xs, xs[i], hl i c H hi p, hx⟩, Pv (i + 1), fun c' H' p' => ⟨xs.length - (i + 1), by omega, rfl, hlt, p'⟩, fun x H' y => ?_⟩
    obtain ⟨rfl, y⟩ := y
    exact hs i x c _ (y xs (hl i c _ hi p)) p
  · have e : i = xs.length := by omega
    subst e
    exact .inl ⟨⟨xs, hl _ c H hi p, Nat.le_refl _⟩, hd c H p⟩

section
variable {P : Program} {w : World} {K : PySem.W.Frag} {mg : Str → Option Value} {base : Heap}
end
end Gk

set_option Elab.async false
set_option linter.all false
set_option maxRecDepth 100000
set_option maxHeartbeats 1000000
set_option pp.maxSteps 1500
set_option pp.deepTerms false
namespace Gk
open PySem PySem.Spec PyProof.Rows L2
section
variable {P : Program} {w : World} {K : PySem.W.Frag} {mg : Str → Option Value} {base : Heap}
/-! ### how often a form changes at the most: first worth, last worth, times up -/
structure Tri where
  f : Nat
  l : Nat
  u : Nat
def Tri.Ok (t : Tri) : Prop := t.f ≤ 1 ∧ t.l ≤ 1 ∧ t.f ≤ t.u ∧ t.l ≤ t.u
def Tri.neg (t : Tri) : Tri := ⟨1 - t.f, 1 - t.l, t.u + 1 - t.f - t.l⟩
def Tri.and (s t : Tri) : Tri := ⟨if s.f = 0 then 0 else t.f, if s.l = 0 then 0 else t.l, if s.u = 0 then 0 else if t.u = 0 then 0 else s.u + t.u - 1⟩
def Tri.one : Tri := ⟨1, 1, 1⟩
def Tri.nought : Tri := ⟨0, 0, 0⟩
def Tri.all : List Tri → Tri
  | [] => .one
  | t :: r => t.and (Tri.all r)
def Tri.num (t : Tri) : Nat := 2 * t.u - t.f - t.l
def Tri.le (s t : Tri) : Prop := s.f = t.f ∧ s.l = t.l ∧ s.u ≤ t.u
theorem Tri.mk_eq {f l u f' l' u' : Nat} (a : f = f') (b : l = l') (c : u = u') : (⟨f, l, u⟩ : Tri) = ⟨f', l', u'⟩ := by rw [a, b, c]
theorem Tri.le_refl (t : Tri) : t.le t := ⟨rfl, rfl, Nat.le_refl _⟩
theorem Tri.le.trans {s t r : Tri} (h : s.le t) (k : t.le r) : s.le r := ⟨h.1.trans k.1, h.2.1.trans k.2.1, Nat.le_trans h.2.2 k.2.2⟩
theorem Tri.one_ok : Tri.one.Ok := ⟨by decide, by decide, by decide, by decide⟩
theorem Tri.nought_ok : Tri.nought.Ok := ⟨by decide, by decide, by decide, by decide⟩
theorem Tri.neg_ok {t : Tri} (h : t.Ok) : t.neg.Ok := by
  obtain ⟨a, b, c, d⟩ := h
  exact ⟨by show 1 - t.f ≤ 1; omega, by show 1 - t.l ≤ 1; omega, by show 1 - t.f ≤ t.u + 1 - t.f - t.l; omega, by show 1 - t.l ≤ t.u + 1 - t.f - t.l; omega⟩
theorem Tri.neg_neg {t : Tri} (h : t.Ok) : t.neg.neg = t := by
  obtain ⟨a, b, c, d⟩ := h
  obtain ⟨f, l, u⟩ := t
  exact Tri.mk_eq (by show 1 - (1 - f) = f; dsimp only at *; omega) (by show 1 - (1 - l) = l; dsimp only at *; omega) (by show u + 1 - f - l + 1 - (1 - f) - (1 - l) = u; dsimp only at *; omega)
theorem Tri.neg_le {s t : Tri} (h : s.le t) : s.neg.le t.neg := by
  obtain ⟨a, b, c⟩ := h
  exact ⟨by show 1 - s.f = 1 - t.f; omega, by show 1 - s.l = 1 - t.l; omega, by show s.u + 1 - s.f - s.l ≤ t.u + 1 - t.f - t.l; omega⟩
theorem Tri.and_ok {s t : Tri} (h : s.Ok) (k : t.Ok) : (s.and t).Ok := by
  obtain ⟨a, b, c, d⟩ := h
  obtain ⟨a', b', c', d'⟩ := k
  refine ⟨?_, ?_, ?_, ?_⟩
  · show (if s.f = 0 then 0 else t.f) ≤ 1
    split <;> omega
  · show (if s.l = 0 then 0 else t.l) ≤ 1
    split <;> omega
  · show (if s.f = 0 then 0 else t.f) ≤ (if s.u = 0 then 0 else if t.u = 0 then 0 else s.u + t.u - 1)
    repeat' split
    all_goals omega
  · show (if s.l = 0 then 0 else t.l) ≤ (if s.u = 0 then 0 else if t.u = 0 then 0 else s.u + t.u - 1)
    repeat' split
    all_goals omega
theorem Tri.and_le {s s' t t' : Tri} (h : s.le s') (k : t.le t') : (s.and t).le (s'.and t') := by
  obtain ⟨a, b, c⟩ := h
  obtain ⟨a', b', c'⟩ := k
  refine ⟨?_, ?_, ?_⟩
  · show (if s.f = 0 then 0 else t.f) = (if s'.f = 0 then 0 else t'.f)
    rw [a, a']
  · show (if s.l = 0 then 0 else t.l) = (if s'.l = 0 then 0 else t'.l)
    rw [b, b']
  · show (if s.u = 0 then 0 else if t.u = 0 then 0 else s.u + t.u - 1) ≤ (if s'.u = 0 then 0 else if t'.u = 0 then 0 else s'.u + t'.u - 1)
    repeat' split
    all_goals omega
theorem Tri.and_comm {s t : Tri} (h : s.Ok) (k : t.Ok) : s.and t = t.and s := by
  obtain ⟨a, b, c, d⟩ := h
  obtain ⟨a', b', c', d'⟩ := k
  refine Tri.mk_eq ?_ ?_ ?_
  · repeat' split
    all_goals omega
  · repeat' split
    all_goals omega
  · repeat' split
    all_goals omega
theorem Tri.and_assoc (s t r : Tri) : (s.and t).and r = s.and (t.and r) := by
  refine Tri.mk_eq ?_ ?_ ?_
  · show (if (if s.f = 0 then 0 else t.f) = 0 then 0 else r.f) = (if s.f = 0 then 0 else if t.f = 0 then 0 else r.f)
    by_cases h : s.f = 0
    · rw [if_pos h, if_pos rfl, if_pos h]
    · rw [if_neg h, if_neg h]
  · show (if (if s.l = 0 then 0 else t.l) = 0 then 0 else r.l) = (if s.l = 0 then 0 else if t.l = 0 then 0 else r.l)
    by_cases h : s.l = 0
    · rw [if_pos h, if_pos rfl, if_pos h]
    · rw [if_neg h, if_neg h]
  · show (if (if s.u = 0 then 0 else if t.u = 0 then 0 else s.u + t.u - 1) = 0 then 0 else if r.u = 0 then 0 else (if s.u = 0 then 0 else if t.u = 0 then 0 else s.u + t.u - 1) + r.u - 1) = (if s.u = 0 then 0 else if (if t.u = 0 then 0 else if r.u = 0 then 0 else t.u + r.u - 1) = 0 then 0 else s.u + (if t.u = 0 then 0 else if r.u = 0 then 0 else t.u + r.u - 1) - 1)
    by_cases h : s.u = 0
    · simp [h]
    by_cases h1 : t.u = 0
    · simp [h, h1]
    by_cases h2 : r.u = 0
    · simp [h, h1, h2]
    simp only [h, h1, h2, if_false]
    rw [if_neg (by omega), if_neg (by omega)]
    omega
theorem Tri.one_and {t : Tri} (h : t.Ok) : Tri.one.and t = t := by
  obtain ⟨f, l, u⟩ := t
  refine Tri.mk_eq ?_ ?_ ?_
  · rfl
  · rfl
  · show (if 1 = 0 then 0 else if u = 0 then 0 else 1 + u - 1) = u
    by_cases h : u = 0 <;> simp [h]
theorem Tri.and_one {t : Tri} (h : t.Ok) : t.and Tri.one = t := by rw [Tri.and_comm h Tri.one_ok, Tri.one_and h]
theorem Tri.all_ok : ∀ {ts : List Tri}, (∀ t ∈ ts, t.Ok) → (Tri.all ts).Ok
  | [], _ => Tri.one_ok
  | t :: r, h => Tri.and_ok (h t List.mem_cons_self) (Tri.all_ok fun x hx => h x (List.mem_cons_of_mem _ hx))
theorem Tri.all_app : ∀ {xs ys : List Tri}, (∀ t ∈ ys, t.Ok) → Tri.all (xs ++ ys) = (Tri.all xs).and (Tri.all ys)
  | [], ys, h => (Tri.one_and (Tri.all_ok h)).symm
  | x :: r, ys, h => by
    show x.and (Tri.all (r ++ ys)) = (x.and (Tri.all r)).and (Tri.all ys)
    rw [Tri.all_app h, Tri.and_assoc]
def Tri.op (c : Bool) (ts : List Tri) : Tri := if c = true then Tri.all ts else (Tri.all (ts.map Tri.neg)).neg
theorem Tri.map_ok {ts : List Tri} (h : ∀ t ∈ ts, t.Ok) : ∀ t ∈ ts.map Tri.neg, t.Ok := fun t ht => by
  obtain ⟨s, hs, rfl⟩ := List.mem_map.mp ht
  exact Tri.neg_ok (h s hs)
theorem Tri.op_ok {c : Bool} {ts : List Tri} (h : ∀ t ∈ ts, t.Ok) : (Tri.op c ts).Ok := by
  unfold Tri.op
  split
  · exact Tri.all_ok h
  · exact Tri.neg_ok (Tri.all_ok (Tri.map_ok h))
theorem Tri.map_neg_neg {ts : List Tri} (h : ∀ t ∈ ts, t.Ok) : (ts.map Tri.neg).map Tri.neg = ts := by
  rw [List.map_map]
  conv => rhs; rw [← List.map_id ts]
  exact List.map_congr_left fun t ht => Tri.neg_neg (h t ht)
/-- morgan -/
theorem Tri.op_neg {c : Bool} {ts : List Tri} (h : ∀ t ∈ ts, t.Ok) : Tri.op (!c) (ts.map Tri.neg) = (Tri.op c ts).neg := by
  unfold Tri.op
  cases c with
  | true =>
    show (Tri.all ((ts.map Tri.neg).map Tri.neg)).neg = (Tri.all ts).neg
    rw [Tri.map_neg_neg h]
  | false =>
    show Tri.all (ts.map Tri.neg) = ((Tri.all (ts.map Tri.neg)).neg).neg
    rw [Tri.neg_neg (Tri.all_ok (Tri.map_ok h))]
/-- the parts of a part of the same word -/
theorem Tri.op_flat {c : Bool} {xs ys zs : List Tri} (hx : ∀ t ∈ xs, t.Ok) (hy : ∀ t ∈ ys, t.Ok) (hz : ∀ t ∈ zs, t.Ok) : Tri.op c (xs ++ [Tri.op c ys] ++ zs) = Tri.op c (xs ++ ys ++ zs) := by
  have core : ∀ {xs ys zs : List Tri}, (∀ t ∈ ys, t.Ok) → (∀ t ∈ zs, t.Ok) → Tri.all (xs ++ [Tri.all ys] ++ zs) = Tri.all (xs ++ ys ++ zs) := fun {xs ys zs} hy hz => by
    have h1 : ∀ t ∈ [Tri.all ys], t.Ok := fun t ht => by rw [List.mem_singleton.mp ht]; exact Tri.all_ok hy
    rw [Tri.all_app hz, Tri.all_app hz, Tri.all_app h1, Tri.all_app hy]
    show ((Tri.all xs).and ((Tri.all ys).and Tri.one)).and _ = _
    rw [Tri.and_one (Tri.all_ok hy)]
  unfold Tri.op
  cases c with
  | true =>
    rw [if_pos rfl, if_pos rfl, if_pos rfl]
    exact core hy hz
  | false =>
    rw [if_neg (by decide), if_neg (by decide), if_neg (by decide), List.map_append, List.map_append, List.map_cons, List.map_nil, Tri.neg_neg (Tri.all_ok (Tri.map_ok hy)), core (Tri.map_ok hy) (Tri.map_ok hz), ← List.map_append, ← List.map_append]
theorem Tri.all_swap {xs zs : List Tri} {s t : Tri} (hs : s.Ok) (ht : t.Ok) (hz : ∀ t ∈ zs, t.Ok) : Tri.all (xs ++ s :: t :: zs) = Tri.all (xs ++ t :: s :: zs) := by
  have h1 : ∀ x ∈ s :: t :: zs, x.Ok := fun x hx => by
    rcases List.mem_cons.mp hx with e | hx
    · rw [e]; exact hs
    rcases List.mem_cons.mp hx with e | hx
    · rw [e]; exact ht
    exact hz x hx
  have h2 : ∀ x ∈ t :: s :: zs, x.Ok := fun x hx => by
    rcases List.mem_cons.mp hx with e | hx
    · rw [e]; exact ht
    rcases List.mem_cons.mp hx with e | hx
    · rw [e]; exact hs
    exact hz x hx
  rw [Tri.all_app h1, Tri.all_app h2]
  show _ = (Tri.all xs).and (t.and (s.and (Tri.all zs)))
  rw [← Tri.and_assoc t s, Tri.and_comm ht hs, Tri.and_assoc]
  rfl
theorem Tri.op_swap {c : Bool} {xs zs : List Tri} {s t : Tri} (hs : s.Ok) (ht : t.Ok) (hz : ∀ t ∈ zs, t.Ok) : Tri.op c (xs ++ s :: t :: zs) = Tri.op c (xs ++ t :: s :: zs) := by
  unfold Tri.op
  split
  · exact Tri.all_swap hs ht hz
  · rw [List.map_append, List.map_cons, List.map_cons, List.map_append, List.map_cons, List.map_cons, Tri.all_swap (Tri.neg_ok hs) (Tri.neg_ok ht) (Tri.map_ok hz)]
theorem Tri.op_mono {c : Bool} {xs zs : List Tri} {s t : Tri} (hs : s.Ok) (ht : t.Ok) (hz : ∀ t ∈ zs, t.Ok) (h : s.le t) : (Tri.op c (xs ++ [s] ++ zs)).le (Tri.op c (xs ++ [t] ++ zs)) := by
  have core : ∀ {xs zs : List Tri} {s t : Tri}, s.Ok → t.Ok → (∀ t ∈ zs, t.Ok) → s.le t → (Tri.all (xs ++ [s] ++ zs)).le (Tri.all (xs ++ [t] ++ zs)) := fun {xs zs s t} hs ht hz h => by
    have h1 : ∀ x ∈ [s], x.Ok := fun x hx => by rw [List.mem_singleton.mp hx]; exact hs
    have h2 : ∀ x ∈ [t], x.Ok := fun x hx => by rw [List.mem_singleton.mp hx]; exact ht
    rw [Tri.all_app hz, Tri.all_app hz, Tri.all_app h1, Tri.all_app h2]
    exact Tri.and_le (Tri.and_le (Tri.le_refl _) (Tri.and_le h (Tri.le_refl _))) (Tri.le_refl _)
  unfold Tri.op
  split
  · exact core hs ht hz h
  · rw [List.map_append, List.map_append, List.map_append, List.map_append, List.map_cons, List.map_cons, List.map_nil]
    exact Tri.neg_le (core (Tri.neg_ok hs) (Tri.neg_ok ht) (Tri.map_ok hz) (Tri.neg_le h))
/-- two parts -/
theorem Tri.all_two {s t : Tri} (ht : t.Ok) : Tri.all [s, t] = s.and t := by
  show s.and (t.and Tri.one) = _
  rw [Tri.and_one ht]
def Tri.or (s t : Tri) : Tri := (s.neg.and t.neg).neg
theorem Tri.op_two {c : Bool} {s t : Tri} (ht : t.Ok) : Tri.op c [s, t] = if c = true then s.and t else s.or t := by
  unfold Tri.op
  split
  · exact Tri.all_two ht
  · show (Tri.all [s.neg, t.neg]).neg = _
    rw [Tri.all_two (Tri.neg_ok ht)]
    rfl
theorem Tri.or_ok {s t : Tri} (h : s.Ok) (k : t.Ok) : (s.or t).Ok := Tri.neg_ok (Tri.and_ok (Tri.neg_ok h) (Tri.neg_ok k))
theorem Tri.of_neg {s t : Tri} (hs : s.Ok) (ht : t.Ok) (h : s.neg.le t.neg) : s.le t := by
  have := Tri.neg_le h
  rwa [Tri.neg_neg hs, Tri.neg_neg ht] at this
theorem Tri.neg_and {s t : Tri} (h : s.Ok) (k : t.Ok) : (s.and t).neg = s.neg.or t.neg := by
  unfold Tri.or
  rw [Tri.neg_neg h, Tri.neg_neg k]
theorem Tri.neg_or {s t : Tri} (h : s.Ok) (k : t.Ok) : (s.or t).neg = s.neg.and t.neg := Tri.neg_neg (Tri.and_ok (Tri.neg_ok h) (Tri.neg_ok k))
/-- or, told -/
theorem Tri.or_mk {f l u f' l' u' : Nat} : Tri.or ⟨f, l, u⟩ ⟨f', l', u'⟩ = ⟨1 - (if 1 - f = 0 then 0 else 1 - f'), 1 - (if 1 - l = 0 then 0 else 1 - l'), (if u + 1 - f - l = 0 then 0 else if u' + 1 - f' - l' = 0 then 0 else (u + 1 - f - l) + (u' + 1 - f' - l') - 1) + 1 - (if 1 - f = 0 then 0 else 1 - f') - (if 1 - l = 0 then 0 else 1 - l')⟩ := rfl
theorem Tri.single_and {s : Tri} (h : s.Ok) : s.le (s.and s) := by
  obtain ⟨f, l, u⟩ := s
  obtain ⟨a, b, c, d⟩ := h
  refine ⟨?_, ?_, ?_⟩
  · show f = (if f = 0 then 0 else f)
    split <;> omega
  · show l = (if l = 0 then 0 else l)
    split <;> omega
  · show u ≤ (if u = 0 then 0 else if u = 0 then 0 else u + u - 1)
    repeat' split
    all_goals omega
theorem Tri.single_or {s : Tri} (h : s.Ok) : s.le (s.or s) := Tri.of_neg h (Tri.or_ok h h) (by rw [Tri.neg_or h h]; exact Tri.single_and (Tri.neg_ok h))
theorem Tri.shut_and {s : Tri} (h : s.Ok) : Tri.nought.le (s.and s.neg) := by
  obtain ⟨f, l, u⟩ := s
  obtain ⟨a, b, c, d⟩ := h
  refine ⟨?_, ?_, Nat.zero_le _⟩
  · show 0 = (if f = 0 then 0 else 1 - f)
    split
    · rfl
    · dsimp only at *
      omega
  · show 0 = (if l = 0 then 0 else 1 - l)
    split
    · rfl
    · dsimp only at *
      omega
theorem Tri.shut_or {s : Tri} (h : s.Ok) : Tri.one.le (s.or s.neg) := Tri.of_neg Tri.one_ok (Tri.or_ok h (Tri.neg_ok h)) (by
  rw [Tri.neg_or h (Tri.neg_ok h)]
  exact Tri.shut_and (Tri.neg_ok h))
theorem Tri.absorb_or {s t : Tri} (h : s.Ok) (k : t.Ok) : s.le (s.or (s.and t)) := by
  obtain ⟨f, l, u⟩ := s
  obtain ⟨f', l', u'⟩ := t
  obtain ⟨a, b, c, d⟩ := h
  obtain ⟨a', b', c', d'⟩ := k
  dsimp only at a b c d a' b' c' d'
  have e : Tri.and ⟨f, l, u⟩ ⟨f', l', u'⟩ = ⟨if f = 0 then 0 else f', if l = 0 then 0 else l', if u = 0 then 0 else if u' = 0 then 0 else u + u' - 1⟩ := rfl
  rw [e, Tri.or_mk]
  have F : f = 0 ∨ f = 1 := by omega
  have L : l = 0 ∨ l = 1 := by omega
  have F' : f' = 0 ∨ f' = 1 := by omega
  have L' : l' = 0 ∨ l' = 1 := by omega
  rcases F with rfl | rfl <;> rcases L with rfl | rfl <;> rcases F' with rfl | rfl <;> rcases L' with rfl | rfl <;> refine ⟨by first | rfl | decide, by first | rfl | decide, ?_⟩ <;> simp <;> repeat' split
  all_goals omega
theorem Tri.factor_or {s t r : Tri} (h : s.Ok) (k : t.Ok) (m : r.Ok) : (s.and (t.or r)).le ((s.and t).or (s.and r)) := by
  obtain ⟨f, l, u⟩ := s
  obtain ⟨f', l', u'⟩ := t
  obtain ⟨f2, l2, u2⟩ := r
  obtain ⟨a, b, c, d⟩ := h
  obtain ⟨a', b', c', d'⟩ := k
  obtain ⟨a2, b2, c2, d2⟩ := m
  dsimp only at a b c d a' b' c' d' a2 b2 c2 d2
  have e1 : Tri.and ⟨f, l, u⟩ ⟨f', l', u'⟩ = ⟨if f = 0 then 0 else f', if l = 0 then 0 else l', if u = 0 then 0 else if u' = 0 then 0 else u + u' - 1⟩ := rfl
  have e2 : Tri.and ⟨f, l, u⟩ ⟨f2, l2, u2⟩ = ⟨if f = 0 then 0 else f2, if l = 0 then 0 else l2, if u = 0 then 0 else if u2 = 0 then 0 else u + u2 - 1⟩ := rfl
  rw [e1, e2, Tri.or_mk, Tri.or_mk]
  have F : f = 0 ∨ f = 1 := by omega
  have L : l = 0 ∨ l = 1 := by omega
  have F' : f' = 0 ∨ f' = 1 := by omega
  have L' : l' = 0 ∨ l' = 1 := by omega
  have F2 : f2 = 0 ∨ f2 = 1 := by omega
  have L2 : l2 = 0 ∨ l2 = 1 := by omega
  unfold Tri.and
  rcases F with rfl | rfl <;> rcases L with rfl | rfl <;> rcases F' with rfl | rfl <;> rcases L' with rfl | rfl <;> rcases F2 with rfl | rfl <;> rcases L2 with rfl | rfl <;> refine ⟨by first | rfl | decide, by first | rfl | decide, ?_⟩ <;> simp <;> repeat' split
  all_goals omega
theorem Tri.absorb_and {s t : Tri} (h : s.Ok) (k : t.Ok) : s.le (s.and (s.or t)) := Tri.of_neg h (Tri.and_ok h (Tri.or_ok h k)) (by
  rw [Tri.neg_and h (Tri.or_ok h k), Tri.neg_or h k]
  exact Tri.absorb_or (Tri.neg_ok h) (Tri.neg_ok k))
theorem Tri.factor_and {s t r : Tri} (h : s.Ok) (k : t.Ok) (m : r.Ok) : (s.or (t.and r)).le ((s.or t).and (s.or r)) := Tri.of_neg (Tri.or_ok h (Tri.and_ok k m)) (Tri.and_ok (Tri.or_ok h k) (Tri.or_ok h m)) (by
  rw [Tri.neg_or h (Tri.and_ok k m), Tri.neg_and k m, Tri.neg_and (Tri.or_ok h k) (Tri.or_ok h m), Tri.neg_or h k, Tri.neg_or h m]
  exact Tri.factor_or (Tri.neg_ok h) (Tri.neg_ok k) (Tri.neg_ok m))

/-! ### forms: first worth, last worth, times up -/
mutual
def Fm.tri (a b : List Int) : Fm → Tri
  | .st c => if c = true then .one else .nought
  | .inp i => ⟨(a.getD i 0).toNat, (b.getD i 0).toNat, max (a.getD i 0).toNat (b.getD i 0).toNat⟩
  | .no f => (f.tri a b).neg
  | .op c fs => Tri.op c (Fm.tris a b fs)
def Fm.tris (a b : List Int) : List Fm → List Tri
  | [] => []
  | f :: r => f.tri a b :: Fm.tris a b r
end
theorem Fm.tris_map (a b : List Int) : ∀ fs : List Fm, Fm.tris a b fs = fs.map (Fm.tri a b)
  | [] => rfl
  | f :: r => by
    show f.tri a b :: Fm.tris a b r = _
    rw [Fm.tris_map a b r]
    rfl
theorem row_get {r : List Int} (h : Row01 r) (i : Nat) : r.getD i 0 = 0 ∨ r.getD i 0 = 1 := by
  rw [List.getD_eq_getElem?_getD]
  cases e : r[i]? with
  | none => exact .inl rfl
  | some x => exact h x (List.mem_of_getElem? e)
section
variable {a b : List Int}
mutual
theorem Fm.tri_ok (ha : Row01 a) (hb : Row01 b) : ∀ f : Fm, (f.tri a b).Ok
  | .st c => by cases c <;> first | exact Tri.one_ok | exact Tri.nought_ok
  | .inp i => by
    have x := row_get ha i
    have y := row_get hb i
    refine ⟨?_, ?_, Nat.le_max_left _ _, Nat.le_max_right _ _⟩
    · show (a.getD i 0).toNat ≤ 1
      omega
    · show (b.getD i 0).toNat ≤ 1
      omega
  | .no f => Tri.neg_ok (Fm.tri_ok ha hb f)
  | .op c fs => Tri.op_ok (Fm.tris_ok ha hb fs)
theorem Fm.tris_ok (ha : Row01 a) (hb : Row01 b) : ∀ fs : List Fm, ∀ t ∈ Fm.tris a b fs, t.Ok
  | [], t, h => by cases h
  | f :: r, t, h => by
    rcases List.mem_cons.mp h with e | e
    · rw [e]; exact Fm.tri_ok ha hb f
    · exact Fm.tris_ok ha hb r t e
end
theorem Tri.all_f0 : ∀ ts : List Tri, (Tri.all ts).f = 0 ↔ ∃ t ∈ ts, t.f = 0
  | [] => ⟨fun h => absurd h (by decide), fun ⟨t, h, _⟩ => by cases h⟩
  | t :: r => by
    show (if t.f = 0 then 0 else (Tri.all r).f) = 0 ↔ _
    by_cases h : t.f = 0
    · rw [if_pos h]
      exact ⟨fun _ => ⟨t, List.mem_cons_self, h⟩, fun _ => rfl⟩
    · rw [if_neg h, Tri.all_f0 r]
      exact ⟨fun ⟨s, hs, e⟩ => ⟨s, List.mem_cons_of_mem _ hs, e⟩, fun ⟨s, hs, e⟩ => (List.mem_cons.mp hs).elim (fun k => absurd (k ▸ e) h) fun k => ⟨s, k, e⟩⟩
theorem Tri.all_l0 : ∀ ts : List Tri, (Tri.all ts).l = 0 ↔ ∃ t ∈ ts, t.l = 0
  | [] => ⟨fun h => absurd h (by decide), fun ⟨t, h, _⟩ => by cases h⟩
  | t :: r => by
    show (if t.l = 0 then 0 else (Tri.all r).l) = 0 ↔ _
    by_cases h : t.l = 0
    · rw [if_pos h]
      exact ⟨fun _ => ⟨t, List.mem_cons_self, h⟩, fun _ => rfl⟩
    · rw [if_neg h, Tri.all_l0 r]
      exact ⟨fun ⟨s, hs, e⟩ => ⟨s, List.mem_cons_of_mem _ hs, e⟩, fun ⟨s, hs, e⟩ => (List.mem_cons.mp hs).elim (fun k => absurd (k ▸ e) h) fun k => ⟨s, k, e⟩⟩
mutual
theorem Fm.tri_f (ha : Row01 a) (hb : Row01 b) : ∀ f : Fm, (((f.tri a b).f : Nat) : Int) = f.wo a
  | .st c => by cases c <;> rfl
  | .inp i => by
    have x := row_get ha i
    show (((a.getD i 0).toNat : Nat) : Int) = a.getD i 0
    omega
  | .no f => by
    have h := Fm.tri_f ha hb f
    have k := (Fm.tri_ok ha hb f).1
    show (((1 - (f.tri a b).f : Nat)) : Int) = 1 - f.wo a
    omega
  | .op c fs => by
    have h := Fm.tris_f ha hb fs
    have oks := Fm.tris_ok ha hb fs
    show (((Tri.op c (Fm.tris a b fs)).f : Nat) : Int) = if c = true then (if 0 ∈ Fm.wos a fs then 0 else 1) else (if 1 ∈ Fm.wos a fs then 1 else 0)
    have ok := (Tri.op_ok (c := c) oks).1
    rw [← h]
    cases c with
    | true =>
      have e := Tri.all_f0 (Fm.tris a b fs)
      have ok : (Tri.all (Fm.tris a b fs)).f ≤ 1 := ok
      show (((Tri.all (Fm.tris a b fs)).f : Nat) : Int) = if 0 ∈ (Fm.tris a b fs).map (fun t => ((t.f : Nat) : Int)) then 0 else 1
      by_cases z : ∃ t ∈ Fm.tris a b fs, t.f = 0
      · rw [e.mpr z, if_pos]
        · rfl
        · obtain ⟨t, ht, e⟩ := z
          exact List.mem_map.mpr ⟨t, ht, by omega⟩
      · rw [if_neg]
        · have : ¬ (Tri.all (Fm.tris a b fs)).f = 0 := fun k => z (e.mp k)
          omega
        · rintro k
          obtain ⟨t, ht, e⟩ := List.mem_map.mp k
          exact z ⟨t, ht, by omega⟩
    | false =>
      have e := Tri.all_f0 ((Fm.tris a b fs).map Tri.neg)
      have ok1 := (Tri.all_ok (Tri.map_ok oks)).1
      show (((1 - (Tri.all ((Fm.tris a b fs).map Tri.neg)).f : Nat)) : Int) = if 1 ∈ (Fm.tris a b fs).map (fun t => ((t.f : Nat) : Int)) then 1 else 0
      by_cases z : ∃ t ∈ Fm.tris a b fs, t.f = 1
      · obtain ⟨t, ht, e1⟩ := z
        rw [e.mpr ⟨t.neg, List.mem_map.mpr ⟨t, ht, rfl⟩, by show 1 - t.f = 0; omega⟩, if_pos]
        · rfl
        · exact List.mem_map.mpr ⟨t, ht, by omega⟩
      · rw [if_neg]
        · have : ¬ (Tri.all ((Fm.tris a b fs).map Tri.neg)).f = 0 := fun k => by
            obtain ⟨t, ht, e2⟩ := e.mp k
            obtain ⟨s, hs, rfl⟩ := List.mem_map.mp ht
            have e2 : 1 - s.f = 0 := e2
            have := (oks s hs).1
            exact z ⟨s, hs, by omega⟩
          omega
        · rintro k
          obtain ⟨t, ht, e⟩ := List.mem_map.mp k
          exact z ⟨t, ht, by omega⟩
theorem Fm.tris_f (ha : Row01 a) (hb : Row01 b) : ∀ fs : List Fm, (Fm.tris a b fs).map (fun t => ((t.f : Nat) : Int)) = Fm.wos a fs
  | [] => rfl
  | f :: r => by
    show (((f.tri a b).f : Nat) : Int) :: (Fm.tris a b r).map _ = f.wo a :: Fm.wos a r
    rw [Fm.tri_f ha hb f, Fm.tris_f ha hb r]
end
/-- the other way about -/
def Tri.rev (t : Tri) : Tri := ⟨t.l, t.f, t.u⟩
theorem Tri.rev_and (s t : Tri) : (s.and t).rev = s.rev.and t.rev := rfl
theorem Tri.rev_neg (t : Tri) : t.neg.rev = t.rev.neg := Tri.mk_eq rfl rfl (by show t.u + 1 - t.f - t.l = t.u + 1 - t.l - t.f; omega)
theorem Tri.rev_all : ∀ ts : List Tri, (Tri.all ts).rev = Tri.all (ts.map Tri.rev)
  | [] => rfl
  | t :: r => by
    show (t.and (Tri.all r)).rev = t.rev.and (Tri.all (r.map Tri.rev))
    rw [Tri.rev_and, Tri.rev_all r]
theorem Tri.rev_op (c : Bool) (ts : List Tri) : (Tri.op c ts).rev = Tri.op c (ts.map Tri.rev) := by
  unfold Tri.op
  split
  · exact Tri.rev_all ts
  · rw [Tri.rev_neg, Tri.rev_all, List.map_map, List.map_map]
    congr 2
    exact List.map_congr_left fun t _ => Tri.rev_neg t
mutual
theorem Fm.tri_rev : ∀ f : Fm, (f.tri a b).rev = f.tri b a
  | .st c => by cases c <;> rfl
  | .inp i => Tri.mk_eq rfl rfl (Nat.max_comm _ _)
  | .no f => by
    show (f.tri a b).neg.rev = (f.tri b a).neg
    rw [Tri.rev_neg, Fm.tri_rev f]
  | .op c fs => by
    show (Tri.op c (Fm.tris a b fs)).rev = Tri.op c (Fm.tris b a fs)
    rw [Tri.rev_op, Fm.tris_rev fs]
theorem Fm.tris_rev : ∀ fs : List Fm, (Fm.tris a b fs).map Tri.rev = Fm.tris b a fs
  | [] => rfl
  | f :: r => by
    show (f.tri a b).rev :: (Fm.tris a b r).map Tri.rev = f.tri b a :: Fm.tris b a r
    rw [Fm.tri_rev f, Fm.tris_rev r]
end
theorem Fm.tri_l (ha : Row01 a) (hb : Row01 b) (f : Fm) : (((f.tri a b).l : Nat) : Int) = f.wo b := by
  have := Fm.tri_f hb ha f
  rw [← Fm.tri_rev (a := a) (b := b) f] at this
  exact this
theorem Fm.tri_app (c : Bool) (xs : List Fm) : (Fm.op c xs).tri a b = Tri.op c (xs.map (Fm.tri a b)) := by
  show Tri.op c (Fm.tris a b xs) = _
  rw [Fm.tris_map]
theorem Fm.map_ok (ha : Row01 a) (hb : Row01 b) (xs : List Fm) : ∀ t ∈ xs.map (Fm.tri a b), t.Ok := fun t ht => by
  obtain ⟨f, _, rfl⟩ := List.mem_map.mp ht
  exact Fm.tri_ok ha hb f
theorem Fm.cnts_mem : ∀ {fs : List Fm} {f : Fm}, f ∈ fs → f.cnt ≤ Fm.cnts fs
  | g :: r, f, h => by
    show f.cnt ≤ g.cnt + Fm.cnts r
    rcases List.mem_cons.mp h with e | e
    · rw [e]; omega
    · have := Fm.cnts_mem e
      omega
theorem at_0 (v : V) (r : List V) : atI (v :: r) 0 = some v := atI_nat (j := 0) (xs := v :: r) rfl
theorem at_1 (u v : V) (r : List V) : atI (u :: v :: r) 1 = some v := atI_nat (j := 1) (xs := u :: v :: r) rfl
end

end
end Gk

set_option Elab.async false
set_option linter.all false
set_option maxRecDepth 100000
set_option maxHeartbeats 1000000
set_option pp.maxSteps 1500
set_option pp.deepTerms false
namespace Gk
open PySem PySem.Spec PyProof.Rows L2
section
variable {P : Program} {w : World} {K : PySem.W.Frag} {mg : Str → Option Value} {base : Heap}
/-! ### how often a form changes at the most -/
def Tri.d (t : Tri) : PyData := .tuple [.int ((t.f : Nat) : Int), .int ((t.num : Nat) : Int)]
theorem Tri.noLd (t : Tri) : noL t.d = true := rfl
theorem Tri.inv {H : Hp} {v : V} {t : Tri} (h : Tk H v t.d) : ∃ p, v = .ref p ∧ H p = some (.tup [.int ((t.f : Nat) : Int), .int ((t.num : Nat) : Int)]) := by
  have h : Tk H v (.tuple [.int ((t.f : Nat) : Int), .int ((t.num : Nat) : Int)]) := h
  cases h with
  | @tup p xs _ hp all =>
    cases all with
    | cons a r => cases r with
      | cons b e =>
        cases e
        cases a
        cases b
        exact ⟨p, rfl, hp⟩
theorem Tri.tk {H : Hp} {p : Addr} {f n : Int} {t : Tri} (h : H p = some (.tup [.int f, .int n])) (e1 : f = ((t.f : Nat) : Int)) (e2 : n = ((t.num : Nat) : Int)) : Tk H (.ref p) t.d := by
  subst e1 e2
  exact .tup h (.cons (.int _) (.cons (.int _) .nil))
theorem Tri.num_neg {t : Tri} (h : t.Ok) : t.neg.num = t.num := by
  obtain ⟨a, b, c, d⟩ := h
  show 2 * (t.u + 1 - t.f - t.l) - (1 - t.f) - (1 - t.l) = 2 * t.u - t.f - t.l
  omega
def sp_about (K : PySem.W.Frag) : Sp := fun vs H Q _ => ∃ (v : V) (t : Tri), vs = [v] ∧ Tk H v t.d ∧ t.Ok ∧ ∀ r H', Same H H' → Tk H' r t.neg.d → Q r H'
theorem ok_about (T : Tx w K mg) : FnOk P w K mg base CX0 1 T.f_about T.fd_about ["most"] (sp_about K) := by
  refine T.F_about.ok sc_about (fun vs H Q E h => ?_) (fun cdv A outer s H vs Q E hr h => ?_)
  · obtain ⟨v, t, rfl, _⟩ := h
    rfl
  · obtain ⟨v, t, rfl, tk, ok, q⟩ := h
    refine ⟨_, (pss_cons (ps_asg (pv 0) (pg_tup rfl (pgs_cons (pg_name (i := 1) sc_about.nd rfl (by first | exact .inl rfl | exact .inr rfl)) (pgs_cons (pg_name (i := 2) sc_about.nd rfl (by first | exact .inl rfl | exact .inr rfl)) pgs_nil)))) (pss_one (ps_ret (pe_tup (pa_cons (pe_op op_sub pe_int (pv 1)) (pa_cons (pv 2) pa_nil)))))), ?_⟩
    obtain ⟨p, rfl, hp⟩ := Tri.inv tk
    refine ⟨.ref p, rfl, p, _, rfl, SqT.of hp, rfl, _, _, rfl, _, _, rfl, rfl, ?_⟩
    refine ⟨_, rfl, _, _, rfl, rfl, _, rfl, sl2, fun r nr => ?_⟩
    refine q _ _ (same_upd nr) (Tri.tk upd_same ?_ (by rw [Tri.num_neg ok]))
    have := ok.1
    show (1 : Int) - ((t.f : Nat) : Int) = ((1 - t.f : Nat) : Int)
    omega
theorem Tri.all_snoc {xs : List Tri} {t : Tri} (ok : t.Ok) : Tri.all (xs ++ [t]) = (Tri.all xs).and t := by
  rw [Tri.all_app (fun s hs => by rw [List.mem_singleton.mp hs]; exact ok)]
  show _ = _
  rw [show Tri.all [t] = t from Tri.and_one ok]
theorem Tri.num_eq {t : Tri} (ok : t.Ok) : ((t.num : Nat) : Int) = 2 * (t.u : Int) - (t.f : Int) - (t.l : Int) := by
  obtain ⟨a, b, c, d⟩ := ok
  show ((2 * t.u - t.f - t.l : Nat) : Int) = _
  omega
theorem Tri.last_of {t : Tri} (ok : t.Ok) : Builtin.bitXor ((t.f : Nat) : Int) (Builtin.bitAnd ((t.num : Nat) : Int) 1) = ((t.l : Nat) : Int) := by
  have e : Builtin.bitAnd ((t.num : Nat) : Int) 1 = ((t.num : Nat) : Int) % 2 := Bits.bitAnd_mask 1 (by omega)
  have n := Tri.num_eq ok
  obtain ⟨a, b, c, d⟩ := ok
  have F : t.f = 0 ∨ t.f = 1 := by omega
  have L : t.l = 0 ∨ t.l = 1 := by omega
  rw [e]
  rcases F with F | F <;> rcases L with L | L <;> rw [F, L] at n <;> rw [F, L]
  · rw [show ((t.num : Nat) : Int) % 2 = 0 by omega]; decide +kernel
  · rw [show ((t.num : Nat) : Int) % 2 = 1 by omega]; decide +kernel
  · rw [show ((t.num : Nat) : Int) % 2 = 1 by omega]; decide +kernel
  · rw [show ((t.num : Nat) : Int) % 2 = 0 by omega]; decide +kernel
theorem Tri.least_f {xs : List Tri} {t : Tri} {i : Nat} {acc : Option Int} (ok : t.Ok) (oks : ∀ s ∈ xs, s.Ok) (hi : i = xs.length) (h : acc = if i = 0 then none else some (((Tri.all xs).f : Nat) : Int)) : GxM.lessM acc ((t.f : Nat) : Int) = (((Tri.all (xs ++ [t])).f : Nat) : Int) := by
  rw [Tri.all_snoc ok]
  have a := (Tri.all_ok oks).1
  have b := ok.1
  cases xs with
  | nil =>
    rw [if_pos (show i = 0 from hi)] at h
    subst h
    show ((t.f : Nat) : Int) = ((Tri.one.and t).f : Int)
    rw [Tri.one_and ok]
  | cons y r =>
    rw [if_neg (by rw [hi]; simp)] at h
    subst h
    show (if ((t.f : Nat) : Int) < (((Tri.all (y :: r)).f : Nat) : Int) then ((t.f : Nat) : Int) else (((Tri.all (y :: r)).f : Nat) : Int)) = ((if (Tri.all (y :: r)).f = 0 then 0 else t.f : Nat) : Int)
    repeat' split
    all_goals omega
theorem Tri.least_l {xs : List Tri} {t : Tri} {i : Nat} {acc : Option Int} (ok : t.Ok) (oks : ∀ s ∈ xs, s.Ok) (hi : i = xs.length) (h : acc = if i = 0 then none else some (((Tri.all xs).l : Nat) : Int)) : GxM.lessM acc ((t.l : Nat) : Int) = (((Tri.all (xs ++ [t])).l : Nat) : Int) := by
  rw [Tri.all_snoc ok]
  have a := (Tri.all_ok oks).2.1
  have b := ok.2.1
  cases xs with
  | nil =>
    rw [if_pos (show i = 0 from hi)] at h
    subst h
    show ((t.l : Nat) : Int) = ((Tri.one.and t).l : Int)
    rw [Tri.one_and ok]
  | cons y r =>
    rw [if_neg (by rw [hi]; simp)] at h
    subst h
    show (if ((t.l : Nat) : Int) < (((Tri.all (y :: r)).l : Nat) : Int) then ((t.l : Nat) : Int) else (((Tri.all (y :: r)).l : Nat) : Int)) = ((if (Tri.all (y :: r)).l = 0 then 0 else t.l : Nat) : Int)
    repeat' split
    all_goals omega
theorem Tri.all_u : ∀ {ts : List Tri}, (∀ t ∈ ts, 0 < t.u) → (((Tri.all ts).u : Nat) : Int) = 1 + (ts.map fun t => ((t.u : Nat) : Int) - 1).sum
  | [], _ => rfl
  | t :: r, h => by
    have a := h t List.mem_cons_self
    have b := Tri.all_u (ts := r) fun x hx => h x (List.mem_cons_of_mem _ hx)
    have c : ∀ l : List Tri, (∀ t ∈ l, 0 < t.u) → 0 ≤ (l.map fun t => ((t.u : Nat) : Int) - 1).sum := fun l => by
      induction l with
      | nil => intro _; exact Int.le_refl _
      | cons x l ih =>
        intro hl
        have := ih fun y hy => hl y (List.mem_cons_of_mem _ hy)
        have := hl x List.mem_cons_self
        rw [List.map_cons, List.sum_cons]
        omega
    have d := c r fun x hx => h x (List.mem_cons_of_mem _ hx)
    show ((if t.u = 0 then 0 else if (Tri.all r).u = 0 then 0 else t.u + (Tri.all r).u - 1 : Nat) : Int) = _
    rw [List.map_cons, List.sum_cons, if_neg (by omega), if_neg (by omega)]
    omega
theorem Tri.all_u0 : ∀ {ts : List Tri} {t : Tri}, t ∈ ts → t.u = 0 → (Tri.all ts).u = 0
  | s :: r, t, h, e => by
    show (if s.u = 0 then 0 else if (Tri.all r).u = 0 then 0 else s.u + (Tri.all r).u - 1) = 0
    rcases List.mem_cons.mp h with k | k
    · rw [if_pos (by rw [← k]; exact e)]
    · rw [if_pos (c := (Tri.all r).u = 0) (Tri.all_u0 k e)]
      split <;> rfl
def sp_most_and (K : PySem.W.Frag) (P : Addr) : Sp := fun vs H Q _ => ∃ (p : Addr) (us : List V) (ts : List Tri), vs = [.ref p] ∧ H p = some (.lst us) ∧ TkAll H us (ts.map Tri.d) ∧ ts ≠ [] ∧ ts.length ≤ 4 ∧ (∀ t ∈ ts, t.Ok ∧ t.u ≤ 1000) ∧ GxR.TabG H P ∧ ∀ r H', Gr H H' → Tk H' r (Tri.all ts).d → Q r H'
theorem ok_most_of_and (T : Tx w K mg) (B : Tb base T) : FnOk P w K mg base CX0 6 T.f_most_of_and T.fd_most_of_and ["parts"] (sp_most_and K T.P_most_of_and) := by
  refine okC T.F_most_of_and sc_most_of_and (fun vs H Q E h => ?_) (fun A outer s H vs Q E hr h => ?_)
  · obtain ⟨p, us, ts, rfl, _⟩ := h
    rfl
  · obtain ⟨p, us, ts, rfl, hp, tus, ne, l4, oks, tm, q⟩ := h
    refine ⟨_, (pss_cons (ps_set (i := 1) sc_most_of_and.nd rfl (by first | exact .inl rfl | exact .inr rfl) (GxM.pe_minX (own := [("begin", 5), ("number", 6)]) (k := 0) (hr.mono (by decide)) rfl sc_most_of_and.nd (by rfl) T.m_min (by decide +kernel) B.TB_most_of_and T.cd_most_of_and rfl rfl (by decide +kernel) (blkOk_by (own := [("begin", 5), ("number", 6)]) (N := ["parts", "first", "last", "ups", "spells", "begin", "number", "up"]) (sc := defScope s_most_of_and) (by decide +kernel)) (pi_list (pv 0)) (fun _ _ _ _ _ _ _ hr gd => (show PG _ _ (gTup K 2 _) from pg_tup rfl (pgs_cons (pg_name (i := 5) sc_most_of_and.nd rfl (by first | exact .inl rfl | exact .inr rfl)) (pgs_cons (pg_name (i := 6) sc_most_of_and.nd rfl (by first | exact .inl rfl | exact .inr rfl)) pgs_nil)))) (fun _ _ _ _ _ _ _ hr gd => pts_nil) (fun _ _ _ _ _ _ _ hr gd => (pv 5)) (fun _ => rfl))) (pss_cons (ps_set (i := 2) sc_most_of_and.nd rfl (by first | exact .inl rfl | exact .inr rfl) (GxM.pe_minX (own := [("begin", 5), ("number", 6)]) (k := 0) (hr.mono (by decide)) rfl sc_most_of_and.nd (by rfl) T.m_min (by decide +kernel) B.TB_most_of_and T.cd_most_of_and rfl rfl (by decide +kernel) (blkOk_by (own := [("begin", 5), ("number", 6)]) (N := ["parts", "first", "last", "ups", "spells", "begin", "number", "up"]) (sc := defScope s_most_of_and) (by decide +kernel)) (pi_list (pv 0)) (fun _ _ _ _ _ _ _ hr gd => (show PG _ _ (gTup K 2 _) from pg_tup rfl (pgs_cons (pg_name (i := 5) sc_most_of_and.nd rfl (by first | exact .inl rfl | exact .inr rfl)) (pgs_cons (pg_name (i := 6) sc_most_of_and.nd rfl (by first | exact .inl rfl | exact .inr rfl)) pgs_nil)))) (fun _ _ _ _ _ _ _ hr gd => pts_nil) (fun _ _ _ _ _ _ _ hr gd => (pe_op op_xor (pv 5) (pe_op op_and (pv 6) pe_int))) (fun _ => rfl))) (pss_cons (ps_setLc (i := 3) (own := [("begin", 5), ("number", 6)]) (by rfl) sc_most_of_and.nd rfl rfl (sw_true rfl rfl rfl (by decide +kernel)) (pi_list (pv 0)) (blkOk_by (own := [("begin", 5), ("number", 6)]) (N := ["parts", "first", "last", "ups", "spells", "begin", "number", "up"]) (sc := defScope s_most_of_and) (by decide +kernel)) (fun _ _ _ _ _ => (show PG _ _ (gTup K 2 _) from pg_tup rfl (pgs_cons (pg_name (i := 5) sc_most_of_and.nd rfl (by first | exact .inl rfl | exact .inr rfl)) (pgs_cons (pg_name (i := 6) sc_most_of_and.nd rfl (by first | exact .inl rfl | exact .inr rfl)) pgs_nil)))) (fun _ _ _ _ _ => pts_nil) (fun _ _ _ _ _ => (pe_op op_fdiv (pe_op op_add (pe_op op_add (pv 6) pe_int) (pv 5)) pe_int))) (pss_cons (ps_set (i := 4) sc_most_of_and.nd rfl (by first | exact .inl rfl | exact .inr rfl) (pe_cut (pe_ifExp (pt_truth (pe_callB (cr_min rfl) (by rfl) T.m_min (by decide +kernel) (pa_cons (pv 3) pa_nil)) (by intro _; rfl)) (pe_op op_add pe_int (GxS.pe_sumX (own := [("up", 7)]) (k := 0) (hr.mono (by decide)) rfl sc_most_of_and.nd (by rfl) T.m_sum (by decide +kernel) B.TB_most_of_and T.cd_most_of_and rfl rfl (by decide +kernel) (blkOk_by (own := [("up", 7)]) (N := ["parts", "first", "last", "ups", "spells", "begin", "number", "up"]) (sc := defScope s_most_of_and) (by decide +kernel)) (pi_list (pv 3)) (fun _ _ _ _ _ _ _ hr gd => (pg_name (i := 7) sc_most_of_and.nd rfl (by first | exact .inl rfl | exact .inr rfl))) (fun _ _ _ _ _ _ _ hr gd => pts_nil) (fun _ _ _ _ _ _ _ hr gd => (pe_op op_sub (pv 7) pe_int)) (fun _ => rfl))) pe_int))) (pss_one (ps_ret (pe_tup (pa_cons (pv 1) (pa_cons (pe_op op_sub (pe_op op_sub (pe_op op_mul pe_int (pv 4)) (pv 1)) (pv 2)) pa_nil))))))))), ?_⟩
    have lus : us.length = ts.length := by rw [tus.length, List.length_map]
    have okA : ∀ t ∈ ts, t.Ok := fun t ht => (oks t ht).1
    have okT : ∀ i, ∀ t ∈ ts.take i, t.Ok := fun i t ht => okA t (List.mem_of_mem_take ht)
    have at_ : ∀ {H' : Hp} {i : Nat} {x : V}, Gr H H' → us[i]? = some x → ∃ q t, x = .ref q ∧ ts[i]? = some t ∧ H' q = some (.tup [.int ((t.f : Nat) : Int), .int ((t.num : Nat) : Int)]) := fun {H' i x} g hx => by
      obtain ⟨d, hd, td⟩ := tus.get hx
      rw [List.getElem?_map] at hd
      obtain ⟨t, ht, rfl⟩ := Option.map_eq_some_iff.mp hd
      obtain ⟨q, rfl, hq⟩ := Tri.inv td
      exact ⟨q, t, rfl, ht, g.tup hq⟩
    have tk_ : ∀ {i : Nat} {t : Tri}, ts[i]? = some t → ts.take (i + 1) = ts.take i ++ [t] ∧ i = (ts.take i).length := fun {i t} ht => by
      have := (List.getElem?_eq_some_iff.mp ht).1
      exact ⟨by rw [List.take_add_one, ht]; rfl, by rw [List.length_take]; omega⟩
    refine ⟨.ref p, rfl, p, rfl, ⟨_, SqL.of hp⟩, tm, fun H1 tb1 => ?_⟩
    have g1 := Gr.tab tm tb1
    refine gx_list (K := K) (a := p) (xs := us) (fun i acc H' => Gr H1 H' ∧ acc = if i = 0 then none else some (((Tri.all (ts.take i)).f : Nat) : Int)) ⟨Gr.refl, rfl⟩ (fun i ys H' _ hP => SqL.of ((g1.trans hP.1).lst hp)) ?_ ?_
    · rintro i x acc H2 hx ⟨g2, ha⟩
      obtain ⟨q, t, rfl, ht, hq⟩ := at_ (g1.trans g2) hx
      obtain ⟨e1, e2⟩ := tk_ ht
      refine ⟨q, _, rfl, SqT.of hq, rfl, _, _, rfl, _, _, rfl, rfl, rfl, _, rfl, _, rfl, g2, ?_⟩
      rw [if_neg (Nat.succ_ne_zero i), Tri.least_f (okA t (List.mem_of_getElem? ht)) (okT i) e2 ha, e1]
    rintro acc H2 ⟨g2, ha⟩
    have l0 : ¬ us.length = 0 := fun z => ne (List.eq_nil_of_length_eq_zero (by omega))
    rw [if_neg l0, lus, List.take_length] at ha
    refine ⟨_, ha, ?_⟩
    have g02 := g1.trans g2
    refine ⟨.ref p, rfl, p, rfl, ⟨_, SqL.of (g02.lst hp)⟩, g02.2 _ tm, fun H3 tb3 => ?_⟩
    have g3 := g02.trans (Gr.tab (g02.2 _ tm) tb3)
    refine gx_list (K := K) (a := p) (xs := us) (fun i acc H' => Gr H3 H' ∧ acc = if i = 0 then none else some (((Tri.all (ts.take i)).l : Nat) : Int)) ⟨Gr.refl, rfl⟩ (fun i ys H' _ hP => SqL.of ((g3.trans hP.1).lst hp)) ?_ ?_
    · rintro i x acc H2 hx ⟨g2, ha⟩
      obtain ⟨q, t, rfl, ht, hq⟩ := at_ (g3.trans g2) hx
      obtain ⟨e1, e2⟩ := tk_ ht
      have okt := okA t (List.mem_of_getElem? ht)
      refine ⟨q, _, rfl, SqT.of hq, rfl, _, _, rfl, _, _, rfl, rfl, rfl, _, rfl, _, rfl, _, _, rfl, rfl, _, _, rfl, rfl, _, rfl, g2, ?_⟩
      rw [if_neg (Nat.succ_ne_zero i), Tri.last_of okt, Tri.least_l okt (okT i) e2 ha, e1]
    rintro acc2 H4 ⟨g4, ha2⟩
    rw [if_neg l0, lus, List.take_length] at ha2
    refine ⟨_, ha2, ?_⟩
    have g04 := g3.trans g4
    have hp4 := g04.lst hp
    refine ⟨.ref p, rfl, p, rfl, ⟨_, SqL.of hp4⟩, fun D nD => ?_⟩
    refine lc_list (K := K) (a := p) (xs := us) (fun i H' => Same H4 (hd1 D H') ∧ H' D = some (.lst (((ts.take i).map fun t => ((t.u : Nat) : Int)).map V.int))) ⟨hd1_of (same_upd nD) nD, upd_same⟩ (fun i H' _ z => SqL.of (hd1_le _ _ (z.1 _ _ hp4))) ?_ ?_
    · rintro i x H5 hx ⟨s5, hD⟩
      obtain ⟨q, t, rfl, ht, hq⟩ := at_ g04 hx
      obtain ⟨e1, e2⟩ := tk_ ht
      have okt := okA t (List.mem_of_getElem? ht)
      have n := Tri.num_eq okt
      obtain ⟨k1, k2, k3, k4⟩ := id okt
      refine ⟨q, _, rfl, SqT.of (hd1_le _ _ (s5 _ _ hq)), rfl, _, _, rfl, _, _, rfl, rfl, rfl, _, rfl, _, _, rfl, rfl, _, rfl, _, _, rfl, rfl, _, _, rfl, rfl, ?_, _, hD, ?_, s5.trans hd1_upd, ?_⟩
      · exact ⟨by decide, by decide⟩
      · rw [List.length_map, List.length_map, ← e2]
        exact Nat.lt_of_le_of_lt (show i ≤ 4 by have := (List.getElem?_eq_some_iff.mp ht).1; omega) (by decide)
      · rw [upd_same, e1, List.map_append, List.map_append]
        have e : (((t.num : Nat) : Int) + 1 + ((t.f : Nat) : Int)) / 2 = ((t.u : Nat) : Int) := by
          rw [n]
          omega
        show some (HO.lst (_ ++ [V.int ((((t.num : Nat) : Int) + 1 + ((t.f : Nat) : Int)) / 2)])) = _
        rw [e]
        rfl
    rintro H5 ⟨s5, hD⟩
    rw [lus, List.take_length] at hD
    have g05 : Gr H H5 := g04.trans (Gr.of fun b o z => hd1_le _ _ (s5 b o z))
    have pu : (ts.map fun t => ((t.u : Nat) : Int)) ≠ [] := fun z => ne (List.map_eq_nil_iff.mp z)
    refine ⟨fun u H' => u = .int ((Tri.all ts).u : Nat) ∧ Gr H H', ?_, ?_⟩
    · refine ⟨.ref D, rfl, D, _, rfl, SqL.of hD, List.length_pos_iff.mpr pu, fun m hm lm => ?_⟩
      refine ⟨(m != 0), rfl, ?_⟩
      by_cases m0 : m = 0
      · rw [show (m != 0) = false by simp [m0]]
        refine iteF ?_
        obtain ⟨t, ht, e⟩ := List.mem_map.mp hm
        have e : ((t.u : Nat) : Int) = m := e
        rw [Tri.all_u0 ht (by omega)]
        exact ⟨rfl, g05⟩
      rw [show (m != 0) = true by simp [m0]]
      refine iteT ?_
      have pos : ∀ t ∈ ts, 0 < t.u := fun t ht => by
        obtain ⟨s, hs, e⟩ := List.mem_map.mp hm
        have e : ((s.u : Nat) : Int) = m := e
        have := lm ((t.u : Nat) : Int) (List.mem_map.mpr ⟨t, ht, rfl⟩)
        omega
      refine ⟨.ref D, rfl, D, rfl, ⟨_, SqL.of hD⟩, g05.2 _ tm, fun H6 tb6 => ?_⟩
      have g6 := g05.trans (Gr.tab (g05.2 _ tm) tb6)
      have hD6 := (Gr.tab (g05.2 _ tm) tb6).lst hD
      have low : ∀ i, 0 ≤ ((ts.take i).map fun t => ((t.u : Nat) : Int) - 1).sum ∧ ((ts.take i).map fun t => ((t.u : Nat) : Int) - 1).sum ≤ 1000 * i := fun i => by
        induction i with
        | zero => exact ⟨Int.le_refl _, Int.le_refl _⟩
        | succ i ih =>
          rw [List.take_add_one]
          cases e : ts[i]? with
          | none =>
            rw [show (none : Option Tri).toList = [] from rfl, List.append_nil]
            exact ⟨ih.1, by have := ih.2; push_cast; omega⟩
          | some t =>
            have a := pos t (List.mem_of_getElem? e)
            have b := (oks t (List.mem_of_getElem? e)).2
            rw [show (some t).toList = [t] from rfl, List.map_append, List.sum_append]
            have := ih.1
            have := ih.2
            simp only [List.map_cons, List.map_nil, List.sum_cons, List.sum_nil]
            push_cast
            exact ⟨by omega, by omega⟩
      refine gx_list (K := K) (a := D) (xs := (ts.map fun t => ((t.u : Nat) : Int)).map V.int) (fun i acc H' => Gr H6 H' ∧ acc = ((ts.take i).map fun t => ((t.u : Nat) : Int) - 1).sum) ⟨Gr.refl, rfl⟩ (fun i ys H' _ hP => SqL.of (hP.1.lst hD6)) ?_ ?_
      · rintro i x acc H7 hx ⟨g7, rfl⟩
        rw [List.getElem?_map, List.getElem?_map] at hx
        obtain ⟨y, hy, rfl⟩ := Option.map_eq_some_iff.mp hx
        obtain ⟨t, ht, rfl⟩ := Option.map_eq_some_iff.mp hy
        have i4 := (List.getElem?_eq_some_iff.mp ht).1
        obtain ⟨e1, _⟩ := tk_ ht
        have a := low i
        have b := low (i + 1)
        have c := pos t (List.mem_of_getElem? ht)
        have d := (oks t (List.mem_of_getElem? ht)).2
        have es : ((ts.take (i + 1)).map fun t => ((t.u : Nat) : Int) - 1).sum = ((ts.take i).map fun t => ((t.u : Nat) : Int) - 1).sum + (((t.u : Nat) : Int) - 1) := by
          rw [e1, List.map_append, List.sum_append]
          simp only [List.map_cons, List.map_nil, List.sum_cons, List.sum_nil]
          omega
        refine ⟨rfl, _, rfl, _, _, rfl, rfl, _, rfl, ⟨by omega, by omega⟩, ⟨by omega, by omega⟩, g7, es.symm⟩
      rintro acc H7 ⟨g7, rfl⟩
      refine ⟨_, _, rfl, rfl, ?_, g6.trans g7⟩
      rw [List.length_map, List.length_map, List.take_length, Tri.all_u pos]
    rintro u H6 ⟨rfl, g6⟩
    have okk := Tri.all_ok okA
    have n := Tri.num_eq okk
    refine ⟨_, rfl, _, rfl, _, _, rfl, rfl, .inl ⟨by decide, by decide⟩, _, rfl, _, _, rfl, rfl, _, rfl, _, _, rfl, rfl, sl2, fun r nr => ?_⟩
    exact q _ _ (g6.trans (Gr.of (same_upd nr))) (Tri.tk upd_same rfl n.symm)
/-! ### how often parts change at most: bounds -/
def Tri.lt (B : Nat) (t : Tri) : Prop := t.u ≤ B ∧ t.neg.u ≤ B
theorem Tri.all_le : ∀ {ts : List Tri}, (∀ t ∈ ts, t.Ok) → (Tri.all ts).u ≤ (ts.map fun t => t.u).sum + 1 ∧ (ts ≠ [] → (Tri.all ts).u ≤ (ts.map fun t => t.u).sum)
  | [], _ => ⟨Nat.le_refl _, fun h => absurd rfl h⟩
  | t :: r, h => by
    have a := Tri.all_le (ts := r) fun x hx => h x (List.mem_cons_of_mem _ hx)
    have e : (Tri.all (t :: r)).u ≤ t.u + (r.map fun t => t.u).sum := by
      show (if t.u = 0 then 0 else if (Tri.all r).u = 0 then 0 else t.u + (Tri.all r).u - 1) ≤ _
      have := a.1
      repeat' split
      all_goals omega
    rw [List.map_cons, List.sum_cons]
    exact ⟨Nat.le_succ_of_le e, fun _ => e⟩
section
variable {a b : List Int}
mutual
theorem Fm.tri_lt (ha : Row01 a) (hb : Row01 b) {m : Nat} : ∀ f : Fm, f.ok m = true → (f.tri a b).lt f.cnt
  | .st c, _ => by
    cases c
    · exact ⟨Nat.zero_le 1, Nat.le_refl 1⟩
    · exact ⟨Nat.le_refl 1, Nat.zero_le 1⟩
  | .inp i, _ => by
    have x := row_get ha i
    have y := row_get hb i
    refine ⟨?_, ?_⟩
    · show max (a.getD i 0).toNat (b.getD i 0).toNat ≤ 1
      omega
    · show max (a.getD i 0).toNat (b.getD i 0).toNat + 1 - (a.getD i 0).toNat - (b.getD i 0).toNat ≤ 1
      omega
  | .no f, h => by
    have h : f.ok m = true := h
    obtain ⟨x, y⟩ := Fm.tri_lt ha hb f h
    refine ⟨?_, ?_⟩
    · show (f.tri a b).neg.u ≤ 1 + f.cnt
      omega
    · show (f.tri a b).neg.neg.u ≤ 1 + f.cnt
      rw [Tri.neg_neg (Fm.tri_ok ha hb f)]
      omega
  | .op c fs, h => by
    have h : ((decide (2 ≤ fs.length) && decide (fs.length ≤ 4)) && Fm.oks m fs) = true := h
    rw [Bool.and_eq_true, Bool.and_eq_true] at h
    have l2 : 2 ≤ fs.length := of_decide_eq_true h.1.1
    obtain ⟨x, y⟩ := Fm.tris_lt ha hb fs h.2
    have oks := Fm.tris_ok ha hb fs
    have nn : Fm.tris a b fs ≠ [] := by
      cases fs with
      | nil => simp at l2
      | cons _ _ => intro z; cases z
    have up : ∀ t : Tri, t.Ok → t.neg.u ≤ t.u + 1 := fun t _ => by
      show t.u + 1 - t.f - t.l ≤ t.u + 1
      omega
    have nt : ∀ ts : List Tri, (ts.map Tri.neg).map (fun t => t.u) = ts.map fun t => t.neg.u := fun ts => by rw [List.map_map]; rfl
    cases c with
    | true =>
      have e := (Tri.all_le oks).2 nn
      have k := up _ (Tri.all_ok oks)
      refine ⟨?_, ?_⟩
      · show (Tri.all (Fm.tris a b fs)).u ≤ 1 + Fm.cnts fs
        omega
      · show (Tri.all (Fm.tris a b fs)).neg.u ≤ 1 + Fm.cnts fs
        omega
    | false =>
      have e := (Tri.all_le (Tri.map_ok oks)).2 (fun z => nn (List.map_eq_nil_iff.mp z))
      have k := up _ (Tri.all_ok (Tri.map_ok oks))
      rw [nt] at e
      refine ⟨?_, ?_⟩
      · show (Tri.all ((Fm.tris a b fs).map Tri.neg)).neg.u ≤ 1 + Fm.cnts fs
        omega
      · show (Tri.all ((Fm.tris a b fs).map Tri.neg)).neg.neg.u ≤ 1 + Fm.cnts fs
        rw [Tri.neg_neg (Tri.all_ok (Tri.map_ok oks))]
        omega
theorem Fm.tris_lt (ha : Row01 a) (hb : Row01 b) {m : Nat} : ∀ fs : List Fm, Fm.oks m fs = true → ((Fm.tris a b fs).map fun t => t.u).sum ≤ Fm.cnts fs ∧ ((Fm.tris a b fs).map fun t => t.neg.u).sum ≤ Fm.cnts fs
  | [], _ => ⟨Nat.le_refl _, Nat.le_refl _⟩
  | f :: r, h => by
    have h : (f.ok m && Fm.oks m r) = true := h
    rw [Bool.and_eq_true] at h
    obtain ⟨x, y⟩ := Fm.tri_lt ha hb f h.1
    obtain ⟨x', y'⟩ := Fm.tris_lt ha hb r h.2
    show (((f.tri a b) :: Fm.tris a b r).map fun t => t.u).sum ≤ f.cnt + Fm.cnts r ∧ (((f.tri a b) :: Fm.tris a b r).map fun t => t.neg.u).sum ≤ f.cnt + Fm.cnts r
    rw [List.map_cons, List.map_cons, List.sum_cons, List.sum_cons]
    exact ⟨by omega, by omega⟩
end
end
/-! ### how often a form changes at the most, read -/
def sp_most (T : Tx w K mg) (e : Nat) : Sp := fun vs H Q _ => ∃ (v c : V) (f : Fm) (m : Nat) (a b : List Int), vs = [v, c] ∧ Tk H v f.d ∧ f.ok m = true ∧ f.dep ≤ e ∧ f.cnt ≤ 1000 ∧ Tk H c (chD a b) ∧ a.length = m ∧ b.length = m ∧ Row01 a ∧ Row01 b ∧ GxR.TabG H T.P_most_of_and ∧ ∀ r H', Gr H H' → Tk H' r (f.tri a b).d → Q r H'
theorem ok_mostE (T : Tx w K mg) (B : Tb base T) : ∀ e : Nat, FnOk P w K mg base CX0 (e + 8) T.f_most_of T.fd_most_of ["form", "change"] (sp_most T e)
  | 0 => ⟨fun _ _ _ _ h => by obtain ⟨_, _, f, _, _, _, _, _, _, h, _⟩ := h; exact absurd h (by have := Fm.dep_pos f; omega), fun _ _ _ _ _ _ _ _ _ _ _ _ _ h => by obtain ⟨_, _, f, _, _, _, _, _, _, h, _⟩ := h; exact absurd h (by have := Fm.dep_pos f; omega)⟩
  | e + 1 => by
    have ih := ok_mostE T B e
    refine T.F_most_of.ok sc_most_of (fun vs H Q E h => ?_) (fun cdv A outer s H vs Q E hr h => ?_)
    · obtain ⟨v, c, f, m, a, b, rfl, _⟩ := h
      rfl
    · obtain ⟨v, c, f, m, a, b, rfl, tk, ok, de, cf, tc, la, lb, ha, hb, tm, q⟩ := h
      refine ⟨_, (pss_cons (ps_asg (pv 1) (pg_tup rfl (pgs_cons (pg_name (i := 2) sc_most_of.nd rfl (by first | exact .inl rfl | exact .inr rfl)) (pgs_cons (pg_name (i := 3) sc_most_of.nd rfl (by first | exact .inl rfl | exact .inr rfl)) pgs_nil)))) (pss_cons (ps_set (i := 4) sc_most_of.nd rfl (by first | exact .inl rfl | exact .inr rfl) (pe_ix ix_tup (pv 0) pe_int (fun _ _ => rfl))) (pss_cons (ps_if (pt_cmpR op_eq (pv 4) pe_str (nomark _)) (pss_one (ps_ret (pe_tup (pa_cons (pe_ix ix_tup (pv 2) (pe_ix ix_tup (pv 0) pe_int (fun _ _ => rfl)) (fun _ _ => rfl)) (pa_cons (pe_op op_xor (pe_ix ix_tup (pv 2) (pe_ix ix_tup (pv 0) pe_int (fun _ _ => rfl)) (fun _ _ => rfl)) (pe_ix ix_tup (pv 3) (pe_ix ix_tup (pv 0) pe_int (fun _ _ => rfl)) (fun _ _ => rfl))) pa_nil))))) pss_nil) (pss_cons (ps_set (i := 5) sc_most_of.nd rfl (by first | exact .inl rfl | exact .inr rfl) (pe_call (ok_still_worth T) (hr.mono (by omega)) (by rfl) T.g_still_worth T.F_still_worth.kp T.b_still_worth .nil pass0 (pa_cons (pv 0) pa_nil))) (pss_cons (ps_if (pt_cmpR op_notN (pv 5) pe_non (nomark _)) (pss_one (ps_ret (pe_tup (pa_cons (pv 5) (pa_cons pe_int pa_nil))))) pss_nil) (pss_cons (ps_setLc (i := 6) (own := [("part", 7)]) (by rfl) sc_most_of.nd rfl rfl (sw_true rfl rfl rfl (by decide +kernel)) (pi_tup (pe_call (ok_inner_of T) (hr.mono (by omega)) (by rfl) T.g_inner_of T.F_inner_of.kp T.b_inner_of .nil pass0 (pa_cons (pv 0) pa_nil))) (blkOk_by (own := [("part", 7)]) (N := ["form", "change", "a", "b", "head", "still", "parts", "part"]) (sc := defScope s_most_of) (by decide +kernel)) (fun _ _ _ _ _ => (pg_name (i := 7) sc_most_of.nd rfl (by first | exact .inl rfl | exact .inr rfl))) (fun _ _ _ _ _ => pts_nil) (fun _ _ _ _ _ => (pe_call (ih) (hr.mono (by omega)) (by rfl) T.g_most_of T.F_most_of.kp T.b_most_of .nil pass0 (pa_cons (pv 7) (pa_cons (pv 1) pa_nil))))) (pss_cons (ps_if (pt_cmpR op_eq (pv 4) pe_str (nomark _)) (pss_one (ps_ret (pe_call (ok_about T) (hr.mono (by omega)) (by rfl) T.g_about T.F_about.kp T.b_about .nil pass0 (pa_cons (pe_ix ix_list (pv 6) pe_int (fun _ _ => rfl)) pa_nil)))) pss_nil) (pss_cons (ps_if (pt_cmpR op_eq (pv 4) pe_str (nomark _)) (pss_one (ps_ret (pe_call (ok_most_of_and T B) (hr.mono (by omega)) (by rfl) T.g_most_of_and T.F_most_of_and.kp T.b_most_of_and .nil pass0 (pa_cons (pv 6) pa_nil)))) pss_nil) (pss_one (ps_ret (pe_call (ok_about T) (hr.mono (by omega)) (by rfl) T.g_about T.F_about.kp T.b_about .nil pass0 (pa_cons (pe_call (ok_most_of_and T B) (hr.mono (by omega)) (by rfl) T.g_most_of_and T.F_most_of_and.kp T.b_most_of_and .nil pass0 (pa_cons (pe_lc (own := [("part", 7)]) (by rfl) sc_most_of.nd (pi_list (pv 6)) (blkOk_by (own := [("part", 7)]) (N := ["form", "change", "a", "b", "head", "still", "parts", "part"]) (sc := defScope s_most_of) (by decide +kernel)) (fun _ _ _ _ _ => (pg_name (i := 7) sc_most_of.nd rfl (by first | exact .inl rfl | exact .inr rfl))) (fun _ _ _ _ _ => pts_nil) (fun _ _ _ _ _ => (pe_call (ok_about T) (hr.mono (by omega)) (by rfl) T.g_about T.F_about.kp T.b_about .nil pass0 (pa_cons (pv 7) pa_nil)))) pa_nil)) pa_nil)))))))))))), ?_⟩
      obtain ⟨pc, ra, rb, rfl, hc, hra, hrb⟩ := id tc.ch_inv
      refine ⟨.ref pc, rfl, pc, _, rfl, SqT.of hc, rfl, _, _, rfl, _, _, rfl, rfl, ?_⟩
      have key : (∃ b, f = .st b) ∨ (∃ i, f = .inp i) ∨ ∃ p z rest, v = .ref p ∧ H p = some (.tup (.str z :: rest)) ∧ z ≠ wIn ∧ z ≠ wOne ∧ z ≠ wNou ∧ ((z = wNot ∧ ∃ g, f = .no g) ∨ ∃ c fs, f = .op c fs ∧ z = wOp c ∧ fs ≠ []) := by
        cases f with
        | st b => exact .inl ⟨b, rfl⟩
        | inp i => exact .inr (.inl ⟨i, rfl⟩)
        | no f =>
          obtain ⟨p, w', rfl, hp, _⟩ := Fm.tk_no tk
          exact .inr (.inr ⟨p, _, _, rfl, hp, by decide +kernel, by decide +kernel, by decide +kernel, .inl ⟨rfl, f, rfl⟩⟩)
        | op c fs =>
          obtain ⟨p, b, ys, rfl, hp, _⟩ := Fm.tk_op tk
          refine .inr (.inr ⟨p, _, _, rfl, hp, by cases c <;> decide +kernel, by cases c <;> decide +kernel, by cases c <;> decide +kernel, .inr ⟨c, fs, rfl, rfl, fun z => ?_⟩⟩)
          subst z
          cases ok
      rcases key with ⟨b', rfl⟩ | ⟨i, rfl⟩ | ⟨p, z, rest, rfl, hp, n1, n2, n3, sorts⟩
      · obtain ⟨p, rfl, hp⟩ := Fm.tk_st tk
        refine ⟨.ref p, rfl, p, _, 0, .str (wSt b'), rfl, rfl, SqT.of hp, rfl, ?_⟩
        refine ⟨.str (wSt b'), rfl, rfl, _, rfl, ite2 (fun e => absurd (V.str.inj (of_decide_eq_true e)) (by cases b' <;> decide +kernel)) (fun _ => ?_)⟩
        refine ⟨.ref p, rfl, p, wSt b', [], rfl, hp, fun e => ?_, fun e => ?_, fun e1 e2 => ?_⟩
        · cases b'
          · exact absurd e (by decide +kernel)
          · exact ⟨_, rfl, rfl, _, rfl, ite2 (fun _ => ⟨_, rfl, sl2, fun r nr => q _ _ (Gr.of (same_upd nr)) (Tri.tk upd_same rfl rfl)⟩) (fun k => absurd rfl k)⟩
        · cases b'
          · exact ⟨_, rfl, rfl, _, rfl, ite2 (fun _ => ⟨_, rfl, sl2, fun r nr => q _ _ (Gr.of (same_upd nr)) (Tri.tk upd_same rfl rfl)⟩) (fun k => absurd rfl k)⟩
          · exact absurd e (by decide +kernel)
        · cases b'
          · exact absurd rfl e2
          · exact absurd rfl e1
      · obtain ⟨p, rfl, hp⟩ := Fm.tk_inp tk
        refine ⟨.ref p, rfl, p, _, 0, .str wIn, rfl, rfl, SqT.of hp, rfl, ?_⟩
        refine ⟨.str wIn, rfl, rfl, _, rfl, ite2 (fun _ => ?_) (fun k => absurd (decide_eq_true rfl) k)⟩
        have hi : i < m := of_decide_eq_true ok
        have xa : (a.map V.int)[i]? = some (V.int (a.getD i 0)) := by
          rw [List.getElem?_map, List.getElem?_eq_getElem (by omega), List.getD_eq_getElem?_getD, List.getElem?_eq_getElem (by omega)]
          rfl
        have xb : (b.map V.int)[i]? = some (V.int (b.getD i 0)) := by
          rw [List.getElem?_map, List.getElem?_eq_getElem (by omega), List.getD_eq_getElem?_getD, List.getElem?_eq_getElem (by omega)]
          rfl
        refine ⟨.ref ra, rfl, .ref p, rfl, p, _, 1, .int i, rfl, rfl, SqT.of hp, rfl, ra, _, i, .int (a.getD i 0), rfl, rfl, SqT.of hra, atI_nat xa, .ref ra, rfl, .ref p, rfl, p, _, 1, .int i, rfl, rfl, SqT.of hp, rfl, ra, _, i, .int (a.getD i 0), rfl, rfl, SqT.of hra, atI_nat xa, .ref rb, rfl, .ref p, rfl, p, _, 1, .int i, rfl, rfl, SqT.of hp, rfl, rb, _, i, .int (b.getD i 0), rfl, rfl, SqT.of hrb, atI_nat xb, _, _, rfl, rfl, sl2, fun r nr => ?_⟩
        have x := row_get ha i
        have y := row_get hb i
        refine q _ _ (Gr.of (same_upd nr)) (Tri.tk upd_same ?_ ?_)
        · show a.getD i 0 = (((a.getD i 0).toNat : Nat) : Int)
          omega
        · show Builtin.bitXor (a.getD i 0) (b.getD i 0) = ((2 * max (a.getD i 0).toNat (b.getD i 0).toNat - (a.getD i 0).toNat - (b.getD i 0).toNat : Nat) : Int)
          rcases x with x | x <;> rcases y with y | y <;> rw [x, y] <;> decide +kernel
      refine ⟨.ref p, rfl, p, _, ((0 : Nat) : Int), .str z, rfl, rfl, SqT.of hp, atI_nat rfl, ?_⟩
      refine ⟨.str z, rfl, rfl, _, rfl, ite2 (fun e => absurd (V.str.inj (of_decide_eq_true e)) n1) (fun _ => ?_)⟩
      refine ⟨.ref p, rfl, p, z, rest, rfl, hp, fun e => absurd e n2, fun e => absurd e n3, fun _ _ => ?_⟩
      refine ⟨_, rfl, rfl, _, rfl, ite2 (fun k => by cases k) (fun _ => ?_)⟩
      refine ⟨.ref p, rfl, .ref p, f, rfl, tk, fun H1 b0 xs s1 hb0 txs => ⟨b0, rfl, ⟨_, SqT.of hb0⟩, fun D nD => ?_⟩⟩
      have lxs : xs.length = f.inner.length := by rw [txs.length, List.length_map]
      have few : f.inner.length ≤ 4 := Fm.inner_few ok
      have cst := Fm.cnt_eq f
      have tc1 := tc.same s1
      have tm1 := (Gr.of s1).2 _ tm
      have okI : ∀ g ∈ f.inner, g.ok m = true ∧ g.dep ≤ e ∧ g.cnt ≤ 1000 := fun g hg => ⟨Fm.inner_ok ok hg, by have := Fm.inner_dep hg; omega, by have := Fm.cnts_mem hg; omega⟩
      have okT : ∀ t ∈ f.inner.map (Fm.tri a b), t.Ok ∧ t.lt 1000 := fun t ht => by
        obtain ⟨g, hg, rfl⟩ := List.mem_map.mp ht
        obtain ⟨k1, k2, k3⟩ := okI g hg
        have := Fm.tri_lt ha hb g k1
        exact ⟨Fm.tri_ok ha hb g, Nat.le_trans this.1 k3, Nat.le_trans this.2 k3⟩
      refine lc_tup (K := K) (a := b0) (xs := xs) (fun i H' => GrD D H1 H' ∧ ∃ acc, H' D = some (.lst acc) ∧ TkAll H' acc (((f.inner.take i).map (Fm.tri a b)).map Tri.d)) ⟨GrD.new nD, [], upd_same, .nil⟩ (fun i H' _ hP => SqT.of (hP.1.gr.tup hb0)) ?_ ?_
      · rintro i u H2 hu ⟨g2, acc, hD, tacc⟩
        obtain ⟨g, hg, tg⟩ := txs.at hu
        obtain ⟨k1, k2, k3⟩ := okI g (List.mem_of_getElem? hg)
        have il := (List.getElem?_eq_some_iff.mp hg).1
        refine ⟨rfl, u, rfl, .ref pc, rfl, u, .ref pc, g, m, a, b, rfl, tg.gr g2.gr, k1, k2, k3, tc1.gr g2.gr, la, lb, ha, hb, g2.gr.2 _ tm1, fun r H3 g3 tr => ?_⟩
        have hD3 := g3.lst hD
        refine ⟨acc, hD3, ?_, (g2.then hD g3).set, acc ++ [r], upd_same, ?_⟩
        · rw [tacc.length, List.length_map, List.length_map, List.length_take]
          exact Nat.lt_of_le_of_lt (show min i f.inner.length ≤ 4 by omega) (by decide)
        · rw [List.take_add_one, hg, List.map_append, List.map_append]
          exact ((tacc.gr g3).ts (Ts.set hD3) (noLs_map Tri.noLd _)).append (.cons (tr.ts (Ts.set hD3) (Tri.noLd _)) .nil)
      rintro H2 ⟨g2, us, hD, tus⟩
      rw [lxs, List.take_length] at tus
      have g02 := (Gr.of s1).trans g2.gr
      rcases sorts with ⟨rfl, g, rfl⟩ | ⟨cc, fs, rfl, rfl, nf⟩
      · refine ⟨.str wNot, rfl, rfl, _, rfl, ite2 (fun _ => ?_) (fun k => absurd (decide_eq_true rfl) k)⟩
        cases tus with
        | @cons u _ us _ tu r =>
          exact ⟨.ref D, rfl, D, _, 0, u, rfl, rfl, SqL.of hD, at_0 _ _, u, g.tri a b, rfl, tu, Fm.tri_ok ha hb g, fun r H3 s3 tr => q r H3 (g02.trans (Gr.of s3)) tr⟩
      refine ⟨.str (wOp cc), rfl, rfl, _, rfl, ite2 (fun e => absurd (V.str.inj (of_decide_eq_true e)) (by cases cc <;> decide +kernel)) (fun _ => ?_)⟩
      have nn : fs.map (Fm.tri a b) ≠ [] := fun z => nf (List.map_eq_nil_iff.mp z)
      have ln : (fs.map (Fm.tri a b)).length ≤ 4 := by rw [List.length_map]; exact few
      have qe : (Fm.op cc fs).tri a b = Tri.op cc (fs.map (Fm.tri a b)) := Fm.tri_app cc fs
      rw [qe] at q
      have okF : ∀ t ∈ fs.map (Fm.tri a b), t.Ok := fun t ht => (okT t ht).1
      cases cc with
      | true =>
        refine ⟨.str wAnd, rfl, rfl, _, rfl, ite2 (fun _ => ?_) (fun k => absurd (decide_eq_true rfl) k)⟩
        exact ⟨.ref D, rfl, D, us, fs.map (Fm.tri a b), rfl, hD, tus, nn, ln, fun t ht => ⟨(okT t ht).1, (okT t ht).2.1⟩, g02.2 _ tm, fun r H3 g3 tr => q r H3 (g02.trans g3) tr⟩
      | false =>
        refine ⟨.str wOr, rfl, rfl, _, rfl, ite2 (fun k => absurd (V.str.inj (of_decide_eq_true k)) (by decide +kernel)) (fun _ => ?_)⟩
        refine ⟨.ref D, rfl, D, rfl, ⟨_, SqL.of hD⟩, fun D2 nD2 => ?_⟩
        refine lc_list (K := K) (a := D) (xs := us) (fun i H' => Same H2 (hd1 D2 H') ∧ ∃ acc, H' D2 = some (.lst acc) ∧ TkAll H' acc ((((fs.map (Fm.tri a b)).take i).map Tri.neg).map Tri.d)) ⟨hd1_of (same_upd nD2) nD2, [], upd_same, .nil⟩ (fun i H' _ z => SqL.of (hd1_le _ _ (z.1 _ _ hD))) ?_ ?_
        · rintro i u H3 hu ⟨s3, acc, hD2, tacc⟩
          obtain ⟨d, hd, tu⟩ := tus.get hu
          rw [List.getElem?_map] at hd
          obtain ⟨t, ht, rfl⟩ := Option.map_eq_some_iff.mp hd
          have ht : (fs.map (Fm.tri a b))[i]? = some t := ht
          refine ⟨rfl, u, rfl, u, t, rfl, tu.same (fun b o z => hd1_le _ _ (s3 b o z)), okF t (List.mem_of_getElem? ht), fun r H4 s4 tr => ?_⟩
          have hD4 := s4 _ _ hD2
          refine ⟨acc, hD4, ?_, (s3.trans (hd1_same s4)).trans hd1_upd, acc ++ [r], upd_same, ?_⟩
          · rw [tacc.length, List.length_map, List.length_map, List.length_take]
            exact Nat.lt_of_le_of_lt (show min i (fs.map (Fm.tri a b)).length ≤ 4 by omega) (by decide)
          · rw [List.take_add_one, ht, List.map_append, List.map_append]
            exact ((tacc.same s4).ts (Ts.set hD4) (noLs_map Tri.noLd _)).append (.cons (tr.ts (Ts.set hD4) (Tri.noLd _)) .nil)
        rintro H3 ⟨s3, acc, hD2, tacc⟩
        have lu : us.length = (fs.map (Fm.tri a b)).length := by rw [tus.length, List.length_map]; rfl
        rw [lu, List.take_length] at tacc
        have g03 := g02.trans (Gr.of fun b o z => hd1_le _ _ (s3 b o z))
        refine ⟨D2, acc, (fs.map (Fm.tri a b)).map Tri.neg, rfl, hD2, tacc, fun z => nn (List.map_eq_nil_iff.mp z), by rw [List.length_map]; exact ln, fun t ht => ?_, g03.2 _ tm, fun r H4 g4 tr => ?_⟩
        · obtain ⟨s, hs, rfl⟩ := List.mem_map.mp ht
          exact ⟨Tri.neg_ok (okT s hs).1, (okT s hs).2.2⟩
        · exact ⟨r, _, rfl, tr, Tri.all_ok (Tri.map_ok okF), fun r2 H5 s5 tr2 => q r2 H5 ((g03.trans g4).trans (Gr.of s5)) tr2⟩
theorem ok_most_of (T : Tx w K mg) (B : Tb base T) : FnOk P w K mg base CX0 30 T.f_most_of T.fd_most_of ["form", "change"] (sp_most T 22) := ok_mostE T B 22
/-! ### the word of a form, and its greatest number -/
def Tri.wd (t : Tri) : PyData := .tuple [.int ((t.f : Nat) : Int), .int ((t.l : Nat) : Int), .bool (decide (1 < t.num))]
def sp_form_greatest (T : Tx w K mg) : Sp := fun vs H Q _ => ∃ (v c : V) (f : Fm) (m : Nat) (a b : List Int), vs = [v, c] ∧ Tk H v f.d ∧ f.ok m = true ∧ f.dep ≤ 22 ∧ f.cnt ≤ 1000 ∧ Tk H c (chD a b) ∧ a.length = m ∧ b.length = m ∧ Row01 a ∧ Row01 b ∧ GxR.TabG H T.P_most_of_and ∧ ∀ H', Gr H H' → Q (.int ((f.tri a b).num : Nat)) H'
theorem ok_form_greatest (T : Tx w K mg) (B : Tb base T) : FnOk P w K mg base CX0 31 T.f_form_greatest T.fd_form_greatest ["form", "change"] (sp_form_greatest T) := by
  refine T.F_form_greatest.ok sc_form_greatest (fun vs H Q E h => ?_) (fun cdv A outer s H vs Q E hr h => ?_)
  · obtain ⟨v, c, f, m, a, b, rfl, _⟩ := h
    rfl
  · obtain ⟨v, c, f, m, a, b, rfl, tk, ok, de, cf, tc, la, lb, ha, hb, tm, q⟩ := h
    refine ⟨_, (pss_one (ps_ret (pe_ix ix_tup (pe_call (ok_most_of T B) (hr.mono (by decide)) (by rfl) T.g_most_of T.F_most_of.kp T.b_most_of .nil pass0 (pa_cons (pv 0) (pa_cons (pv 1) pa_nil))) pe_int (fun _ _ => rfl)))), ?_⟩
    refine ⟨v, rfl, c, rfl, v, c, f, m, a, b, rfl, tk, ok, de, cf, tc, la, lb, ha, hb, tm, fun r H1 g1 tr => ?_⟩
    obtain ⟨p, rfl, hp⟩ := Tri.inv tr
    exact ⟨p, _, 1, _, rfl, rfl, SqT.of hp, at_1 _ _ _, q H1 g1⟩
def sp_form_word (T : Tx w K mg) : Sp := fun vs H Q _ => ∃ (v c : V) (f : Fm) (m : Nat) (a b : List Int), vs = [v, c] ∧ Tk H v f.d ∧ f.ok m = true ∧ f.dep ≤ 22 ∧ f.cnt ≤ 1000 ∧ Tk H c (chD a b) ∧ a.length = m ∧ b.length = m ∧ Row01 a ∧ Row01 b ∧ GxR.TabG H T.P_most_of_and ∧ ∀ p H', Gr H H' → H' p = some (.tup [.int (((f.tri a b).f : Nat) : Int), .int (((f.tri a b).l : Nat) : Int), .bl (decide (1 < (f.tri a b).num))]) → Q (.ref p) H'
theorem ok_form_word (T : Tx w K mg) (B : Tb base T) : FnOk P w K mg base CX0 31 T.f_form_word T.fd_form_word ["form", "change"] (sp_form_word T) := by
  refine T.F_form_word.ok sc_form_word (fun vs H Q E h => ?_) (fun cdv A outer s H vs Q E hr h => ?_)
  · obtain ⟨v, c, f, m, a, b, rfl, _⟩ := h
    rfl
  · obtain ⟨v, c, f, m, a, b, rfl, tk, ok, de, cf, tc, la, lb, ha, hb, tm, q⟩ := h
    refine ⟨_, (pss_cons (ps_asg (pe_call (ok_most_of T B) (hr.mono (by decide)) (by rfl) T.g_most_of T.F_most_of.kp T.b_most_of .nil pass0 (pa_cons (pv 0) (pa_cons (pv 1) pa_nil))) (pg_tup rfl (pgs_cons (pg_name (i := 2) sc_form_word.nd rfl (by first | exact .inl rfl | exact .inr rfl)) (pgs_cons (pg_name (i := 3) sc_form_word.nd rfl (by first | exact .inl rfl | exact .inr rfl)) pgs_nil)))) (pss_one (ps_ret (pe_tup (pa_cons (pv 2) (pa_cons (pe_op op_xor (pv 2) (pe_op op_and (pv 3) pe_int)) (pa_cons (pe_cmpR op_gt (pv 3) pe_int (nomark _)) pa_nil))))))), ?_⟩
    refine ⟨v, rfl, c, rfl, v, c, f, m, a, b, rfl, tk, ok, de, cf, tc, la, lb, ha, hb, tm, fun r H1 g1 tr => ?_⟩
    obtain ⟨p, rfl, hp⟩ := Tri.inv tr
    refine ⟨p, _, rfl, SqT.of hp, rfl, _, _, rfl, _, _, rfl, rfl, ?_⟩
    have okk := Fm.tri_ok ha hb f
    refine ⟨_, rfl, _, rfl, _, rfl, _, _, rfl, rfl, _, _, rfl, rfl, _, rfl, _, _, rfl, rfl, sl3, fun r nr => ?_⟩
    refine q r _ (g1.trans (Gr.of (same_upd nr))) ?_
    rw [upd_same]
    have e : decide ((1 : Int) < (((f.tri a b).num : Nat) : Int)) = decide (1 < (f.tri a b).num) := decide_eq_decide.mpr ⟨fun h => by omega, fun h => by omega⟩
    show some (HO.tup [_, V.int (Builtin.bitXor (((f.tri a b).f : Nat) : Int) (Builtin.bitAnd (((f.tri a b).num : Nat) : Int) 1)), V.bl (decide ((1 : Int) < (((f.tri a b).num : Nat) : Int)))]) = _
    rw [Tri.last_of okk, e]

end
end Gk

set_option Elab.async false
set_option linter.all false
set_option maxRecDepth 100000
set_option maxHeartbeats 1000000
set_option pp.maxSteps 1500
set_option pp.deepTerms false
namespace Gk
open PySem PySem.Spec PyProof.Rows L2
section
variable {P : Program} {w : World} {K : PySem.W.Frag} {mg : Str → Option Value} {base : Heap}
theorem lc_enum {K : PySem.W.Frag} {a : Addr} {xs : List V} {g : TG} {tt : TT} {te : TE} {vs : List Nat} {σ : L2.St} {H1 : Hp} {D : Addr} {Qd : Hp → Prop} (Pv : Nat → Hp → Prop) (h0 : Pv 0 (upd H1 D (.lst []))) (hl : ∀ i H, i ≤ xs.length → Pv i H → SqL K H a xs)
    (hs : ∀ i x T H, xs[i]? = some x → H T = none → Pv i H → g (.ref T) (wipe σ vs) (upd H T (.tup [.int (i : Nat), x])) fun σ2 H2 => wipe σ2 vs = wipe σ vs ∧ tt σ2 H2 fun b H3 =>
      if b = true then te σ2 H3 fun y H4 => ∃ acc, H4 D = some (.lst acc) ∧ acc.length < sizeLine ∧ Pv (i + 1) (upd H4 D (.lst (acc ++ [y]))) else Pv (i + 1) H3) (hd : ∀ H, Pv xs.length H → Qd H) :
    ∃ W : Nat → Nat → Hp → Prop, (∃ m, W 0 m (upd H1 D (.lst []))) ∧ ∀ i m H, W i m H →
      ((Ite K a).stop i H ∧ Qd H) ∨ ((Ite K a).go i H ∧ ∃ Nx : Hp → Prop, (∀ H', Nx H' → ∃ m', m' < m ∧ W (i + 1) m' H') ∧ ∀ x H', (Ite K a).yld i H x H' → g x (wipe σ vs) H' fun σ2 H2 => wipe σ2 vs = wipe σ vs ∧ tt σ2 H2 fun b H3 =>
        if b = true then te σ2 H3 fun y H4 => ∃ acc, H4 D = some (.lst acc) ∧ acc.length < sizeLine ∧ Nx (upd H4 D (.lst (acc ++ [y]))) else Nx H3) := by
  refine ⟨fun i m H => m = xs.length - i ∧ i ≤ xs.length ∧ Pv i H, ⟨xs.length, by simp, Nat.zero_le _, h0⟩, ?_⟩
  rintro i m H ⟨rfl, hi, p⟩
  have qx := hl i H hi p
  by_cases hlt : i < xs.length
  · have hx : xs[i]? = some xs[i] := List.getElem?_eq_getElem hlt
    refine .inr ⟨⟨xs, _, qx, hx⟩, Pv (i + 1), fun H' p' => ⟨xs.length - (i + 1), by omega, rfl, hlt, p'⟩, fun x H' y => ?_⟩
    obtain ⟨T, x1, rfl, nT, rfl, e1⟩ := y
    exact hs i x1 T H (e1 xs qx) nT p
  · have e : i = xs.length := by omega
    subst e
    exact .inl ⟨⟨xs, qx, Nat.le_refl _⟩, hd H p⟩

/-! ### the pairs of worths at two times -/
/-- the pair x, y may be seen: first worth, last one, more changes than these -/
def inB (f l m x y : Bool) : Bool := m || (x == f && y == f) || (x == f && y == l) || (x == l && y == l)
def moreAnd (f l m f' l' m' : Bool) : Bool := (f || l || m) && (f' || l' || m') && (m || m' || !((f && f') || (l && l')))
theorem inB_and : ∀ f l m f' l' m' x y : Bool, inB (f && f') (l && l') (moreAnd f l m f' l' m') x y = true ↔ ∃ a b a' b' : Bool, inB f l m a b = true ∧ inB f' l' m' a' b' = true ∧ x = (a && a') ∧ y = (b && b') := by decide +kernel
theorem inB_neg : ∀ f l m x y : Bool, inB (!f) (!l) m (!x) (!y) = inB f l m x y := by decide +kernel
def Tri.fb (t : Tri) : Bool := decide (t.f = 1)
def Tri.lb (t : Tri) : Bool := decide (t.l = 1)
def Tri.mb (t : Tri) : Bool := decide (1 < t.num)
def Tri.sees (t : Tri) (p : Bool × Bool) : Bool := inB t.fb t.lb t.mb p.1 p.2
theorem Tri.neg_b {t : Tri} (h : t.Ok) : t.neg.fb = !t.fb ∧ t.neg.lb = !t.lb ∧ t.neg.mb = t.mb := by
  have e := Tri.num_neg h
  obtain ⟨a, b, c, d⟩ := h
  refine ⟨?_, ?_, ?_⟩
  · unfold Tri.fb Tri.neg
    rcases (show t.f = 0 ∨ t.f = 1 by omega) with z | z <;> rw [z] <;> rfl
  · unfold Tri.lb Tri.neg
    rcases (show t.l = 0 ∨ t.l = 1 by omega) with z | z <;> rw [z] <;> rfl
  · unfold Tri.mb
    rw [e]
theorem Tri.and_b {s t : Tri} (h : s.Ok) (k : t.Ok) : (s.and t).fb = (s.fb && t.fb) ∧ (s.and t).lb = (s.lb && t.lb) ∧ (s.and t).mb = moreAnd s.fb s.lb s.mb t.fb t.lb t.mb := by
  obtain ⟨f, l, u⟩ := s
  obtain ⟨f', l', u'⟩ := t
  obtain ⟨a, b, c, d⟩ := h
  obtain ⟨a', b', c', d'⟩ := k
  dsimp only at a b c d a' b' c' d'
  have F : f = 0 ∨ f = 1 := by omega
  have L : l = 0 ∨ l = 1 := by omega
  have F' : f' = 0 ∨ f' = 1 := by omega
  have L' : l' = 0 ∨ l' = 1 := by omega
  have U : u = 0 ∨ u = 1 ∨ 2 ≤ u := by omega
  have U' : u' = 0 ∨ u' = 1 ∨ 2 ≤ u' := by omega
  unfold Tri.and Tri.fb Tri.lb Tri.mb Tri.num moreAnd
  dsimp only
  refine ⟨?_, ?_, ?_⟩
  · rcases F with rfl | rfl <;> rcases F' with rfl | rfl <;> rfl
  · rcases L with rfl | rfl <;> rcases L' with rfl | rfl <;> rfl
  · rw [Bool.eq_iff_iff]
    simp only [Bool.and_eq_true, Bool.or_eq_true, Bool.not_eq_true', Bool.or_eq_false_iff, Bool.and_eq_false_iff, decide_eq_true_eq, decide_eq_false_iff_not]
    repeat' split
    all_goals omega
theorem Tri.sees_neg {t : Tri} (h : t.Ok) (x y : Bool) : t.neg.sees (x, y) = t.sees (!x, !y) := by
  obtain ⟨a, b, c⟩ := Tri.neg_b h
  unfold Tri.sees
  rw [a, b, c]
  have := inB_neg t.fb t.lb t.mb (!x) (!y)
  rw [Bool.not_not, Bool.not_not] at this
  exact this
theorem Tri.sees_and {s t : Tri} (h : s.Ok) (k : t.Ok) (x y : Bool) : (s.and t).sees (x, y) = true ↔ ∃ a b a' b' : Bool, s.sees (a, b) = true ∧ t.sees (a', b') = true ∧ x = (a && a') ∧ y = (b && b') := by
  obtain ⟨e1, e2, e3⟩ := Tri.and_b h k
  unfold Tri.sees
  rw [e1, e2, e3]
  exact inB_and ..
theorem Tri.sees_or {s t : Tri} (h : s.Ok) (k : t.Ok) (x y : Bool) : (s.or t).sees (x, y) = true ↔ ∃ a b a' b' : Bool, s.sees (a, b) = true ∧ t.sees (a', b') = true ∧ x = (a || a') ∧ y = (b || b') := by
  show ((s.neg.and t.neg).neg).sees (x, y) = true ↔ _
  rw [Tri.sees_neg (Tri.and_ok (Tri.neg_ok h) (Tri.neg_ok k)), Tri.sees_and (Tri.neg_ok h) (Tri.neg_ok k)]
  constructor
  · rintro ⟨a, b, a', b', h1, h2, e1, e2⟩
    rw [Tri.sees_neg h] at h1
    rw [Tri.sees_neg k] at h2
    refine ⟨_, _, _, _, h1, h2, ?_, ?_⟩
    · have := congrArg (! ·) e1; simpa using this
    · have := congrArg (! ·) e2; simpa using this
  · rintro ⟨a, b, a', b', h1, h2, rfl, rfl⟩
    refine ⟨!a, !b, !a', !b', by rw [Tri.sees_neg h, Bool.not_not, Bool.not_not]; exact h1, by rw [Tri.sees_neg k, Bool.not_not, Bool.not_not]; exact h2, by simp, by simp⟩
def bi (b : Bool) : Int := if b = true then 1 else 0
def prD (p : Bool × Bool) : PyData := .tuple [.int (bi p.1), .int (bi p.2)]
/-- the pairs that are seen, each once -/
def Sees (t : Tri) (ps : List (Bool × Bool)) : Prop := ps.Nodup ∧ ∀ p, p ∈ ps ↔ t.sees p = true
theorem len_counts : ∀ l : List (Bool × Bool), l.length = l.count (false, false) + l.count (false, true) + l.count (true, false) + l.count (true, true)
  | [] => rfl
  | p :: r => by
    rw [List.length_cons, len_counts r]
    obtain ⟨x, y⟩ := p
    cases x <;> cases y <;> simp [List.count_cons] <;> omega
theorem nodup_count {l : List (Bool × Bool)} (h : l.Nodup) (a : Bool × Bool) : l.count a ≤ 1 := by
  induction l with
  | nil => exact Nat.zero_le _
  | cons b r ih =>
    rw [List.nodup_cons] at h
    have := ih h.2
    by_cases e : b = a
    · subst e
      have z : r.count b = 0 := List.count_eq_zero.mpr h.1
      rw [List.count_cons_self, z]
      exact Nat.le_refl _
    · rw [List.count_cons_of_ne e]
      exact this
theorem Sees.few {t : Tri} {ps : List (Bool × Bool)} (h : Sees t ps) : ps.length ≤ 4 := by
  rw [len_counts]
  have a := nodup_count h.1 (false, false)
  have b := nodup_count h.1 (false, true)
  have c := nodup_count h.1 (true, false)
  have d := nodup_count h.1 (true, true)
  omega
def cb (c : Bool) (p q : Bool × Bool) : Bool × Bool := if c = true then (p.1 && q.1, p.2 && q.2) else (p.1 || q.1, p.2 || q.2)
theorem bi_and (x y : Bool) : bi x * bi y = bi (x && y) := by cases x <;> cases y <;> rfl
theorem bi_or (x y : Bool) : (if bi y > bi x then bi y else bi x) = bi (x || y) := by cases x <;> cases y <;> rfl
theorem bi_not (x : Bool) : 1 - bi x = bi (!x) := by cases x <;> rfl
theorem Tri.op_one {c : Bool} {t : Tri} (h : t.Ok) : Tri.op c [t] = t := by
  cases c
  · show (Tri.all [t.neg]).neg = t
    rw [show Tri.all [t.neg] = t.neg from Tri.and_one (Tri.neg_ok h), Tri.neg_neg h]
  · exact Tri.and_one h
theorem Tri.op_snoc {c : Bool} {xs : List Tri} {t : Tri} (hx : ∀ s ∈ xs, s.Ok) (h : t.Ok) : Tri.op c (xs ++ [t]) = if c = true then (Tri.op c xs).and t else (Tri.op c xs).or t := by
  cases c
  · rw [if_neg (by decide)]
    show (Tri.all ((xs ++ [t]).map Tri.neg)).neg = ((Tri.all (xs.map Tri.neg)).neg.neg.and t.neg).neg
    rw [List.map_append, show [t].map Tri.neg = [t.neg] from rfl, Tri.all_snoc (Tri.neg_ok h), Tri.neg_neg (Tri.all_ok (Tri.map_ok hx))]
  · rw [if_pos rfl]
    exact Tri.all_snoc h
theorem Sees.comb {c : Bool} {xs : List Tri} {t : Tri} {ps qs ks : List (Bool × Bool)} (hx : ∀ s ∈ xs, s.Ok) (h : t.Ok) (sp : Sees (Tri.op c xs) ps) (sq : Sees t qs) (nd : ks.Nodup) (mem : ∀ q, q ∈ ks ↔ ∃ p ∈ ps, ∃ p' ∈ qs, q = cb c p p') : Sees (Tri.op c (xs ++ [t])) ks := by
  refine ⟨nd, fun q => (mem q).trans ?_⟩
  have ho : (Tri.op c xs).Ok := Tri.op_ok hx
  rw [Tri.op_snoc hx h]
  obtain ⟨x, y⟩ := q
  cases c
  · rw [if_neg (by decide), Tri.sees_or ho h]
    constructor
    · rintro ⟨p, hp, p', hp', e⟩
      have e : (x, y) = (p.1 || p'.1, p.2 || p'.2) := e
      cases e
      exact ⟨_, _, _, _, (sp.2 p).mp hp, (sq.2 p').mp hp', rfl, rfl⟩
    · rintro ⟨a, b, a', b', h1, h2, rfl, rfl⟩
      exact ⟨(a, b), (sp.2 _).mpr h1, (a', b'), (sq.2 _).mpr h2, rfl⟩
  · rw [if_pos rfl, Tri.sees_and ho h]
    constructor
    · rintro ⟨p, hp, p', hp', e⟩
      have e : (x, y) = (p.1 && p'.1, p.2 && p'.2) := e
      cases e
      exact ⟨_, _, _, _, (sp.2 p).mp hp, (sq.2 p').mp hp', rfl, rfl⟩
    · rintro ⟨a, b, a', b', h1, h2, rfl, rfl⟩
      exact ⟨(a, b), (sp.2 _).mpr h1, (a', b'), (sq.2 _).mpr h2, rfl⟩
theorem Sees.neg {t : Tri} {ps : List (Bool × Bool)} (h : t.Ok) (s : Sees t ps) : Sees t.neg (ps.map fun p => (!p.1, !p.2)) := by
  refine ⟨?_, fun q => ?_⟩
  · refine List.Pairwise.map _ (fun a b ne e => ne ?_) s.1
    obtain ⟨a, a'⟩ := a
    obtain ⟨b, b'⟩ := b
    have e1 := (Prod.mk.inj e).1
    have e2 := (Prod.mk.inj e).2
    simp at e1 e2
    rw [e1, e2]
  · obtain ⟨x, y⟩ := q
    rw [Tri.sees_neg h, ← s.2]
    constructor
    · intro hm
      obtain ⟨p, hp, e⟩ := List.mem_map.mp hm
      cases e
      simpa using hp
    · intro hm
      exact List.mem_map.mpr ⟨_, hm, by simp⟩
mutual
theorem Tk.dp' {K : PySem.W.Frag} {H : Hp} : ∀ {v : V} {d : PyData}, Tk H v d → Dp K H v d
  | _, _, .bl b => .bl b
  | _, _, .int i => .int i
  | _, _, .str x => .str x
  | _, _, .lst h t => .lst (SqL.of h) t.dp'
  | _, _, .tup h t => .tup (SqT.of h) t.dp'
theorem TkAll.dp' {K : PySem.W.Frag} {H : Hp} : ∀ {vs : List V} {ds : List PyData}, TkAll H vs ds → DpAll K H vs ds
  | _, _, .nil => .nil
  | _, _, .cons h t => .cons h.dp' t.dp'
end
theorem noL_pr (p : Bool × Bool) : noL (prD p) = true := rfl
theorem noL_prs (ps : List (Bool × Bool)) : noLs (ps.map prD) = true := noLs_map noL_pr ps
theorem prD_inj {p q : Bool × Bool} : PyData.eqv (prD p) (prD q) = decide (p = q) := by
  obtain ⟨a, b⟩ := p
  obtain ⟨c, d⟩ := q
  cases a <;> cases b <;> cases c <;> cases d <;> decide +kernel
theorem any_pr (p : Bool × Bool) (l : List (Bool × Bool)) : ((l.map prD).any fun z => PyData.eqv z (prD p)) = decide (p ∈ l) := by
  induction l with
  | nil => rfl
  | cons q r ih =>
    rw [List.map_cons, List.any_cons, ih, prD_inj, Bool.eq_iff_iff, Bool.or_eq_true, decide_eq_true_eq, decide_eq_true_eq, decide_eq_true_eq, List.mem_cons]
    exact ⟨fun h => h.imp Eq.symm id, fun h => h.imp Eq.symm id⟩
theorem pr_shaped (p : Bool × Bool) : SeqAt.shaped (prD p) = true := rfl
theorem lay_prs : ∀ l : List (Bool × Bool), PyData.canLayAll0 (l.map prD) = true
  | [] => rfl
  | p :: r => by
    show (PyData.canLay0 (prD p) && PyData.canLayAll0 (r.map prD)) = true
    rw [lay_prs r]
    rfl
theorem depth_prs : ∀ l : List (Bool × Bool), PyData.depthAll (l.map prD) ≤ 2
  | [] => Nat.zero_le _
  | p :: r => by
    show max (prD p).depth (PyData.depthAll (r.map prD)) ≤ 2
    have := depth_prs r
    have : (prD p).depth ≤ 2 := Nat.le_succ_of_le (Nat.le_refl 1)
    omega
theorem prs_shaped (l : List (Bool × Bool)) : SeqAt.shaped (.list (l.map prD)) = true := by
  unfold SeqAt.shaped
  rw [Bool.and_eq_true]
  refine ⟨?_, decide_eq_true ?_⟩
  · simp only [PyData.canLay0, lay_prs]
  · have := depth_prs l
    simp only [PyData.depth]
    omega
theorem pr_inv {H : Hp} {v : V} {p : Bool × Bool} (h : Tk H v (prD p)) : ∃ a, v = .ref a ∧ H a = some (.tup [.int (bi p.1), .int (bi p.2)]) := by
  have h : Tk H v (.tuple [.int (bi p.1), .int (bi p.2)]) := h
  cases h with
  | @tup a xs _ ha all =>
    cases all with
    | cons a1 r => cases r with
      | cons b1 e =>
        cases e
        cases a1
        cases b1
        exact ⟨a, rfl, ha⟩
theorem pr_mk {H : Hp} {a : Addr} {x y : Int} {p : Bool × Bool} (h : H a = some (.tup [.int x, .int y])) (e1 : x = bi p.1) (e2 : y = bi p.2) : Tk H (.ref a) (prD p) := by
  subst e1 e2
  exact .tup h (.cons (.int _) (.cons (.int _) .nil))
/-- a list of the pairs that t sees -/
def PL (H : Hp) (v : V) (t : Tri) : Prop := ∃ (r : Addr) (vs : List V) (ps : List (Bool × Bool)), v = .ref r ∧ H r = some (.lst vs) ∧ TkAll H vs (ps.map prD) ∧ Sees t ps
theorem PL.same {H H' : Hp} {v : V} {t : Tri} (h : PL H v t) (s : Same H H') : PL H' v t := by
  obtain ⟨r, vs, ps, e, a, b, c⟩ := h
  exact ⟨r, vs, ps, e, s _ _ a, b.same s, c⟩
theorem none_same {H H' : Hp} {p : Addr} (s : Same H H') (n : H' p = none) : H p = none := by
  cases e : H p with
  | none => rfl
  | some o =>
    rw [s _ _ e] at n
    cases n
theorem Ts.hdL {H : Hp} {D : Addr} {ys : List V} (h : H D = some (.lst ys)) : Ts H (hd1 D H) := fun b xs e => by
  rw [hd1_at (ne_of e h (by intro z; cases z))]
  exact e
theorem PL.hd {H : Hp} {r D : Addr} {ys : List V} {t : Tri} (h : PL H (.ref r) t) (n : r ≠ D) (hD : H D = some (.lst ys)) : PL (hd1 D H) (.ref r) t := by
  obtain ⟨r', vs, ps, e, a, b, c⟩ := h
  cases e
  exact ⟨r, vs, ps, rfl, by rw [hd1_at n]; exact a, b.ts (Ts.hdL hD) (noL_prs ps), c⟩
/-- lists of pairs, one for each of ts, made since H0 -/
def PLs (H0 H : Hp) (vs : List V) (ts : List Tri) : Prop := vs.length = ts.length ∧ ∀ (i : Nat) (v : V) (t : Tri), vs[i]? = some v → ts[i]? = some t → ∃ r, v = .ref r ∧ H0 r = none ∧ PL H (.ref r) t
theorem PLs.same {H0 H H' : Hp} {vs : List V} {ts : List Tri} (h : PLs H0 H vs ts) (s : Same H H') : PLs H0 H' vs ts := ⟨h.1, fun i v t hv ht => by
  obtain ⟨r, e, n, p⟩ := h.2 i v t hv ht
  exact ⟨r, e, n, p.same s⟩⟩
theorem PLs.nil {H0 H : Hp} : PLs H0 H [] [] := ⟨rfl, fun i v t h => by cases h⟩
theorem PLs.snoc {H0 H : Hp} {vs : List V} {ts : List Tri} {r : Addr} {t : Tri} (h : PLs H0 H vs ts) (n : H0 r = none) (p : PL H (.ref r) t) : PLs H0 H (vs ++ [.ref r]) (ts ++ [t]) := by
  refine ⟨by rw [List.length_append, List.length_append, h.1]; rfl, fun i v u hv hu => ?_⟩
  by_cases lt : i < vs.length
  · rw [List.getElem?_append_left lt] at hv
    rw [List.getElem?_append_left (by rw [← h.1]; exact lt)] at hu
    exact h.2 i v u hv hu
  · rw [List.getElem?_append_right (by omega)] at hv
    rw [List.getElem?_append_right (by rw [← h.1]; omega), ← h.1] at hu
    cases hz : i - vs.length with
    | zero =>
      rw [hz] at hv hu
      cases hv
      cases hu
      exact ⟨r, rfl, n, p⟩
    | succ j => rw [hz] at hv; cases hv
theorem cmul_bi (x y : Bool) : CMul (bi x) (bi y) := by cases x <;> exact .inl ⟨by decide, by decide⟩
def sp_pairs (K : PySem.W.Frag) (e : Nat) : Sp := fun vs H Q _ => ∃ (v c : V) (f : Fm) (m : Nat) (a b : List Int), vs = [v, c] ∧ Tk H v f.d ∧ f.ok m = true ∧ f.dep ≤ e ∧ Tk H c (chD a b) ∧ a.length = m ∧ b.length = m ∧ Row01 a ∧ Row01 b ∧ ∀ r H', H r = none → Same H H' → PL H' (.ref r) (f.tri a b) → Q (.ref r) H'

end
end Gk

set_option Elab.async false
set_option linter.all false
set_option maxRecDepth 100000
set_option maxHeartbeats 1000000
set_option pp.maxSteps 1500
set_option pp.deepTerms false
namespace Gk
open PySem PySem.Spec PyProof.Rows L2
section
variable {P : Program} {w : World} {K : PySem.W.Frag} {mg : Str → Option Value} {base : Heap}
theorem ok_pairsE (T : Tx w K mg) : ∀ e : Nat, FnOk P w K mg base CX0 (e + 2) T.f_pairs T.fd_pairs ["_law_form_here", "_law_change_here"] (sp_pairs K e)
  | 0 => ⟨fun _ _ _ _ h => by obtain ⟨_, _, f, _, _, _, _, _, _, h, _⟩ := h; exact absurd h (by have := Fm.dep_pos f; omega), fun _ _ _ _ _ _ _ _ _ _ _ _ _ h => by obtain ⟨_, _, f, _, _, _, _, _, _, h, _⟩ := h; exact absurd h (by have := Fm.dep_pos f; omega)⟩
  | e + 1 => by
    have ih := ok_pairsE T e
    refine T.F_pairs.ok sc_pairs (fun vs H Q E h => ?_) (fun cdv A outer s H vs Q E hr h => ?_)
    · obtain ⟨v, c, f, m, a, b, rfl, _⟩ := h
      rfl
    · obtain ⟨v, c, f, m, a, b, rfl, tk, ok, de, tc, la, lb, a01, b01, q⟩ := h
      refine ⟨_, (pss_cons (ps_set (i := 2) sc_pairs.nd rfl (by first | exact .inl rfl | exact .inr rfl) (pe_ix ix_tup (pv 0) pe_int (fun _ _ => rfl))) (pss_cons (ps_if (pt_cmpR op_eq (pv 2) pe_str (nomark _)) (pss_cons (ps_set (i := 3) sc_pairs.nd rfl (by first | exact .inl rfl | exact .inr rfl) (pe_ix ix_tup (pe_ix ix_tup (pv 1) pe_int (fun _ _ => rfl)) (pe_ix ix_tup (pv 0) pe_int (fun _ _ => rfl)) (fun _ _ => rfl))) (pss_cons (ps_set (i := 4) sc_pairs.nd rfl (by first | exact .inl rfl | exact .inr rfl) (pe_ix ix_tup (pe_ix ix_tup (pv 1) pe_int (fun _ _ => rfl)) (pe_ix ix_tup (pv 0) pe_int (fun _ _ => rfl)) (fun _ _ => rfl))) (pss_one (ps_ret (pe_op op_cat (pe_lst (pa_cons (pe_tup (pa_cons (pv 3) (pa_cons (pv 3) pa_nil))) pa_nil)) (pe_op op_rep (pe_lst (pa_cons (pe_tup (pa_cons (pv 3) (pa_cons (pv 4) pa_nil))) (pa_cons (pe_tup (pa_cons (pv 4) (pa_cons (pv 4) pa_nil))) pa_nil))) (pe_callTy call_int1 (by rfl) T.m_int (by decide +kernel) (pa_cons (pe_cmpR op_ne (pv 3) (pv 4) (nomark _)) pa_nil)))))))) pss_nil) (pss_cons (ps_if (pt_cmpR op_in_seq (pv 2) (pe_tup (pa_cons pe_str (pa_cons pe_str pa_nil))) rfl) (pss_one (ps_ret (pe_lst (pa_cons (pe_op op_repT (pe_tup (pa_cons (pe_callTy call_int1 (by rfl) T.m_int (by decide +kernel) (pa_cons (pe_cmpR op_eq (pv 2) pe_str (nomark _)) pa_nil)) pa_nil)) pe_int) pa_nil)))) pss_nil) (pss_cons (ps_setLc (i := 5) (own := [("_law_part", 11)]) (by rfl) sc_pairs.nd rfl rfl (sw_true rfl rfl rfl (by decide +kernel)) (pi_tup (pe_call (ok_inner T) (hr.mono (by omega)) (by rfl) T.g_inner T.F_inner.kp T.b_inner .nil pass0 (pa_cons (pv 0) pa_nil))) (blkOk_by (own := [("_law_part", 11)]) (N := ["_law_form_here", "_law_change_here", "_law_word_here", "_law_first", "_law_last", "_law_told", "_law_found", "_law_pairs_here", "_law_more", "_law_one", "_law_other", "_law_part", "_law_k", "_law_pair", "_law_there", "_law_then"]) (sc := defScope s_pairs) (by decide +kernel)) (fun _ _ _ _ _ => (pg_name (i := 11) sc_pairs.nd rfl (by first | exact .inl rfl | exact .inr rfl))) (fun _ _ _ _ _ => pts_nil) (fun _ _ _ _ _ => (pe_call (ih) (hr.mono (by omega)) (by rfl) T.g_pairs T.F_pairs.kp T.b_pairs .nil pass0 (pa_cons (pv 11) (pa_cons (pv 1) pa_nil))))) (pss_cons (ps_if (pt_cmpR op_eq (pv 2) pe_str (nomark _)) (pss_one (ps_ret (pe_lc (own := [("_law_one", 9), ("_law_other", 10)]) (by rfl) sc_pairs.nd (pi_list (pe_ix ix_list (pv 5) pe_int (fun _ _ => rfl))) (blkOk_by (own := [("_law_one", 9), ("_law_other", 10)]) (N := ["_law_form_here", "_law_change_here", "_law_word_here", "_law_first", "_law_last", "_law_told", "_law_found", "_law_pairs_here", "_law_more", "_law_one", "_law_other", "_law_part", "_law_k", "_law_pair", "_law_there", "_law_then"]) (sc := defScope s_pairs) (by decide +kernel)) (fun _ _ _ _ _ => (show PG _ _ (gTup K 2 _) from pg_tup rfl (pgs_cons (pg_name (i := 9) sc_pairs.nd rfl (by first | exact .inl rfl | exact .inr rfl)) (pgs_cons (pg_name (i := 10) sc_pairs.nd rfl (by first | exact .inl rfl | exact .inr rfl)) pgs_nil)))) (fun _ _ _ _ _ => pts_nil) (fun _ _ _ _ _ => (pe_tup (pa_cons (pe_op op_sub pe_int (pv 9)) (pa_cons (pe_op op_sub pe_int (pv 10)) pa_nil))))))) pss_nil) (pss_cons (ps_set (i := 6) sc_pairs.nd rfl (by first | exact .inl rfl | exact .inr rfl) (pe_ix ix_list (pv 5) pe_int (fun _ _ => rfl))) (pss_cons (ps_for PassesOwn.never rfl (pi_list (pe_slice sl_list (pv 5) (po_some pe_int) po_none)) (pg_name (i := 7) sc_pairs.nd rfl (by first | exact .inl rfl | exact .inr rfl)) (pss_cons (ps_set (i := 8) sc_pairs.nd rfl (by first | exact .inl rfl | exact .inr rfl) (pe_lst pa_nil)) (pss_cons (ps_for PassesOwn.never rfl (pi_list (pv 6)) (pg_tup rfl (pgs_cons (pg_name (i := 9) sc_pairs.nd rfl (by first | exact .inl rfl | exact .inr rfl)) (pgs_cons (pg_name (i := 10) sc_pairs.nd rfl (by first | exact .inl rfl | exact .inr rfl)) pgs_nil))) (pss_one (ps_if (pt_cmpR op_eq (pv 2) pe_str (nomark _)) (pss_one (ps_set (i := 8) sc_pairs.nd rfl (by first | exact .inl rfl | exact .inr rfl) (pe_op op_cat (pv 8) (pe_lc (own := [("_law_there", 14), ("_law_then", 15)]) (by rfl) sc_pairs.nd (pi_list (pv 7)) (blkOk_by (own := [("_law_there", 14), ("_law_then", 15)]) (N := ["_law_form_here", "_law_change_here", "_law_word_here", "_law_first", "_law_last", "_law_told", "_law_found", "_law_pairs_here", "_law_more", "_law_one", "_law_other", "_law_part", "_law_k", "_law_pair", "_law_there", "_law_then"]) (sc := defScope s_pairs) (by decide +kernel)) (fun _ _ _ _ _ => (show PG _ _ (gTup K 2 _) from pg_tup rfl (pgs_cons (pg_name (i := 14) sc_pairs.nd rfl (by first | exact .inl rfl | exact .inr rfl)) (pgs_cons (pg_name (i := 15) sc_pairs.nd rfl (by first | exact .inl rfl | exact .inr rfl)) pgs_nil)))) (fun _ _ _ _ _ => pts_nil) (fun _ _ _ _ _ => (pe_tup (pa_cons (pe_op op_mul (pv 9) (pv 14)) (pa_cons (pe_op op_mul (pv 10) (pv 15)) pa_nil)))))))) (pss_one (ps_set (i := 8) sc_pairs.nd rfl (by first | exact .inl rfl | exact .inr rfl) (pe_op op_cat (pv 8) (pe_lc (own := [("_law_there", 14), ("_law_then", 15)]) (by rfl) sc_pairs.nd (pi_list (pv 7)) (blkOk_by (own := [("_law_there", 14), ("_law_then", 15)]) (N := ["_law_form_here", "_law_change_here", "_law_word_here", "_law_first", "_law_last", "_law_told", "_law_found", "_law_pairs_here", "_law_more", "_law_one", "_law_other", "_law_part", "_law_k", "_law_pair", "_law_there", "_law_then"]) (sc := defScope s_pairs) (by decide +kernel)) (fun _ _ _ _ _ => (show PG _ _ (gTup K 2 _) from pg_tup rfl (pgs_cons (pg_name (i := 14) sc_pairs.nd rfl (by first | exact .inl rfl | exact .inr rfl)) (pgs_cons (pg_name (i := 15) sc_pairs.nd rfl (by first | exact .inl rfl | exact .inr rfl)) pgs_nil)))) (fun _ _ _ _ _ => pts_nil) (fun _ _ _ _ _ => (pe_tup (pa_cons (pe_callB (call_max2 rfl) (by rfl) T.m_max (by decide +kernel) (pa_cons (pv 9) (pa_cons (pv 14) pa_nil))) (pa_cons (pe_callB (call_max2 rfl) (by rfl) T.m_max (by decide +kernel) (pa_cons (pv 10) (pa_cons (pv 15) pa_nil))) pa_nil))))))))))) (pss_one (ps_setLc (i := 6) (own := [("_law_k", 12), ("_law_pair", 13)]) (by rfl) sc_pairs.nd rfl rfl (sw_true rfl rfl rfl (by decide +kernel)) (pi_enum (by rfl) T.m_enumerate (pa_cons (pv 8) pa_nil)) (blkOk_by (own := [("_law_k", 12), ("_law_pair", 13)]) (N := ["_law_form_here", "_law_change_here", "_law_word_here", "_law_first", "_law_last", "_law_told", "_law_found", "_law_pairs_here", "_law_more", "_law_one", "_law_other", "_law_part", "_law_k", "_law_pair", "_law_there", "_law_then"]) (sc := defScope s_pairs) (by decide +kernel)) (fun _ _ _ _ _ => (show PG _ _ (gTup K 2 _) from pg_tup rfl (pgs_cons (pg_name (i := 12) sc_pairs.nd rfl (by first | exact .inl rfl | exact .inr rfl)) (pgs_cons (pg_name (i := 13) sc_pairs.nd rfl (by first | exact .inl rfl | exact .inr rfl)) pgs_nil)))) (fun _ _ _ _ _ => (pts_one (pt_cmpR (show OpR _ _ (rNotInD K) from (op_notInD (units65 hr))) (pv 13) (pe_slice (show SlR _ (rSlL K) from sl_list) (pv 8) po_none (po_some (pv 12))) rfl))) (fun _ _ _ _ _ => (pv 13))))))) (pss_one (ps_ret (pv 6)))))))))), ?_⟩
      obtain ⟨c, ra, rb, rfl, hc, hra, hrb⟩ := tc.ch_inv
      have key : (∃ b, f = .st b) ∨ (∃ i, f = .inp i) ∨ ∃ a z rest, v = .ref a ∧ H a = some (.tup (.str z :: rest)) ∧ z ≠ wIn ∧ z ≠ wOne ∧ z ≠ wNou ∧ ((z = wNot ∧ ∃ g, f = .no g) ∨ ∃ c fs, f = .op c fs ∧ z = wOp c ∧ fs ≠ []) := by
        cases f with
        | st b => exact .inl ⟨b, rfl⟩
        | inp i => exact .inr (.inl ⟨i, rfl⟩)
        | no f =>
          obtain ⟨a, w', rfl, ha, _⟩ := Fm.tk_no tk
          exact .inr (.inr ⟨a, _, _, rfl, ha, by decide +kernel, by decide +kernel, by decide +kernel, .inl ⟨rfl, f, rfl⟩⟩)
        | op c fs =>
          obtain ⟨a, b, ys, rfl, ha, _⟩ := Fm.tk_op tk
          refine .inr (.inr ⟨a, _, _, rfl, ha, by cases c <;> decide +kernel, by cases c <;> decide +kernel, by cases c <;> decide +kernel, .inr ⟨c, fs, rfl, rfl, fun z => ?_⟩⟩)
          subst z
          cases ok
      have two : ∀ z : Str, (if false = true then !inV (.str z) [V.str wOne, V.str wNou] else inV (.str z) [V.str wOne, V.str wNou]) = (decide (z = wOne) || decide (z = wNou)) := fun z => by
        rw [if_neg (by decide)]
        show (decide (wOne = z) || (decide (wNou = z) || false)) = _
        rw [Bool.or_false, decide_eq_decide.mpr (eq_comm (a := wOne)), decide_eq_decide.mpr (eq_comm (a := wNou))]
      rcases key with ⟨b', rfl⟩ | ⟨i, rfl⟩ | ⟨ad, z, rest, rfl, ha, n1, n2, n3, sorts⟩
      · obtain ⟨ad, rfl, ha⟩ := Fm.tk_st tk
        refine ⟨.ref ad, rfl, ad, _, 0, .str (wSt b'), rfl, rfl, SqT.of ha, rfl, ?_⟩
        refine ⟨.str (wSt b'), rfl, rfl, _, rfl, ite2 (fun e => absurd (V.str.inj (of_decide_eq_true e)) (by cases b' <;> decide +kernel)) (fun _ => ?_)⟩
        refine ⟨.str (wSt b'), rfl, sl2, fun p np => ?_⟩
        have s1 := same_upd (o := (HO.tup [V.str (Str.ofString "one"), V.str (Str.ofString "nought")])) np
        have h1 : upd H p (HO.tup [V.str (Str.ofString "one"), V.str (Str.ofString "nought")]) p = some (HO.tup [V.str (Str.ofString "one"), V.str (Str.ofString "nought")]) := upd_same
        generalize upd H p (HO.tup [V.str (Str.ofString "one"), V.str (Str.ofString "nought")]) = H1 at s1 h1 ⊢
        refine ⟨p, _, rfl, .inr (SqT.of h1), rfl, rfl, _, rfl, ite2 (fun _ => ?_) (fun k => absurd ((two (wSt b')).trans (by cases b' <;> decide +kernel)) k)⟩
        have e1 : (if decide (V.str (wSt b') = V.str (Str.ofString "one")) = true then (1 : Int) else 0) = bi b' := by
          cases b'
          · rw [decide_eq_false (show ¬ V.str (wSt false) = V.str (Str.ofString "one") from fun z => absurd (V.str.inj z) (by decide +kernel))]; rfl
          · rw [decide_eq_true (show V.str (wSt true) = V.str (Str.ofString "one") from rfl)]; rfl
        refine ⟨.str (wSt b'), rfl, rfl, .inr ⟨_, rfl, sl1, fun p1 np1 => ?_⟩⟩
        rw [e1]
        have s2 := same_upd (o := (HO.tup [V.int (bi b')])) np1
        have h2 : upd H1 p1 (HO.tup [V.int (bi b')]) p1 = some (HO.tup [V.int (bi b')]) := upd_same
        generalize upd H1 p1 (HO.tup [V.int (bi b')]) = H2 at s2 h2 ⊢
        refine ⟨p1, 2, _, rfl, rfl, SqT.of h2, List.cons_ne_nil _ _, by decide, by decide, (show [V.int (bi b')].length ≤ 1000 from (show 1 ≤ 1000 by decide)), fun p2 np2 => ?_⟩
        have s3 := same_upd (o := (HO.tup (List.replicate (Int.toNat 2) [V.int (bi b')]).flatten)) np2
        have h3 : upd H2 p2 (HO.tup (List.replicate (Int.toNat 2) [V.int (bi b')]).flatten) p2 = some (HO.tup (List.replicate (Int.toNat 2) [V.int (bi b')]).flatten) := upd_same
        generalize upd H2 p2 (HO.tup (List.replicate (Int.toNat 2) [V.int (bi b')]).flatten) = H3 at s3 h3 ⊢
        have h3 : H3 p2 = some (HO.tup [V.int (bi b'), V.int (bi b')]) := h3
        refine ⟨sl1, fun l nl => ?_⟩
        have s4 := same_upd (o := (HO.lst [V.ref p2])) nl
        have h4 : upd H3 l (HO.lst [V.ref p2]) l = some (HO.lst [V.ref p2]) := upd_same
        generalize upd H3 l (HO.lst [V.ref p2]) = H4 at s4 h4 ⊢
        have s04 := s1.trans (s2.trans (s3.trans s4))
        refine q l H4 (none_same (s1.trans (s2.trans s3)) nl) s04 ⟨l, _, [(b', b')], rfl, h4, .cons (pr_mk (s4 _ _ h3) rfl rfl) .nil, by simp, fun x => ?_⟩
        obtain ⟨x, y⟩ := x
        show (x, y) ∈ [(b', b')] ↔ (if b' = true then Tri.one else Tri.nought).sees (x, y) = true
        have key : ∀ b' x y : Bool, (x, y) ∈ [(b', b')] ↔ (if b' = true then Tri.one else Tri.nought).sees (x, y) = true := by decide +kernel
        exact key b' x y
      · obtain ⟨ad, rfl, ha⟩ := Fm.tk_inp tk
        refine ⟨.ref ad, rfl, ad, _, 0, .str wIn, rfl, rfl, SqT.of ha, rfl, ?_⟩
        refine ⟨.str wIn, rfl, rfl, _, rfl, ite2 (fun _ => ?_) (fun k => absurd (decide_eq_true rfl) k)⟩
        have hi : i < m := of_decide_eq_true ok
        have ga : ∃ x : Bool, a.getD i 0 = bi x := by
          rcases row_get a01 i with z | z
          · exact ⟨false, z⟩
          · exact ⟨true, z⟩
        have gb : ∃ x : Bool, b.getD i 0 = bi x := by
          rcases row_get b01 i with z | z
          · exact ⟨false, z⟩
          · exact ⟨true, z⟩
        obtain ⟨x, ex⟩ := ga
        obtain ⟨y, ey⟩ := gb
        have ata : atI (a.map V.int) (i : Int) = some (.int (bi x)) := atI_nat (by rw [List.getElem?_map, ← ex, List.getD_eq_getElem?_getD, List.getElem?_eq_getElem (by omega)]; rfl)
        have atb : atI (b.map V.int) (i : Int) = some (.int (bi y)) := atI_nat (by rw [List.getElem?_map, ← ey, List.getD_eq_getElem?_getD, List.getElem?_eq_getElem (by omega)]; rfl)
        refine ⟨.ref c, rfl, c, _, 0, .ref ra, rfl, rfl, SqT.of hc, rfl, .ref ad, rfl, ad, _, 1, .int i, rfl, rfl, SqT.of ha, rfl, ra, _, i, _, rfl, rfl, SqT.of hra, ata, ?_⟩
        refine ⟨.ref c, rfl, c, _, 1, .ref rb, rfl, rfl, SqT.of hc, rfl, .ref ad, rfl, ad, _, 1, .int i, rfl, rfl, SqT.of ha, rfl, rb, _, i, _, rfl, rfl, SqT.of hrb, atb, ?_⟩
        refine ⟨.int (bi x), rfl, .int (bi x), rfl, sl2, fun p1 np1 => ?_⟩
        have s1 := same_upd (o := (HO.tup [V.int (bi x), V.int (bi x)])) np1
        have h1 : upd H p1 (HO.tup [V.int (bi x), V.int (bi x)]) p1 = some (HO.tup [V.int (bi x), V.int (bi x)]) := upd_same
        generalize upd H p1 (HO.tup [V.int (bi x), V.int (bi x)]) = H1 at s1 h1 ⊢
        refine ⟨sl1, fun l1 nl1 => ?_⟩
        have s2 := same_upd (o := (HO.lst [V.ref p1])) nl1
        have h2 : upd H1 l1 (HO.lst [V.ref p1]) l1 = some (HO.lst [V.ref p1]) := upd_same
        generalize upd H1 l1 (HO.lst [V.ref p1]) = H2 at s2 h2 ⊢
        refine ⟨.int (bi x), rfl, .int (bi y), rfl, sl2, fun p2 np2 => ?_⟩
        have s3 := same_upd (o := (HO.tup [V.int (bi x), V.int (bi y)])) np2
        have h3 : upd H2 p2 (HO.tup [V.int (bi x), V.int (bi y)]) p2 = some (HO.tup [V.int (bi x), V.int (bi y)]) := upd_same
        generalize upd H2 p2 (HO.tup [V.int (bi x), V.int (bi y)]) = H3 at s3 h3 ⊢
        refine ⟨.int (bi y), rfl, .int (bi y), rfl, sl2, fun p3 np3 => ?_⟩
        have s4 := same_upd (o := (HO.tup [V.int (bi y), V.int (bi y)])) np3
        have h4 : upd H3 p3 (HO.tup [V.int (bi y), V.int (bi y)]) p3 = some (HO.tup [V.int (bi y), V.int (bi y)]) := upd_same
        generalize upd H3 p3 (HO.tup [V.int (bi y), V.int (bi y)]) = H4 at s4 h4 ⊢
        refine ⟨sl2, fun l2 nl2 => ?_⟩
        have s5 := same_upd (o := (HO.lst [V.ref p2, V.ref p3])) nl2
        have h5 : upd H4 l2 (HO.lst [V.ref p2, V.ref p3]) l2 = some (HO.lst [V.ref p2, V.ref p3]) := upd_same
        generalize upd H4 l2 (HO.lst [V.ref p2, V.ref p3]) = H5 at s5 h5 ⊢
        refine ⟨.int (bi x), rfl, .int (bi y), rfl, rfl, .inr ⟨_, rfl, ?_⟩⟩
        obtain ⟨k, ek⟩ : ∃ k : Nat, (if (!decide (V.int (bi x) = V.int (bi y))) = true then (1 : Int) else 0) = (k : Nat) ∧ ((x = y ∧ k = 0) ∨ (x ≠ y ∧ k = 1)) := by
          cases x <;> cases y
          · exact ⟨0, by simp, .inl ⟨rfl, rfl⟩⟩
          · exact ⟨1, by simp [bi], .inr ⟨by decide, rfl⟩⟩
          · exact ⟨1, by simp [bi], .inr ⟨by decide, rfl⟩⟩
          · exact ⟨0, by simp, .inl ⟨rfl, rfl⟩⟩
        rw [ek.1]
        refine ⟨l2, (k : Nat), _, rfl, rfl, h5, by omega, by omega, by rw [Int.toNat_natCast]; show 2 * k ≤ 16777216; omega, fun l3 nl3 => ?_⟩
        rw [Int.toNat_natCast]
        have s6 := same_upd (o := (HO.lst (List.replicate k [V.ref p2, V.ref p3]).flatten)) nl3
        have h6 : upd H5 l3 (HO.lst (List.replicate k [V.ref p2, V.ref p3]).flatten) l3 = some (HO.lst (List.replicate k [V.ref p2, V.ref p3]).flatten) := upd_same
        generalize upd H5 l3 (HO.lst (List.replicate k [V.ref p2, V.ref p3]).flatten) = H6 at s6 h6 ⊢
        have s26 := s3.trans (s4.trans (s5.trans s6))
        refine ⟨l1, l3, _, _, rfl, rfl, s26 _ _ h2, h6, ?_, fun r nr => ?_⟩
        · rcases ek.2 with ⟨_, rfl⟩ | ⟨_, rfl⟩ <;> (show _ ≤ 16777216; simp)
        have s7 := same_upd (o := (HO.lst ([V.ref p1] ++ (List.replicate k [V.ref p2, V.ref p3]).flatten))) nr
        have h7 : upd H6 r (HO.lst ([V.ref p1] ++ (List.replicate k [V.ref p2, V.ref p3]).flatten)) r = some (HO.lst ([V.ref p1] ++ (List.replicate k [V.ref p2, V.ref p3]).flatten)) := upd_same
        generalize upd H6 r (HO.lst ([V.ref p1] ++ (List.replicate k [V.ref p2, V.ref p3]).flatten)) = H7 at s7 h7 ⊢
        have s06 := s1.trans (s2.trans s26)
        have t1 : Tk H7 (.ref p1) (prD (x, x)) := pr_mk ((s2.trans (s26.trans s7)) _ _ h1) rfl rfl
        have t2 : Tk H7 (.ref p2) (prD (x, y)) := pr_mk ((s4.trans (s5.trans (s6.trans s7))) _ _ h3) rfl rfl
        have t3 : Tk H7 (.ref p3) (prD (y, y)) := pr_mk ((s5.trans (s6.trans s7)) _ _ h4) rfl rfl
        have et : (Fm.inp i).tri a b = ⟨if x = true then 1 else 0, if y = true then 1 else 0, if (x || y) = true then 1 else 0⟩ := by
          show (⟨(a.getD i 0).toNat, (b.getD i 0).toNat, max (a.getD i 0).toNat (b.getD i 0).toNat⟩ : Tri) = _
          rw [ex, ey]
          cases x <;> cases y <;> rfl
        rcases ek.2 with ⟨exy, rfl⟩ | ⟨exy, rfl⟩
        · subst exy
          refine q r H7 (none_same s06 nr) (s06.trans s7) ⟨r, _, [(x, x)], rfl, h7, .cons t1 .nil, by simp, fun pq => ?_⟩
          rw [et]
          obtain ⟨p, p'⟩ := pq
          cases x <;> cases p <;> cases p' <;> decide +kernel
        · refine q r H7 (none_same s06 nr) (s06.trans s7) ⟨r, _, [(x, x), (x, y), (y, y)], rfl, h7, .cons t1 (.cons t2 (.cons t3 .nil)), by cases x <;> cases y <;> simp_all, fun pq => ?_⟩
          rw [et]
          obtain ⟨p, p'⟩ := pq
          cases x <;> cases y <;> cases p <;> cases p' <;> first | exact absurd rfl exy | decide +kernel
      refine ⟨.ref ad, rfl, ad, _, ((0 : Nat) : Int), .str z, rfl, rfl, SqT.of ha, atI_nat rfl, ?_⟩
      refine ⟨.str z, rfl, rfl, _, rfl, ite2 (fun e => absurd (V.str.inj (of_decide_eq_true e)) n1) (fun _ => ?_)⟩
      refine ⟨.str z, rfl, sl2, fun p np => ?_⟩
      have s0 := same_upd (o := HO.tup [V.str wOne, V.str wNou]) np
      refine ⟨p, _, rfl, .inr (SqT.of upd_same), rfl, rfl, _, rfl, ite2 (fun k => ?_) (fun _ => ?_)⟩
      · have k := (two z).symm.trans k
        rw [decide_eq_false n2, decide_eq_false n3] at k
        cases k
      refine ⟨.ref ad, rfl, .ref ad, f, rfl, tk.same s0, fun H1 bb xs s1 hb txs => ⟨bb, rfl, ⟨_, SqT.of hb⟩, fun D nD => ?_⟩⟩
      replace s1 := s0.trans s1
      have lxs : xs.length = f.inner.length := by rw [txs.length, List.length_map]
      have few : f.inner.length ≤ 4 := Fm.inner_few ok
      have tc1 := tc.same s1
      refine lc_tup (K := K) (a := bb) (xs := xs) (fun i H' => Same H1 (hd1 D H') ∧ ∃ vs, H' D = some (.lst vs) ∧ PLs H (hd1 D H') vs ((f.inner.take i).map (Fm.tri a b))) ⟨hd1_of (same_upd nD) nD, [], upd_same, PLs.nil⟩ (fun i H' _ z => SqT.of (hd1_le _ _ (z.1 _ _ hb))) ?_ ?_
      · rintro i u H2 hu ⟨s2, vs, hD, pl⟩
        obtain ⟨g, hg, tg⟩ := txs.at hu
        have gm := List.mem_of_getElem? hg
        have k2 : Same H1 H2 := fun b o z => hd1_le _ _ (s2 b o z)
        have il := (List.getElem?_eq_some_iff.mp hg).1
        refine ⟨rfl, u, rfl, .ref c, rfl, u, .ref c, g, m, a, b, rfl, tg.same k2, Fm.inner_ok ok gm, by have := Fm.inner_dep gm; omega, tc1.same k2, la, lb, a01, b01, fun r H3 nr s3 pr => ⟨vs, s3 _ _ hD, ?_, (s2.trans (hd1_same s3)).trans hd1_upd, vs ++ [.ref r], upd_same, ?_⟩⟩
        · rw [pl.1, List.length_map, List.length_take]
          exact Nat.lt_of_le_of_lt (show min i f.inner.length ≤ 4 by omega) (by decide)
        · rw [List.take_add_one, hg, List.map_append]
          have rD : r ≠ D := fun z => by rw [z, hD] at nr; cases nr
          exact ((pl.same (hd1_same s3)).same hd1_upd).snoc (none_same (s1.trans k2) nr) ((pr.hd rD (s3 _ _ hD)).same hd1_upd)
      rintro H2 ⟨s2, vs, hD, pl⟩
      rw [lxs, List.take_length] at pl
      have k2 : Same H1 H2 := fun b o z => hd1_le _ _ (s2 b o z)
      have pl := pl.same (hd1_le (p := D) (H := H2))
      have s02 := s1.trans k2
      have oks : ∀ t ∈ f.inner.map (Fm.tri a b), t.Ok := Fm.map_ok a01 b01 _
      rcases sorts with ⟨rfl, g, rfl⟩ | ⟨cc, fs, rfl, rfl, nf⟩
      · refine ⟨.str wNot, rfl, rfl, _, rfl, ite2 (fun _ => ?_) (fun k => absurd (decide_eq_true rfl) k)⟩
        have lv : vs.length = 1 := pl.1
        obtain ⟨v0, hv0⟩ : ∃ v0, vs[0]? = some v0 := ⟨_, List.getElem?_eq_getElem (by omega)⟩
        obtain ⟨r0, rfl, _, r0', ws, ps, e, h0, t0, se⟩ := pl.2 0 v0 (g.tri a b) hv0 rfl
        cases e
        refine ⟨.ref D, rfl, D, _, ((0 : Nat) : Int), .ref r0, rfl, rfl, SqL.of hD, atI_nat hv0, r0, rfl, ⟨_, SqL.of h0⟩, fun D2 nD2 => ?_⟩
        refine lc_list (K := K) (a := r0) (xs := ws) (fun j H' => Same H2 (hd1 D2 H') ∧ ∃ ys, H' D2 = some (.lst ys) ∧ TkAll (hd1 D2 H') ys (((ps.take j).map fun p => (!p.1, !p.2)).map prD)) ⟨hd1_of (same_upd nD2) nD2, [], upd_same, .nil⟩ (fun j H' _ z => SqL.of (hd1_le _ _ (z.1 _ _ h0))) ?_ ?_
        · rintro j x H3 hx ⟨s3, ys, hD3, ty⟩
          obtain ⟨p, hp, tx⟩ := t0.at hx
          obtain ⟨pa, rfl, hpa⟩ := pr_inv tx
          refine ⟨pa, _, rfl, SqT.of (hd1_le _ _ (s3 _ _ hpa)), rfl, _, _, rfl, _, _, rfl, rfl, rfl, ?_⟩
          refine ⟨.int (bi p.1), rfl, _, _, rfl, rfl, .int (bi p.2), rfl, _, _, rfl, rfl, sl2, fun q2 nq2 => ?_⟩
          have s4 := same_upd (o := (HO.tup [V.int (1 - bi p.1), V.int (1 - bi p.2)])) nq2
          have h4 : upd H3 q2 (HO.tup [V.int (1 - bi p.1), V.int (1 - bi p.2)]) q2 = some (HO.tup [V.int (1 - bi p.1), V.int (1 - bi p.2)]) := upd_same
          generalize upd H3 q2 (HO.tup [V.int (1 - bi p.1), V.int (1 - bi p.2)]) = H4 at s4 h4 ⊢
          have lys : ys.length ≤ 4 := by
            have := se.few
            rw [ty.length, List.length_map, List.length_map, List.length_take]
            omega
          have hD4 := s4 _ _ hD3
          refine ⟨ys, hD4, Nat.lt_of_le_of_lt lys (by decide), (s3.trans (hd1_same s4)).trans hd1_upd, ys ++ [.ref q2], upd_same, ?_⟩
          rw [List.take_add_one, hp, List.map_append, List.map_append]
          have tn : Tk H4 (.ref q2) (prD (!p.1, !p.2)) := pr_mk h4 (bi_not _) (bi_not _)
          exact ((ty.same (hd1_same s4)).same hd1_upd).append (.cons ((tn.ts (Ts.hdL hD4) (noL_pr _)).same hd1_upd) .nil)
        · rintro H3 ⟨s3, ys, hD3, ty⟩
          have lws : ws.length = ps.length := by rw [t0.length, List.length_map]
          rw [lws, List.take_length] at ty
          have s23 : Same H2 H3 := fun b o z => hd1_le _ _ (s3 b o z)
          exact q D2 H3 (none_same s02 nD2) (s02.trans s23) ⟨D2, ys, _, rfl, hD3, ty.same hd1_le, se.neg (Fm.tri_ok a01 b01 g)⟩
      have ei : (Fm.op cc fs).inner = fs := rfl
      rw [ei] at pl oks few
      refine ⟨.str (wOp cc), rfl, rfl, _, rfl, ite2 (fun e => absurd (V.str.inj (of_decide_eq_true e)) (by cases cc <;> decide +kernel)) (fun _ => ?_)⟩
      obtain ⟨ts, hts⟩ : ∃ ts, ts = fs.map (Fm.tri a b) := ⟨_, rfl⟩
      have et : (Fm.op cc fs).tri a b = Tri.op cc ts := by rw [hts]; exact Fm.tri_app cc fs
      rw [et] at q
      rw [← hts] at pl oks
      have lts : ts.length = fs.length := by rw [hts, List.length_map]
      have ts1 : 1 ≤ ts.length := by
        rw [lts]
        cases fs with
        | nil => exact absurd rfl nf
        | cons x r => exact Nat.succ_le_succ (Nat.zero_le _)
      have lvs := pl.1
      obtain ⟨v0, hv0⟩ : ∃ v0, vs[0]? = some v0 := ⟨_, List.getElem?_eq_getElem (by omega)⟩
      obtain ⟨t0, ht0⟩ : ∃ t0, ts[0]? = some t0 := ⟨_, List.getElem?_eq_getElem (by omega)⟩
      obtain ⟨r0, rfl, nr0, pl0⟩ := pl.2 0 v0 t0 hv0 ht0
      refine ⟨.ref D, rfl, D, _, ((0 : Nat) : Int), .ref r0, rfl, rfl, SqL.of hD, atI_nat hv0, ?_⟩
      refine ⟨.ref D, rfl, ((1 : Nat) : Int), rfl, D, _, rfl, SqL.of hD, fun p2 np2 => ?_⟩
      rw [cut_from]
      have s3 := same_upd (o := (HO.lst (vs.drop 1))) np2
      have h3 : upd H2 p2 (HO.lst (vs.drop 1)) p2 = some (HO.lst (vs.drop 1)) := upd_same
      generalize upd H2 p2 (HO.lst (vs.drop 1)) = H3 at s3 h3 ⊢
      refine ⟨p2, rfl, ⟨_, SqL.of h3⟩, ?_⟩
      refine for_list (K := K) (a := p2) (xs := vs.drop 1) (fun i σ H' => ∃ rf y7 y8 y9 y10, σ = [some (.ref ad), some (.ref c), some (.str (wOp cc)), none, none, some (.ref D), some (.ref rf), y7, y8, y9, y10, none, none, none, none, none] ∧ Same H3 H' ∧ H rf = none ∧ PL H' (.ref rf) (Tri.op cc (ts.take (i + 1)))) ⟨r0, _, _, _, _, rfl, Same.refl _, nr0, ?_⟩ (fun i σ H' _ ⟨_, _, _, _, _, _, s, _⟩ => SqL.of (s _ _ h3)) ?_ ?_
      · have e1 : ts.take (0 + 1) = [t0] := by rw [List.take_add_one, ht0]; rfl
        rw [e1, Tri.op_one (oks t0 (List.mem_of_getElem? ht0))]
        exact pl0.same s3
      rotate_left
      · rintro σ H4 ⟨rf, y7, y8, y9, y10, rfl, s4, nrf, plf⟩
        rw [List.length_drop, lvs, show ts.length - 1 + 1 = ts.length by omega, List.take_length] at plf
        exact ⟨.ref rf, rfl, q rf H4 nrf (s02.trans (s3.trans s4)) plf⟩
      rintro i x σ H4 hx ⟨rf, y7, y8, y9, y10, rfl, s4, nrf, plf⟩
      rw [List.getElem?_drop] at hx
      have hil := (List.getElem?_eq_some_iff.mp hx).1
      obtain ⟨ti, hti⟩ : ∃ ti, ts[1 + i]? = some ti := ⟨_, List.getElem?_eq_getElem (by omega)⟩
      obtain ⟨rx, rfl, _, rx', qv, qs, e, hq, tq, sq⟩ := pl.2 _ _ _ hx hti
      cases e
      obtain ⟨rf', fv, ks, e, hf, tf, sf⟩ := plf
      cases e
      have q4 := sq.few
      have k4 := sf.few
      refine ⟨Nat.zero_le _, fun mo nmo => ?_⟩
      have s5 := same_upd (o := (HO.lst [])) nmo
      have h5 : upd H4 mo (HO.lst []) mo = some (HO.lst []) := upd_same
      generalize upd H4 mo (HO.lst []) = H5 at s5 h5 ⊢
      have s4q := s3.trans (s4.trans s5)
      refine ⟨.ref rf, rfl, rf, rfl, ⟨_, SqL.of (s5 _ _ hf)⟩, ?_⟩
      refine for_list (K := K) (a := rf) (xs := fv) (fun j σ H' => ∃ y9 y10 mo' mv ms, σ = [some (.ref ad), some (.ref c), some (.str (wOp cc)), none, none, some (.ref D), some (.ref rf), some (.ref rx), some (.ref mo'), y9, y10, none, none, none, none, none] ∧ Same H5 H' ∧ H' mo' = some (.lst mv) ∧ TkAll H' mv (ms.map prD) ∧ ms.length = j * qs.length ∧ ∀ q, q ∈ ms ↔ ∃ p ∈ ks.take j, ∃ p' ∈ qs, q = cb cc p p') ⟨_, _, mo, [], [], rfl, Same.refl _, h5, .nil, by rw [Nat.zero_mul]; rfl, fun q => ⟨fun z => (by cases z), fun ⟨_, z, _⟩ => (by cases z)⟩⟩ (fun j σ H' _ ⟨_, _, _, _, _, _, s, _⟩ => SqL.of (s _ _ (s5 _ _ hf))) ?_ ?_
      · rintro j u σ H6 hu ⟨y9, y10, mo', mv, ms, rfl, s6, hm, tm, lm, mem⟩
        obtain ⟨p, hp, tu⟩ := ((tf.same s5).same s6).at hu
        obtain ⟨pa, rfl, hpa⟩ := pr_inv tu
        have s6q := s6
        have hq6 := s6 _ _ (s4q _ _ hq)
        have jk : j ≤ 4 := by
          have := (List.getElem?_eq_some_iff.mp hp).1
          omega
        refine ⟨pa, _, rfl, SqT.of hpa, rfl, _, _, rfl, _, _, rfl, rfl, ?_⟩
        cases cc with
        | true =>
            refine ⟨.str wAnd, rfl, rfl, _, rfl, ite2 (fun _ => ?_) (fun k => absurd (decide_eq_true rfl) k)⟩
            refine ⟨.ref mo', rfl, .ref rx, rfl, rx, rfl, ⟨_, SqL.of hq6⟩, fun D3 nD3 => ?_⟩
            refine lc_list (K := K) (a := rx) (xs := qv) (fun jj H' => Same H6 (hd1 D3 H') ∧ ∃ ys, H' D3 = some (.lst ys) ∧ TkAll (hd1 D3 H') ys (((qs.take jj).map (cb true p)).map prD)) ⟨hd1_of (same_upd nD3) nD3, [], upd_same, .nil⟩ (fun jj H' _ z => SqL.of (hd1_le _ _ (z.1 _ _ hq6))) ?_ ?_
            · rintro jj x' HB hx' ⟨sB, ys, hD3, ty⟩
              obtain ⟨p', hp', tx'⟩ := (tq.same (s4q.trans s6q)).at hx'
              obtain ⟨pa', rfl, hpa'⟩ := pr_inv tx'
              refine ⟨pa', _, rfl, SqT.of (hd1_le _ _ (sB _ _ hpa')), rfl, _, _, rfl, _, _, rfl, rfl, rfl, ?_⟩
              refine ⟨.int (bi p.1), rfl, .int (bi p'.1), rfl, _, _, rfl, rfl, cmul_bi _ _, .int (bi p.2), rfl, .int (bi p'.2), rfl, _, _, rfl, rfl, cmul_bi _ _, sl2, fun o no => ?_⟩
              have sC := same_upd (o := (HO.tup [V.int (bi p.1 * bi p'.1), V.int (bi p.2 * bi p'.2)])) no
              have hC : upd HB o (HO.tup [V.int (bi p.1 * bi p'.1), V.int (bi p.2 * bi p'.2)]) o = some (HO.tup [V.int (bi p.1 * bi p'.1), V.int (bi p.2 * bi p'.2)]) := upd_same
              generalize upd HB o (HO.tup [V.int (bi p.1 * bi p'.1), V.int (bi p.2 * bi p'.2)]) = HC at sC hC ⊢
              have lys : ys.length ≤ 4 := by
                have := (List.getElem?_eq_some_iff.mp hp').1
                rw [ty.length, List.length_map, List.length_map, List.length_take]
                omega
              have hDC := sC _ _ hD3
              have nDo : o ≠ D3 := fun z => by rw [z] at no; rw [hD3] at no; cases no
              refine ⟨ys, hDC, Nat.lt_of_le_of_lt lys (by decide), (sB.trans (hd1_same sC)).trans hd1_upd, ys ++ [.ref o], upd_same, ?_⟩
              rw [List.take_add_one, hp', List.map_append, List.map_append]
              have tn : Tk HC (.ref o) (prD (cb true p p')) := pr_mk hC (bi_and _ _) (bi_and _ _)
              exact ((ty.same (hd1_same sC)).same hd1_upd).append (.cons ((tn.ts (Ts.hdL hDC) (noL_pr _)).same hd1_upd) .nil)
            rintro HB ⟨sB, ys, hD3, ty⟩
            have lqv : qv.length = qs.length := by rw [tq.length, List.length_map]
            rw [lqv, List.take_length] at ty
            have sB' : Same H6 HB := fun b o z => hd1_le _ _ (sB b o z)
            have tyB := ty.same (hd1_le (p := D3) (H := HB))
            have lys : ys.length = qs.length := by rw [ty.length, List.length_map, List.length_map]
            have lmv : mv.length = ms.length := by rw [tm.length, List.length_map]
            refine ⟨mo', D3, mv, ys, rfl, rfl, sB' _ _ hm, hD3, Nat.le_trans (show mv.length + ys.length ≤ 100 by
              have := Nat.mul_le_mul jk q4
              omega) (by decide), fun r nr => ?_⟩
            have sE := same_upd (o := (HO.lst (mv ++ ys))) nr
            have hE : upd HB r (HO.lst (mv ++ ys)) r = some (HO.lst (mv ++ ys)) := upd_same
            generalize upd HB r (HO.lst (mv ++ ys)) = HE at sE hE ⊢
            refine ⟨_, _, r, mv ++ ys, ms ++ qs.map (cb true p), rfl, s6.trans (sB'.trans sE), hE, ?_, by rw [List.length_append, List.length_map, lm, Nat.succ_mul], fun q => ?_⟩
            · rw [List.map_append]
              exact ((tm.same sB').append tyB).same sE
            · rw [List.mem_append, mem, List.take_add_one, hp, List.mem_map]
              constructor
              · rintro (⟨a1, b1, c1⟩ | ⟨q', b1, c1⟩)
                · exact ⟨a1, List.mem_append_left _ b1, c1⟩
                · exact ⟨p, List.mem_append_right _ (List.mem_singleton.mpr rfl), q', b1, c1.symm⟩
              · rintro ⟨a1, b1, q', c1, d1⟩
                rcases List.mem_append.mp b1 with z | z
                · exact .inl ⟨a1, z, q', c1, d1⟩
                · rw [List.mem_singleton.mp z] at d1
                  exact .inr ⟨q', c1, d1.symm⟩
        | false =>
            refine ⟨.str wOr, rfl, rfl, _, rfl, ite2 (fun k => absurd (V.str.inj (of_decide_eq_true k)) (by decide +kernel)) (fun _ => ?_)⟩
            refine ⟨.ref mo', rfl, .ref rx, rfl, rx, rfl, ⟨_, SqL.of hq6⟩, fun D3 nD3 => ?_⟩
            refine lc_list (K := K) (a := rx) (xs := qv) (fun jj H' => Same H6 (hd1 D3 H') ∧ ∃ ys, H' D3 = some (.lst ys) ∧ TkAll (hd1 D3 H') ys (((qs.take jj).map (cb false p)).map prD)) ⟨hd1_of (same_upd nD3) nD3, [], upd_same, .nil⟩ (fun jj H' _ z => SqL.of (hd1_le _ _ (z.1 _ _ hq6))) ?_ ?_
            · rintro jj x' HB hx' ⟨sB, ys, hD3, ty⟩
              obtain ⟨p', hp', tx'⟩ := (tq.same (s4q.trans s6q)).at hx'
              obtain ⟨pa', rfl, hpa'⟩ := pr_inv tx'
              refine ⟨pa', _, rfl, SqT.of (hd1_le _ _ (sB _ _ hpa')), rfl, _, _, rfl, _, _, rfl, rfl, rfl, ?_⟩
              refine ⟨.int (bi p.1), rfl, .int (bi p'.1), rfl, _, _, rfl, .int (bi p.2), rfl, .int (bi p'.2), rfl, _, _, rfl, sl2, fun o no => ?_⟩
              have sC := same_upd (o := (HO.tup [V.int (if bi p'.1 > bi p.1 then bi p'.1 else bi p.1), V.int (if bi p'.2 > bi p.2 then bi p'.2 else bi p.2)])) no
              have hC : upd HB o (HO.tup [V.int (if bi p'.1 > bi p.1 then bi p'.1 else bi p.1), V.int (if bi p'.2 > bi p.2 then bi p'.2 else bi p.2)]) o = some (HO.tup [V.int (if bi p'.1 > bi p.1 then bi p'.1 else bi p.1), V.int (if bi p'.2 > bi p.2 then bi p'.2 else bi p.2)]) := upd_same
              generalize upd HB o (HO.tup [V.int (if bi p'.1 > bi p.1 then bi p'.1 else bi p.1), V.int (if bi p'.2 > bi p.2 then bi p'.2 else bi p.2)]) = HC at sC hC ⊢
              have lys : ys.length ≤ 4 := by
                have := (List.getElem?_eq_some_iff.mp hp').1
                rw [ty.length, List.length_map, List.length_map, List.length_take]
                omega
              have hDC := sC _ _ hD3
              have nDo : o ≠ D3 := fun z => by rw [z] at no; rw [hD3] at no; cases no
              refine ⟨ys, hDC, Nat.lt_of_le_of_lt lys (by decide), (sB.trans (hd1_same sC)).trans hd1_upd, ys ++ [.ref o], upd_same, ?_⟩
              rw [List.take_add_one, hp', List.map_append, List.map_append]
              have tn : Tk HC (.ref o) (prD (cb false p p')) := pr_mk hC (bi_or _ _) (bi_or _ _)
              exact ((ty.same (hd1_same sC)).same hd1_upd).append (.cons ((tn.ts (Ts.hdL hDC) (noL_pr _)).same hd1_upd) .nil)
            rintro HB ⟨sB, ys, hD3, ty⟩
            have lqv : qv.length = qs.length := by rw [tq.length, List.length_map]
            rw [lqv, List.take_length] at ty
            have sB' : Same H6 HB := fun b o z => hd1_le _ _ (sB b o z)
            have tyB := ty.same (hd1_le (p := D3) (H := HB))
            have lys : ys.length = qs.length := by rw [ty.length, List.length_map, List.length_map]
            have lmv : mv.length = ms.length := by rw [tm.length, List.length_map]
            refine ⟨mo', D3, mv, ys, rfl, rfl, sB' _ _ hm, hD3, Nat.le_trans (show mv.length + ys.length ≤ 100 by
              have := Nat.mul_le_mul jk q4
              omega) (by decide), fun r nr => ?_⟩
            have sE := same_upd (o := (HO.lst (mv ++ ys))) nr
            have hE : upd HB r (HO.lst (mv ++ ys)) r = some (HO.lst (mv ++ ys)) := upd_same
            generalize upd HB r (HO.lst (mv ++ ys)) = HE at sE hE ⊢
            refine ⟨_, _, r, mv ++ ys, ms ++ qs.map (cb false p), rfl, s6.trans (sB'.trans sE), hE, ?_, by rw [List.length_append, List.length_map, lm, Nat.succ_mul], fun q => ?_⟩
            · rw [List.map_append]
              exact ((tm.same sB').append tyB).same sE
            · rw [List.mem_append, mem, List.take_add_one, hp, List.mem_map]
              constructor
              · rintro (⟨a1, b1, c1⟩ | ⟨q', b1, c1⟩)
                · exact ⟨a1, List.mem_append_left _ b1, c1⟩
                · exact ⟨p, List.mem_append_right _ (List.mem_singleton.mpr rfl), q', b1, c1.symm⟩
              · rintro ⟨a1, b1, q', c1, d1⟩
                rcases List.mem_append.mp b1 with z | z
                · exact .inl ⟨a1, z, q', c1, d1⟩
                · rw [List.mem_singleton.mp z] at d1
                  exact .inr ⟨q', c1, d1.symm⟩
      rintro σ H6 ⟨y9', y10', mo', mv, ms, rfl, s6, hm, tm, lm, mem⟩
      have lfv : fv.length = ks.length := by rw [tf.length, List.length_map]
      rw [lfv] at lm
      simp only [lfv, List.take_length] at mem
      have l16 : ms.length ≤ 16 := by
        have := Nat.mul_le_mul k4 q4
        omega
      have lmv : mv.length = ms.length := by rw [tm.length, List.length_map]
      refine ⟨.ref mo', rfl, mo', _, rfl, SqL.of hm, fun D4 nD4 => ?_⟩
      refine lc_enum (K := K) (a := mo') (xs := mv) (fun k H' => Same H6 (hd1 D4 H') ∧ ∃ ys us, H' D4 = some (.lst ys) ∧ TkAll (hd1 D4 H') ys (us.map prD) ∧ us.length ≤ k ∧ us.Nodup ∧ ∀ q, q ∈ us ↔ q ∈ ms.take k) ⟨hd1_of (same_upd nD4) nD4, [], [], upd_same, .nil, Nat.zero_le _, List.nodup_nil, fun q => ⟨fun z => (by cases z), fun z => (by cases z)⟩⟩ (fun k H' _ z => SqL.of (hd1_le _ _ (z.1 _ _ hm))) ?_ ?_
      · rintro k x Tq H8 hx nT ⟨s8, ys, us, hD4, ty, ln, nd, memu⟩
        obtain ⟨pk, hpk, tpk⟩ := tm.at hx
        have s68 : Same H6 H8 := fun b o z => hd1_le _ _ (s8 b o z)
        have hk := (List.getElem?_eq_some_iff.mp hpk).1
        have sT := same_upd (o := HO.tup [.int (k : Nat), x]) nT
        refine ⟨Tq, _, rfl, SqT.of upd_same, rfl, _, _, rfl, _, _, rfl, rfl, rfl, ?_⟩
        refine ⟨x, rfl, .ref mo', rfl, .int (k : Nat), rfl, (k : Int), rfl, mo', _, rfl, SqL.of (sT _ _ (s68 _ _ hm)), fun p3 np3 => ?_⟩
        rw [cut_to]
        have s9 := same_upd (o := HO.lst (mv.take k)) np3
        have sA := sT.trans s9
        have t9 := tm.same (s68.trans sA)
        refine ⟨prD pk, (ms.take k).map prD, (tpk.same (s68.trans sA)).dp', .lst (SqL.of upd_same) ?_, pr_shaped _, prs_shaped _, ?_⟩
        · rw [List.map_take]
          exact (TkAll.take k t9).dp'
        rw [any_pr]
        have hDA := sA _ _ hD4
        refine ⟨_, rfl, ite2 (fun ye => ?_) (fun no => ?_)⟩
        · have ni : pk ∉ us := fun z => by
            rw [decide_eq_true ((memu pk).mp z)] at ye
            cases ye
          have lys : ys.length ≤ 16 := by rw [ty.length, List.length_map]; omega
          refine ⟨x, rfl, ys, hDA, Nat.lt_of_le_of_lt lys (by decide), (s8.trans (hd1_same sA)).trans hd1_upd, ys ++ [x], us ++ [pk], upd_same, ?_, by rw [List.length_append]; exact Nat.succ_le_succ ln, ?_, fun q => ?_⟩
          · rw [List.map_append]
            exact ((ty.same (hd1_same sA)).same hd1_upd).append (.cons ((((tpk.same (s68.trans sA)).ts (Ts.hdL hDA) (noL_pr _))).same hd1_upd) .nil)
          · rw [List.nodup_append]
            exact ⟨nd, by simp, fun a1 h1 b1 h2 e => ni (by rw [List.mem_singleton.mp h2] at e; rw [← e]; exact h1)⟩
          · rw [List.take_add_one, hpk, List.mem_append, List.mem_append, memu]
            rfl
        · have yes : pk ∈ ms.take k := Classical.byContradiction fun z => no (by rw [decide_eq_false z]; rfl)
          refine ⟨s8.trans (hd1_same sA), ys, us, hDA, ty.same (hd1_same sA), Nat.le_succ_of_le ln, nd, fun q => ?_⟩
          rw [List.take_add_one, hpk, memu, List.mem_append]
          exact ⟨.inl, fun z => z.elim id fun z => by rw [List.mem_singleton.mp z]; exact yes⟩
      rintro H8 ⟨s8, ys, us, hD4, ty, ln, nd, memu⟩
      rw [lmv, List.take_length] at memu
      have s68 : Same H6 H8 := fun b o z => hd1_le _ _ (s8 b o z)
      have sall := s5.trans (s6.trans s68)
      refine ⟨D4, _, _, _, _, rfl, s4.trans sall, none_same (s02.trans (s3.trans (s4.trans (s5.trans s6)))) nD4, D4, ys, us, rfl, hD4, ty.same hd1_le, ?_⟩
      have e2 : ts.take (i + 1 + 1) = ts.take (i + 1) ++ [ti] := by
        rw [List.take_add_one (i := i + 1), show ts[i + 1]? = some ti by rw [Nat.add_comm]; exact hti]
        rfl
      rw [e2]
      exact Sees.comb (fun s hs => oks s (List.mem_of_mem_take hs)) (oks ti (List.mem_of_getElem? hti)) sf sq nd fun q => (memu q).trans (mem q)

end
end Gk

set_option Elab.async false
set_option linter.all false
set_option maxRecDepth 100000
set_option maxHeartbeats 1000000
set_option pp.maxSteps 1500
set_option pp.deepTerms false
namespace Gk
open PySem PySem.Spec PyProof.Rows L2
section
variable {P : Program} {w : World} {K : PySem.W.Frag} {mg : Str → Option Value} {base : Heap}
/-! ### the law's own word -/
theorem ok_worth (T : Tx w K mg) : FnOk P w K mg base CX0 25 T.f_worth T.fd_worth ["_law_form_here", "_law_row"] (sp_l_worth K 23) := ok_l_worthE T 23
theorem ok_pairs (T : Tx w K mg) : FnOk P w K mg base CX0 26 T.f_pairs T.fd_pairs ["_law_form_here", "_law_change_here"] (sp_pairs K 24) := ok_pairsE T 24
def sp_word (K : PySem.W.Frag) : Sp := fun vs H Q _ => ∃ (v c : V) (f : Fm) (m : Nat) (a b : List Int), vs = [v, c] ∧ Tk H v f.d ∧ f.ok m = true ∧ f.dep ≤ 22 ∧ Tk H c (chD a b) ∧ a.length = m ∧ b.length = m ∧ Row01 a ∧ Row01 b ∧ ∀ p H', Same H H' → H' p = some (.tup [.int (((f.tri a b).f : Nat) : Int), .int (((f.tri a b).l : Nat) : Int), .bl (decide (1 < (f.tri a b).num))]) → Q (.ref p) H'
theorem ok_word (T : Tx w K mg) : FnOk P w K mg base CX0 27 T.f_word T.fd_word ["_law_form_here", "_law_change_here"] (sp_word K) := by
  refine T.F_word.ok sc_word (fun vs H Q E h => ?_) (fun cdv A outer s H vs Q E hr h => ?_)
  · obtain ⟨v, c, f, m, a, b, rfl, _⟩ := h
    rfl
  · obtain ⟨v, c, f, m, a, b, rfl, tk, ok, de, tc, la, lb, a01, b01, q⟩ := h
    refine ⟨_, (pss_cons (ps_set (i := 2) sc_word.nd rfl (by first | exact .inl rfl | exact .inr rfl) (pe_call (ok_worth T) (hr.mono (by decide)) (by rfl) T.g_worth T.F_worth.kp T.b_worth .nil pass0 (pa_cons (pv 0) (pa_cons (pe_ix ix_tup (pv 1) pe_int (fun _ _ => rfl)) pa_nil)))) (pss_cons (ps_set (i := 3) sc_word.nd rfl (by first | exact .inl rfl | exact .inr rfl) (pe_call (ok_worth T) (hr.mono (by decide)) (by rfl) T.g_worth T.F_worth.kp T.b_worth .nil pass0 (pa_cons (pv 0) (pa_cons (pe_ix ix_tup (pv 1) pe_int (fun _ _ => rfl)) pa_nil)))) (pss_cons (ps_set (i := 4) sc_word.nd rfl (by first | exact .inl rfl | exact .inr rfl) (pe_call (ok_pairs T) (hr.mono (by decide)) (by rfl) T.g_pairs T.F_pairs.kp T.b_pairs .nil pass0 (pa_cons (pv 0) (pa_cons (pv 1) pa_nil)))) (pss_cons (ps_if (pt_cmpR op_eq (pv 2) (pv 3) (nomark _)) (pss_one (ps_ret (pe_tup (pa_cons (pv 2) (pa_cons (pv 3) (pa_cons (pe_cmpR (op_neD hr.units) (pe_lc (own := [("_law_pair", 5)]) (by rfl) sc_word.nd (pi_list (pv 4)) (blkOk_by (own := [("_law_pair", 5)]) (N := ["_law_form_here", "_law_change_here", "_law_first", "_law_last", "_law_pairs_here", "_law_pair"]) (sc := defScope s_word) (by decide +kernel)) (fun _ _ _ _ _ => (pg_name (i := 5) sc_word.nd rfl (by first | exact .inl rfl | exact .inr rfl))) (fun _ _ _ _ _ => (pts_one (PW.pt (pw_or (pt_cmpR (show OpR _ _ (rIn K true) from op_notIn_seq) (pv 2) (pv 5) rfl) (pw_or1 (pt_cmpR op_ne (pe_ix (show IxR _ (rIxT K) from ix_tup) (pv 5) pe_int (fun _ _ => rfl)) (pe_ix (show IxR _ (rIxT K) from ix_tup) (pv 5) pe_int (fun _ _ => rfl)) (nomark _))))))) (fun _ _ _ _ _ => (pv 5))) (pe_lst pa_nil) (nomark _)) pa_nil)))))) pss_nil) (pss_one (ps_ret (pe_tup (pa_cons (pv 2) (pa_cons (pv 3) (pa_cons (pe_cmpR (op_inD (units65 hr)) (pe_tup (pa_cons (pv 3) (pa_cons (pv 2) pa_nil))) (pv 4) rfl) pa_nil)))))))))), ?_⟩
    obtain ⟨c, ra, rb, rfl, hc, hra, hrb⟩ := tc.ch_inv
    have tok := Fm.tri_ok a01 b01 f
    have eF : (((f.tri a b).f : Nat) : Int) = bi (f.tri a b).fb := by
      obtain ⟨h1, _⟩ := tok
      unfold Tri.fb
      rcases (show (f.tri a b).f = 0 ∨ (f.tri a b).f = 1 by omega) with z | z <;> rw [z] <;> rfl
    have eL : (((f.tri a b).l : Nat) : Int) = bi (f.tri a b).lb := by
      obtain ⟨_, h1, _⟩ := tok
      unfold Tri.lb
      rcases (show (f.tri a b).l = 0 ∨ (f.tri a b).l = 1 by omega) with z | z <;> rw [z] <;> rfl
    have wa : f.wo a = bi (f.tri a b).fb := by rw [← eF]; exact (Fm.tri_f a01 b01 f).symm
    have wb : f.wo b = bi (f.tri a b).lb := by rw [← eL]; exact (Fm.tri_l a01 b01 f).symm
    rw [eF, eL] at q
    refine ⟨v, rfl, .ref c, rfl, c, _, 0, .ref ra, rfl, rfl, SqT.of hc, rfl, v, f, m, ra, a, rfl, tk, ok, by omega, hra, la, a01, fun H1 s1 => ?_⟩
    refine ⟨v, rfl, .ref c, rfl, c, _, 1, .ref rb, rfl, rfl, SqT.of (s1 _ _ hc), rfl, v, f, m, rb, b, rfl, tk.same s1, ok, by omega, s1 _ _ hrb, lb, b01, fun H2 s2 => ?_⟩
    have s02 := s1.trans s2
    refine ⟨v, rfl, .ref c, rfl, v, .ref c, f, m, a, b, rfl, tk.same s02, ok, by omega, tc.same s02, la, lb, a01, b01, fun r H3 nr s3 pl => ?_⟩
    obtain ⟨r', vs, ps, e, hr', tv, se⟩ := pl
    cases e
    have s03 := s02.trans s3
    have see : ∀ p, p ∈ ps ↔ inB (f.tri a b).fb (f.tri a b).lb (f.tri a b).mb p.1 p.2 = true := se.2
    have few := se.few
    have q : ∀ p H', Same H H' → H' p = some (.tup [.int (bi (f.tri a b).fb), .int (bi (f.tri a b).lb), .bl (f.tri a b).mb]) → Q (.ref p) H' := q
    rw [wa, wb]
    generalize (f.tri a b).fb = x at *
    generalize (f.tri a b).lb = y at *
    generalize (f.tri a b).mb = mm at *
    refine ⟨.int (bi x), rfl, .int (bi y), rfl, rfl, _, rfl, ite2 (fun exy => ?_) (fun exy => ?_)⟩
    · have exy : x = y := by
        have z := of_decide_eq_true exy
        cases x <;> cases y <;> first | rfl | exact absurd (V.int.inj z) (by decide)
      subst exy
      refine ⟨.int (bi x), rfl, .int (bi x), rfl, .ref r, rfl, r, rfl, ⟨_, SqL.of hr'⟩, fun D nD => ?_⟩
      refine lc_list (K := K) (a := r) (xs := vs) (fun j H' => Same H3 (hd1 D H') ∧ ∃ ys us, H' D = some (.lst ys) ∧ TkAll (hd1 D H') ys (us.map prD) ∧ us.length ≤ j ∧ ∀ q, q ∈ us ↔ q ∈ ps.take j ∧ q ≠ (x, x)) ⟨hd1_of (same_upd nD) nD, [], [], upd_same, .nil, Nat.zero_le _, fun q => ⟨fun z => (by cases z), fun z => (by cases z.1)⟩⟩ (fun j H' _ z => SqL.of (hd1_le _ _ (z.1 _ _ hr'))) ?_ ?_
      · rintro j u H4 hu ⟨s4, ys, us, hD, ty, ln, mem⟩
        obtain ⟨p, hp, tp⟩ := tv.at hu
        obtain ⟨pa, rfl, hpa⟩ := pr_inv tp
        have s34 : Same H3 H4 := fun b o z => hd1_le _ _ (s4 b o z)
        have hpa4 := s34 _ _ hpa
        have hj := (List.getElem?_eq_some_iff.mp hp).1
        have tkj : ps.take (j + 1) = ps.take j ++ [p] := by rw [List.take_add_one, hp]; rfl
        have yes : p ≠ (x, x) → ∃ acc, H4 D = some (.lst acc) ∧ acc.length < sizeLine ∧ (Same H3 (hd1 D (upd H4 D (.lst (acc ++ [.ref pa])))) ∧ ∃ (ys : List V) (us : List (Bool × Bool)), (upd H4 D (.lst (acc ++ [.ref pa]))) D = some (.lst ys) ∧ TkAll (hd1 D (upd H4 D (.lst (acc ++ [.ref pa])))) ys (us.map prD) ∧ us.length ≤ j + 1 ∧ ∀ q, q ∈ us ↔ q ∈ ps.take (j + 1) ∧ q ≠ (x, x)) := fun ne => by
          have lys : ys.length ≤ 4 := by rw [ty.length, List.length_map]; omega
          refine ⟨ys, hD, Nat.lt_of_le_of_lt lys (by decide), s4.trans hd1_upd, ys ++ [.ref pa], us ++ [p], upd_same, ?_, by rw [List.length_append]; exact Nat.succ_le_succ ln, fun q => ?_⟩
          · rw [List.map_append]
            exact (ty.same hd1_upd).append (.cons (((tp.same s34).ts (Ts.hdL hD) (noL_pr _)).same hd1_upd) .nil)
          · rw [tkj, List.mem_append, List.mem_append, mem]
            constructor
            · rintro (z | z)
              · exact ⟨.inl z.1, z.2⟩
              · rw [List.mem_singleton.mp z]; exact ⟨.inr (List.mem_singleton.mpr rfl), ne⟩
            · rintro ⟨z | z, w⟩
              · exact .inl ⟨z, w⟩
              · exact .inr z
        have e1 : inV (.int (bi x)) [V.int (bi p.1), V.int (bi p.2)] = (decide (p.1 = x) || decide (p.2 = x)) := by
          obtain ⟨p1, p2⟩ := p
          cases x <;> cases p1 <;> cases p2 <;> decide +kernel
        have e2 : (!decide (V.int (bi p.1) = V.int (bi p.2))) = !decide (p.1 = p.2) := by
          obtain ⟨p1, p2⟩ := p
          cases p1 <;> cases p2 <;> decide +kernel
        refine ⟨rfl, .int (bi x), rfl, .ref pa, rfl, pa, _, rfl, .inr (SqT.of hpa4), rfl, rfl, ?_⟩
        rw [if_pos rfl, e1]
        refine ⟨_, rfl, ite2 (fun k => ?_) (fun k => ?_)⟩
        · refine iteT ?_
          refine ⟨.ref pa, rfl, yes fun z => ?_⟩
          rw [z] at k
          simp at k
        · refine ⟨.ref pa, rfl, pa, _, ((0 : Nat) : Int), _, rfl, rfl, SqT.of hpa4, atI_nat rfl, .ref pa, rfl, pa, _, ((1 : Nat) : Int), _, rfl, rfl, SqT.of hpa4, atI_nat rfl, rfl, ?_⟩
          rw [e2]
          refine ⟨_, rfl, ite2 (fun k2 => ?_) (fun k2 => ?_)⟩
          · refine ⟨.ref pa, rfl, yes fun z => ?_⟩
            rw [z] at k2
            simp at k2
          · refine ⟨s4, ys, us, hD, ty, Nat.le_succ_of_le ln, fun q => ?_⟩
            have ex : p = (x, x) := by
              obtain ⟨p1, p2⟩ := p
              revert k k2
              cases x <;> cases p1 <;> cases p2 <;> simp
            rw [tkj, List.mem_append, mem]
            constructor
            · rintro ⟨z, w⟩
              exact ⟨.inl z, w⟩
            · rintro ⟨z | z, w⟩
              · exact ⟨z, w⟩
              · rw [List.mem_singleton.mp z] at w; exact absurd ex w
      rintro H4 ⟨s4, ys, us, hD, ty, ln, mem⟩
      have lvs : vs.length = ps.length := by rw [tv.length, List.length_map]
      rw [lvs, List.take_length] at mem
      have s34 : Same H3 H4 := fun b o z => hd1_le _ _ (s4 b o z)
      refine ⟨Nat.zero_le _, fun e0 ne0 => ?_⟩
      have s5 := same_upd (o := (HO.lst [])) ne0
      have h5 : upd H4 e0 (HO.lst []) e0 = some (HO.lst []) := upd_same
      generalize upd H4 e0 (HO.lst []) = H5 at s5 h5 ⊢
      refine ⟨.list (us.map prD), .list [], .lst (SqL.of (s5 _ _ hD)) ((ty.same hd1_le).same s5).dp', .lst (SqL.of h5) .nil, prs_shaped _, rfl, ?_⟩
      refine ⟨sl3, fun p6 np6 => ?_⟩
      have em : (!PyData.eqv (.list (us.map prD)) (.list [])) = mm := by
        cases us with
        | nil =>
          cases mm with
          | false => rfl
          | true =>
            have z : (!x, !x) ∈ ([] : List (Bool × Bool)) := (mem _).mpr ⟨(see _).mpr rfl, fun z => by have := (Prod.mk.inj z).1; cases x <;> cases this⟩
            cases z
        | cons p r =>
          have z := (mem p).mp List.mem_cons_self
          have w := (see p).mp z.1
          cases mm with
          | true => rfl
          | false =>
            exfalso
            apply z.2
            obtain ⟨p1, p2⟩ := p
            revert w
            cases x <;> cases p1 <;> cases p2 <;> decide
      rw [em]
      exact q p6 _ (s03.trans (s34.trans (s5.trans (same_upd np6)))) upd_same
    · have exy : x ≠ y := fun z => exy (by rw [z]; exact decide_eq_true rfl)
      refine ⟨.int (bi x), rfl, .int (bi y), rfl, .int (bi y), rfl, .int (bi x), rfl, sl2, fun p1 np1 => ?_⟩
      have s4 := same_upd (o := (HO.tup [V.int (bi y), V.int (bi x)])) np1
      have h4 : upd H3 p1 (HO.tup [V.int (bi y), V.int (bi x)]) p1 = some (HO.tup [V.int (bi y), V.int (bi x)]) := upd_same
      generalize upd H3 p1 (HO.tup [V.int (bi y), V.int (bi x)]) = H4 at s4 h4 ⊢
      have tp : Tk H4 (.ref p1) (prD (y, x)) := pr_mk h4 rfl rfl
      refine ⟨.ref r, rfl, prD (y, x), ps.map prD, tp.dp', .lst (SqL.of (s4 _ _ hr')) (tv.same s4).dp', pr_shaped _, prs_shaped _, ?_⟩
      rw [any_pr]
      have em : decide ((y, x) ∈ ps) = mm := by
        have := see (y, x)
        cases mm with
        | true => exact decide_eq_true (this.mpr rfl)
        | false =>
          refine decide_eq_false fun z => ?_
          have w := this.mp z
          revert w
          cases x <;> cases y <;> first | exact absurd rfl exy | decide
      rw [em]
      refine ⟨sl3, fun p6 np6 => ?_⟩
      exact q p6 _ (s03.trans (s4.trans (same_upd np6))) upd_same

end
end Gk

set_option Elab.async false
set_option linter.all false
set_option maxRecDepth 100000
set_option maxHeartbeats 1000000
set_option pp.maxSteps 1500
set_option pp.deepTerms false
namespace Gk
open PySem PySem.Spec PyProof.Rows L2
section
variable {P : Program} {w : World} {K : PySem.W.Frag} {mg : Str → Option Value} {base : Heap}
/-! ### all counts, the greatest first -/
def stepC (n : Nat) (one : List Nat) : List (List Nat) := (List.range (n + 1)).map fun k => one ++ [n - k]
def countsM (ns : List Nat) : List (List Nat) := ns.foldl (fun found n => found.flatMap (stepC n)) [[]]
theorem countsM_take {ns : List Nat} {j n : Nat} (h : ns[j]? = some n) : countsM (ns.take (j + 1)) = (countsM (ns.take j)).flatMap (stepC n) := by
  rw [List.take_add_one, h]
  unfold countsM
  show ((ns.take j) ++ [n]).foldl _ _ = _
  rw [List.foldl_append]
  rfl
theorem stepC_len (n : Nat) (one : List Nat) : (stepC n one).length = n + 1 := by unfold stepC; rw [List.length_map, List.length_range]
theorem flat_stepC (n : Nat) : ∀ l : List (List Nat), (l.flatMap (stepC n)).length = l.length * (n + 1)
  | [] => by rw [List.flatMap_nil]; exact (Nat.zero_mul _).symm
  | c :: r => by
    rw [List.flatMap_cons, List.length_append, stepC_len, flat_stepC n r, List.length_cons, Nat.succ_mul]
    omega
theorem countsM_len {ns : List Nat} (h : ∀ n ∈ ns, n ≤ 40) : ∀ j, j ≤ ns.length → (countsM (ns.take j)).length ≤ 41 ^ j
  | 0, _ => by rw [List.take_zero]; decide
  | j + 1, hj => by
    obtain ⟨n, hn⟩ : ∃ n, ns[j]? = some n := ⟨_, List.getElem?_eq_getElem (by omega)⟩
    rw [countsM_take hn, flat_stepC, Nat.pow_succ]
    have := h n (List.mem_of_getElem? hn)
    exact Nat.mul_le_mul (countsM_len h j (by omega)) (by omega)
theorem countsM_mem_len : ∀ {ns : List Nat} {j : Nat}, j ≤ ns.length → ∀ c ∈ countsM (ns.take j), c.length = j
  | ns, 0, _, c, hc => by
    rw [List.take_zero] at hc
    rw [List.mem_singleton.mp hc]
    rfl
  | ns, j + 1, hj, c, hc => by
    obtain ⟨n, hn⟩ : ∃ n, ns[j]? = some n := ⟨_, List.getElem?_eq_getElem (by omega)⟩
    rw [countsM_take hn] at hc
    obtain ⟨one, ho, hm⟩ := List.mem_flatMap.mp hc
    unfold stepC at hm
    obtain ⟨k, _, rfl⟩ := List.mem_map.mp hm
    rw [List.length_append, countsM_mem_len (by omega) one ho]
    rfl
def natR (c : List Nat) : PyData := rowD (c.map Int.ofNat)
theorem noL_natR (cs : List (List Nat)) : noLs (cs.map natR) = true := noLs_map (fun c => noL_row _) cs
def sp_counts (K : PySem.W.Frag) : Sp := fun vs H Q _ => ∃ (l : Addr) (ns : List Nat), vs = [.ref l] ∧ H l = some (.lst ((ns.map Int.ofNat).map V.int)) ∧ (∀ n ∈ ns, n ≤ 40) ∧ ns.length ≤ 4 ∧ ∀ r H' vs, H r = none → Same H H' → H' r = some (.lst vs) → TkAll H' vs ((countsM ns).map natR) → Q (.ref r) H'
theorem ok_counts (T : Tx w K mg) : FnOk P w K mg base CX0 1 T.f_counts T.fd_counts ["_law_numbers"] (sp_counts K) := by
  refine T.F_counts.ok sc_counts (fun vs H Q E h => ?_) (fun cdv A outer s H vs Q E hr h => ?_)
  · obtain ⟨l, ns, rfl, _⟩ := h
    rfl
  · obtain ⟨l, ns, rfl, hl, n40, n4, q⟩ := h
    refine ⟨_, (pss_cons (ps_set (i := 1) sc_counts.nd rfl (by first | exact .inl rfl | exact .inr rfl) (pe_lst (pa_cons (pe_tup pa_nil) pa_nil))) (pss_cons (ps_for PassesOwn.never rfl (pi_list (pv 0)) (pg_name (i := 2) sc_counts.nd rfl (by first | exact .inl rfl | exact .inr rfl)) (pss_cons (ps_set (i := 3) sc_counts.nd rfl (by first | exact .inl rfl | exact .inr rfl) (pe_lst pa_nil)) (pss_cons (ps_for PassesOwn.never rfl (pi_list (pv 1)) (pg_name (i := 4) sc_counts.nd rfl (by first | exact .inl rfl | exact .inr rfl)) (pss_one (ps_set (i := 3) sc_counts.nd rfl (by first | exact .inl rfl | exact .inr rfl) (pe_op op_cat (pv 3) (pe_lc (own := [("_law_k", 5)]) (by rfl) sc_counts.nd (pi_range1 (by rfl) T.m_range (pa_cons (pe_op op_add (pv 2) pe_int) pa_nil)) (blkOk_by (own := [("_law_k", 5)]) (N := ["_law_numbers", "_law_found", "_law_number", "_law_longer", "_law_one", "_law_k"]) (sc := defScope s_counts) (by decide +kernel)) (fun _ _ _ _ _ => (pg_name (i := 5) sc_counts.nd rfl (by first | exact .inl rfl | exact .inr rfl))) (fun _ _ _ _ _ => pts_nil) (fun _ _ _ _ _ => (pe_op (show OpR _ _ (rCatA K) from op_catA) (pv 4) (pe_tup (pa_cons (pe_op op_sub (pv 2) (pv 5)) pa_nil))))))))) (pss_one (ps_set (i := 1) sc_counts.nd rfl (by first | exact .inl rfl | exact .inr rfl) (pv 3)))))) (pss_one (ps_ret (pv 1))))), ?_⟩
    have pw : ∀ j, j ≤ 4 → 41 ^ j ≤ 2825761 := fun j hj => Nat.le_trans (Nat.pow_le_pow_right (by decide) hj) (by decide)
    refine ⟨Nat.zero_le _, fun p0 np0 => ?_⟩
    have s1 := same_upd (o := (HO.tup [])) np0
    have h1 : upd H p0 (HO.tup []) p0 = some (HO.tup []) := upd_same
    generalize upd H p0 (HO.tup []) = H1 at s1 h1 ⊢
    refine ⟨sl1, fun fo nfo => ?_⟩
    have s2 := same_upd (o := (HO.lst [V.ref p0])) nfo
    have h2 : upd H1 fo (HO.lst [V.ref p0]) fo = some (HO.lst [V.ref p0]) := upd_same
    generalize upd H1 fo (HO.lst [V.ref p0]) = H2 at s2 h2 ⊢
    have s02 := s1.trans s2
    have hl2 := s02 _ _ hl
    refine ⟨.ref l, rfl, l, rfl, ⟨_, SqL.of hl2⟩, ?_⟩
    refine for_list (K := K) (a := l) (xs := (ns.map Int.ofNat).map V.int) (fun i σ H' => ∃ f' y2 y3 y4 vs, σ = [some (.ref l), some (.ref f'), y2, y3, y4, none] ∧ Same H2 H' ∧ H f' = none ∧ H' f' = some (.lst vs) ∧ TkAll H' vs ((countsM (ns.take i)).map natR)) ⟨fo, _, _, _, _, rfl, Same.refl _, none_same s1 nfo, h2, .cons (.tup (s2 _ _ h1) .nil) .nil⟩ (fun i σ H' _ ⟨_, _, _, _, _, _, s, _⟩ => SqL.of (s _ _ hl2)) ?_ ?_
    rotate_left
    · rintro σ H3 ⟨f', y2, y3, y4, vs, rfl, s3, nf, hf, tv⟩
      rw [List.length_map, List.length_map, List.take_length] at tv
      exact ⟨.ref f', rfl, q f' H3 vs nf (s02.trans s3) hf tv⟩
    rintro i x σ H3 hx ⟨f', y2, y3, y4, vs, rfl, s3, nf, hf, tv⟩
    obtain ⟨n, hn, rfl⟩ : ∃ n : Nat, ns[i]? = some n ∧ x = .int (n : Nat) := by
      rw [List.getElem?_map, List.getElem?_map] at hx
      cases e : ns[i]? with
      | none => rw [e] at hx; cases hx
      | some n => rw [e] at hx; exact ⟨n, rfl, (Option.some.inj hx).symm⟩
    have hi := (List.getElem?_eq_some_iff.mp hn).1
    have n41 := n40 n (List.mem_of_getElem? hn)
    have cl := countsM_len n40 i (by omega)
    have cl' := countsM_len n40 (i + 1) (by omega)
    rw [countsM_take hn, flat_stepC] at cl'
    have b1 := Nat.le_trans cl' (pw (i + 1) (by omega))
    obtain ⟨fs, hfs⟩ : ∃ fs, fs = countsM (ns.take i) := ⟨_, rfl⟩
    have ml : ∀ c ∈ fs, c.length ≤ 4 := fun c hc => by
      rw [hfs] at hc
      rw [countsM_mem_len (by omega) c hc]
      omega
    rw [← hfs] at tv b1
    refine ⟨Nat.zero_le _, fun lo nlo => ?_⟩
    have s4 := same_upd (o := (HO.lst [])) nlo
    have h4 : upd H3 lo (HO.lst []) lo = some (HO.lst []) := upd_same
    generalize upd H3 lo (HO.lst []) = H4 at s4 h4 ⊢
    have s24 := s3.trans s4
    refine ⟨.ref f', rfl, f', rfl, ⟨_, SqL.of (s4 _ _ hf)⟩, ?_⟩
    refine for_list (K := K) (a := f') (xs := vs) (fun j σ H' => ∃ lo' y4 ws, σ = [some (.ref l), some (.ref f'), some (.int (n : Nat)), some (.ref lo'), y4, none] ∧ Same H4 H' ∧ H lo' = none ∧ H' lo' = some (.lst ws) ∧ TkAll H' ws (((fs.take j).flatMap (stepC n)).map natR)) ⟨lo, _, [], rfl, Same.refl _, none_same (s02.trans s3) nlo, h4, .nil⟩ (fun j σ H' _ ⟨_, _, _, _, s, _⟩ => SqL.of (s _ _ (s4 _ _ hf))) ?_ ?_
    rotate_left
    · rintro σ H5 ⟨lo', y4', ws, rfl, s5, nlo', hlo', tw⟩
      have lv : vs.length = fs.length := by rw [tv.length, List.length_map]
      rw [lv, List.take_length, hfs, ← countsM_take hn] at tw
      exact ⟨.ref lo', rfl, lo', _, _, _, ws, rfl, s24.trans s5, nlo', hlo', tw⟩
    rintro j u σ H5 hu ⟨lo', y4', ws, rfl, s5, nlo', hlo', tw⟩
    obtain ⟨c, hc, tc⟩ := (tv.same (s4.trans s5)).at hu
    obtain ⟨ca, rfl, hca⟩ := Tk.row_inv tc
    have jl := (List.getElem?_eq_some_iff.mp hc).1
    have c4 := ml c (List.mem_of_getElem? hc)
    refine ⟨.ref lo', rfl, .int (n : Nat), rfl, _, _, rfl, rfl, (n : Int) + 1, rfl, by omega, by omega, fun D nD => ?_⟩
    have en : ((n : Int) + 1).toNat = n + 1 := by omega
    refine lc_range (lo := 0) (n := ((n : Int) + 1).toNat) (fun k H' => Same H5 (hd1 D H') ∧ ∃ ys, H' D = some (.lst ys) ∧ TkAll (hd1 D H') ys (((List.range k).map fun k => c ++ [n - k]).map natR)) ⟨hd1_of (same_upd nD) nD, [], upd_same, .nil⟩ ?_ ?_
    · rintro k H6 hk ⟨s6, ys, hD, ty⟩
      rw [en] at hk
      have s56 : Same H5 H6 := fun b o z => hd1_le _ _ (s6 b o z)
      refine ⟨rfl, .ref ca, rfl, .int (n : Nat), rfl, .int (0 + (k : Nat)), rfl, _, _, rfl, rfl, sl1, fun p1 np1 => ?_⟩
      have s7 := same_upd (o := (HO.tup [V.int ((n : Int) - (0 + (k : Int)))])) np1
      have h7 : upd H6 p1 (HO.tup [V.int ((n : Int) - (0 + (k : Int)))]) p1 = some (HO.tup [V.int ((n : Int) - (0 + (k : Int)))]) := upd_same
      generalize upd H6 p1 (HO.tup [V.int ((n : Int) - (0 + (k : Int)))]) = H7 at s7 h7 ⊢
      refine catA (s7 _ _ (s56 _ _ hca)) h7 (by rw [List.length_map, List.length_map]; exact Nat.le_trans (show c.length + 1 ≤ 100 by omega) (by decide)) fun p2 H8 s8 h8 => ?_
      have s68 := s7.trans s8
      have lys : ys.length ≤ 40 := by
        rw [ty.length, List.length_map, List.length_map, List.length_range]
        omega
      have hD8 := s68 _ _ hD
      refine ⟨ys, hD8, Nat.lt_of_le_of_lt lys (by decide), (s6.trans (hd1_same s68)).trans hd1_upd, ys ++ [.ref p2], upd_same, ?_⟩
      rw [List.range_succ, List.map_append, List.map_append]
      have tn : Tk H8 (.ref p2) (natR (c ++ [n - k])) := by
        refine .tup (h8.trans (congrArg some (congrArg HO.tup (?_ : _ = ((c ++ [n - k]).map Int.ofNat).map V.int)))) (TkAll.ints _)
        rw [List.map_append, List.map_append]
        congr 1
        show [V.int ((n : Int) - (0 + (k : Int)))] = [V.int ((n - k : Nat) : Int)]
        congr 2
        omega
      exact ((ty.same (hd1_same s68)).same hd1_upd).append (.cons ((tn.ts (Ts.hdL hD8) (noL_row _)).same hd1_upd) .nil)
    rintro H6 ⟨s6, ys, hD, ty⟩
    rw [en] at ty
    have s56 : Same H5 H6 := fun b o z => hd1_le _ _ (s6 b o z)
    have ty6 := ty.same (hd1_le (p := D) (H := H6))
    have lys : ys.length = n + 1 := by rw [ty.length, List.length_map, List.length_map, List.length_range]
    have lws : ws.length = j * (n + 1) := by rw [tw.length, List.length_map, flat_stepC, List.length_take]; congr 1; omega
    refine ⟨lo', D, ws, ys, rfl, rfl, s56 _ _ hlo', hD, ?_, fun r nr => ?_⟩
    · have := Nat.mul_le_mul_right (n + 1) (show j + 1 ≤ fs.length by omega)
      rw [Nat.succ_mul] at this
      exact Nat.le_trans (show ws.length + ys.length ≤ 2825761 by omega) (by decide)
    have s7 := same_upd (o := (HO.lst (ws ++ ys))) nr
    have h7 : upd H6 r (HO.lst (ws ++ ys)) r = some (HO.lst (ws ++ ys)) := upd_same
    generalize upd H6 r (HO.lst (ws ++ ys)) = H7 at s7 h7 ⊢
    refine ⟨r, _, ws ++ ys, rfl, s5.trans (s56.trans s7), none_same ((s02.trans s24).trans (s5.trans s56)) nr, h7, ?_⟩
    rw [List.take_add_one, hc, List.flatMap_append, List.map_append]
    refine ((tw.same s56).append ?_).same s7
    show TkAll H6 ys (([c].flatMap (stepC n)).map natR)
    rw [List.flatMap_cons, List.flatMap_nil, List.append_nil]
    exact ty6

end
end Gk

set_option Elab.async false
set_option linter.all false
set_option maxRecDepth 100000
set_option maxHeartbeats 1000000
set_option pp.maxSteps 1500
set_option pp.deepTerms false
namespace Gk
open PySem PySem.Spec PyProof.Rows L2
section
variable {P : Program} {w : World} {K : PySem.W.Frag} {mg : Str → Option Value} {base : Heap}
/-! ### one change of one part -/
def Tri.nxt (x : Tri) : Tri := if x.f = 0 then ⟨1, x.l, x.u⟩ else ⟨0, x.l, x.u - 1⟩
theorem Tri.nxt_ok {x : Tri} (h : x.Ok) (n : 1 ≤ x.num) : x.nxt.Ok ∧ x.nxt.num + 1 = x.num ∧ x.nxt.f = 1 - x.f ∧ x.nxt.l = x.l := by
  obtain ⟨f, l, u⟩ := x
  obtain ⟨a, b, c, d⟩ := h
  unfold Tri.num at n
  unfold Tri.nxt Tri.Ok Tri.num
  dsimp only at *
  split <;> dsimp only <;> omega
theorem Tri.nxt_neg {x : Tri} (h : x.Ok) (n : 1 ≤ x.num) : x.neg.nxt = x.nxt.neg := by
  obtain ⟨f, l, u⟩ := x
  obtain ⟨a, b, c, d⟩ := h
  unfold Tri.num at n
  unfold Tri.nxt Tri.neg
  dsimp only at *
  rcases (show f = 0 ∨ f = 1 by omega) with rfl | rfl
  · rw [if_neg (by decide), if_pos rfl]
    exact Tri.mk_eq rfl rfl (by dsimp only; omega)
  · rw [if_pos rfl, if_neg (by decide)]
    exact Tri.mk_eq rfl rfl (by dsimp only; omega)
def jump (a b : Tri) : Nat := if a.f = b.f then 0 else 1
theorem Tri.nxt_le {x R : Tri} (h : x.Ok) (k : R.Ok) (n : 1 ≤ x.num) : (x.nxt.and R).num + jump (x.nxt.and R) (x.and R) ≤ (x.and R).num := by
  obtain ⟨f, l, u⟩ := x
  obtain ⟨f', l', u'⟩ := R
  obtain ⟨a, b, c, d⟩ := h
  obtain ⟨a', b', c', d'⟩ := k
  unfold Tri.num at n
  unfold jump Tri.nxt Tri.and Tri.num
  dsimp only at *
  rcases (show f = 0 ∨ f = 1 by omega) with rfl | rfl
  · rw [if_pos rfl]
    dsimp only
    (repeat' split) <;> omega
  · rw [if_neg (show ¬ (1 : Nat) = 0 by decide)]
    dsimp only
    (repeat' split) <;> omega
theorem Tri.nxt_low {x R : Tri} (h : x.Ok) (k : R.Ok) (n : 1 ≤ x.num) (z : x.f = 0) : (x.nxt.and R).num + jump (x.nxt.and R) (x.and R) = (x.and R).num := by
  obtain ⟨f, l, u⟩ := x
  obtain ⟨f', l', u'⟩ := R
  obtain ⟨a, b, c, d⟩ := h
  obtain ⟨a', b', c', d'⟩ := k
  unfold Tri.num at n
  unfold jump Tri.nxt Tri.and Tri.num
  dsimp only at *
  subst z
  rw [if_pos rfl]
  dsimp only
  (repeat' split) <;> omega
theorem Tri.nxt_high {x R : Tri} (h : x.Ok) (k : R.Ok) (n : 1 ≤ x.num) (z : x.f = 1) (y : R.f = 1) (w : 2 ≤ x.u ∨ R.u = 1) : (x.nxt.and R).num + jump (x.nxt.and R) (x.and R) = (x.and R).num := by
  obtain ⟨f, l, u⟩ := x
  obtain ⟨f', l', u'⟩ := R
  obtain ⟨a, b, c, d⟩ := h
  obtain ⟨a', b', c', d'⟩ := k
  unfold Tri.num at n
  unfold jump Tri.nxt Tri.and Tri.num
  dsimp only at *
  subst z y
  rw [if_neg (show ¬ (1 : Nat) = 0 by decide)]
  dsimp only
  (repeat' split) <;> omega
theorem Tri.all_split : ∀ {A B : List Tri} {x : Tri}, (∀ t ∈ A, t.Ok) → x.Ok → Tri.all (A ++ x :: B) = x.and (Tri.all (A ++ B))
  | [], _, _, _, _ => rfl
  | a :: A, B, x, h, k => by
    show a.and (Tri.all (A ++ x :: B)) = x.and (a.and (Tri.all (A ++ B)))
    rw [Tri.all_split (fun t ht => h t (List.mem_cons_of_mem _ ht)) k, ← Tri.and_assoc, ← Tri.and_assoc, Tri.and_comm (h a List.mem_cons_self) k]
theorem Tri.all_ones : ∀ {ts : List Tri}, (∀ t ∈ ts, t.u = 1) → (Tri.all ts).u = 1
  | [], _ => rfl
  | t :: r, h => by
    have a := h t List.mem_cons_self
    have b := Tri.all_ones (ts := r) fun s hs => h s (List.mem_cons_of_mem _ hs)
    show (if t.u = 0 then 0 else if (Tri.all r).u = 0 then 0 else t.u + (Tri.all r).u - 1) = 1
    rw [a, b]
    rfl
theorem Tri.all_f1 {ts : List Tri} (ok : ∀ t ∈ ts, t.Ok) (h : ∀ t ∈ ts, t.f = 1) : (Tri.all ts).f = 1 := by
  have o := (Tri.all_ok ok).1
  have n : ¬ (Tri.all ts).f = 0 := fun z => by
    obtain ⟨t, ht, e⟩ := (Tri.all_f0 ts).mp z
    rw [h t ht] at e
    cases e
  omega
theorem ok_sub {A B : List Tri} {x : Tri} (h : ∀ t ∈ A ++ x :: B, t.Ok) : (∀ t ∈ A, t.Ok) ∧ x.Ok ∧ ∀ t ∈ A ++ B, t.Ok := ⟨fun t ht => h t (List.mem_append_left _ ht), h x (List.mem_append_right _ List.mem_cons_self), fun t ht => (List.mem_append.mp ht).elim (fun z => h t (List.mem_append_left _ z)) fun z => h t (List.mem_append_right _ (List.mem_cons_of_mem _ z))⟩
theorem Tri.step_le {A B : List Tri} {x : Tri} (h : ∀ t ∈ A ++ x :: B, t.Ok) (n : 1 ≤ x.num) : (Tri.all (A ++ x.nxt :: B)).num + jump (Tri.all (A ++ x.nxt :: B)) (Tri.all (A ++ x :: B)) ≤ (Tri.all (A ++ x :: B)).num := by
  obtain ⟨a, b, c⟩ := ok_sub h
  rw [Tri.all_split a b, Tri.all_split a (Tri.nxt_ok b n).1]
  exact Tri.nxt_le b (Tri.all_ok c) n
theorem Tri.step_eq {ts : List Tri} (h : ∀ t ∈ ts, t.Ok) : (Tri.all ts).num = 0 ∨ ∃ A x B, ts = A ++ x :: B ∧ 1 ≤ x.num ∧ (Tri.all (A ++ x.nxt :: B)).num + jump (Tri.all (A ++ x.nxt :: B)) (Tri.all ts) = (Tri.all ts).num := by
  by_cases c1 : ∃ x ∈ ts, 1 ≤ x.num ∧ x.f = 0
  · obtain ⟨x, hx, n, z⟩ := c1
    obtain ⟨A, B, rfl⟩ := List.append_of_mem hx
    obtain ⟨a, b, c⟩ := ok_sub h
    refine .inr ⟨A, x, B, rfl, n, ?_⟩
    rw [Tri.all_split a b, Tri.all_split a (Tri.nxt_ok b n).1]
    exact Tri.nxt_low b (Tri.all_ok c) n z
  by_cases c2 : ∃ x ∈ ts, x.f = 0
  · obtain ⟨x, hx, z⟩ := c2
    left
    have n0 : x.num = 0 := by
      by_cases n : 1 ≤ x.num
      · exact absurd ⟨x, hx, n, z⟩ c1
      · omega
    have ox := h x hx
    have u0 : x.u = 0 := by
      obtain ⟨_, _, p, q⟩ := ox
      unfold Tri.num at n0
      omega
    have := Tri.all_u0 hx u0
    unfold Tri.num
    omega
  have f1 : ∀ t ∈ ts, t.f = 1 := fun t ht => by
    have := (h t ht).1
    by_cases z : t.f = 0
    · exact absurd ⟨t, ht, z⟩ c2
    · omega
  by_cases c3 : ∃ x ∈ ts, 1 ≤ x.num ∧ (2 ≤ x.u ∨ ∀ t ∈ ts, t.u = 1)
  · obtain ⟨x, hx, n, w⟩ := c3
    obtain ⟨A, B, rfl⟩ := List.append_of_mem hx
    obtain ⟨a, b, c⟩ := ok_sub h
    refine .inr ⟨A, x, B, rfl, n, ?_⟩
    rw [Tri.all_split a b, Tri.all_split a (Tri.nxt_ok b n).1]
    have sub : ∀ t ∈ A ++ B, t ∈ A ++ x :: B := fun t ht => (List.mem_append.mp ht).elim (fun z => List.mem_append_left _ z) fun z => List.mem_append_right _ (List.mem_cons_of_mem _ z)
    exact Tri.nxt_high b (Tri.all_ok c) n (f1 x hx) (Tri.all_f1 c fun t ht => f1 t (sub t ht)) (w.imp id fun w => Tri.all_ones fun t ht => w t (sub t ht))
  left
  have u1 : ∀ t ∈ ts, t.u = 1 := fun t ht => by
    obtain ⟨p, q, r, s⟩ := h t ht
    have z := f1 t ht
    by_cases n : 2 ≤ t.u
    · exact absurd ⟨t, ht, by unfold Tri.num; omega, .inl n⟩ c3
    · omega
  have n0 : ∀ t ∈ ts, t.l = 1 := fun t ht => by
    obtain ⟨p, q, r, s⟩ := h t ht
    have z := f1 t ht
    have y := u1 t ht
    by_cases n : 1 ≤ t.num
    · exact absurd ⟨t, ht, n, .inr u1⟩ c3
    · unfold Tri.num at n
      omega
  have l1 : (Tri.all ts).l = 1 := by
    have o := (Tri.all_ok h).2.1
    have nz : ¬ (Tri.all ts).l = 0 := fun z => by
      obtain ⟨t, ht, e⟩ := (Tri.all_l0 ts).mp z
      rw [n0 t ht] at e
      cases e
    omega
  have e1 := Tri.all_ones u1
  have e2 := Tri.all_f1 h f1
  unfold Tri.num
  rw [e1, e2, l1]
theorem jump_neg {a b : Tri} (h : a.Ok) (k : b.Ok) : jump a.neg b.neg = jump a b := by
  have := h.1
  have := k.1
  unfold jump Tri.neg
  dsimp only
  split <;> split <;> omega
theorem Tri.op_neg_num {ts : List Tri} (h : ∀ t ∈ ts, t.Ok) : (Tri.op false ts).num = (Tri.all (ts.map Tri.neg)).num := Tri.num_neg (Tri.all_ok (Tri.map_ok h))
theorem nxt_oks {A B : List Tri} {x : Tri} (h : ∀ t ∈ A ++ x :: B, t.Ok) (n : 1 ≤ x.num) : ∀ t ∈ A ++ x.nxt :: B, t.Ok := fun t ht => by
  obtain ⟨a, b, c⟩ := ok_sub h
  rcases List.mem_append.mp ht with z | z
  · exact a t z
  · rcases List.mem_cons.mp z with z | z
    · rw [z]; exact (Tri.nxt_ok b n).1
    · exact c t (List.mem_append_right _ z)
theorem Tri.op_le {c : Bool} {A B : List Tri} {x : Tri} (h : ∀ t ∈ A ++ x :: B, t.Ok) (n : 1 ≤ x.num) : (Tri.op c (A ++ x.nxt :: B)).num + jump (Tri.op c (A ++ x.nxt :: B)) (Tri.op c (A ++ x :: B)) ≤ (Tri.op c (A ++ x :: B)).num := by
  cases c
  · have h' := nxt_oks h n
    have b := (ok_sub h).2.1
    have m : ∀ t ∈ A.map Tri.neg ++ x.neg :: B.map Tri.neg, t.Ok := by
      have := Tri.map_ok h
      rw [List.map_append, List.map_cons] at this
      exact this
    have nn : 1 ≤ x.neg.num := by rw [Tri.num_neg b]; exact n
    have k := Tri.step_le m nn
    rw [Tri.nxt_neg b n] at k
    have e1 : Tri.all (A.map Tri.neg ++ x.nxt.neg :: B.map Tri.neg) = Tri.all ((A ++ x.nxt :: B).map Tri.neg) := by rw [List.map_append, List.map_cons]
    have e2 : Tri.all (A.map Tri.neg ++ x.neg :: B.map Tri.neg) = Tri.all ((A ++ x :: B).map Tri.neg) := by rw [List.map_append, List.map_cons]
    rw [e1, e2] at k
    have j : jump (Tri.op false (A ++ x.nxt :: B)) (Tri.op false (A ++ x :: B)) = jump (Tri.all ((A ++ x.nxt :: B).map Tri.neg)) (Tri.all ((A ++ x :: B).map Tri.neg)) := jump_neg (Tri.all_ok (Tri.map_ok h')) (Tri.all_ok (Tri.map_ok h))
    rw [j, Tri.op_neg_num h', Tri.op_neg_num h]
    exact k
  · exact Tri.step_le h n
theorem Tri.op_eq {c : Bool} {ts : List Tri} (h : ∀ t ∈ ts, t.Ok) : (Tri.op c ts).num = 0 ∨ ∃ A x B, ts = A ++ x :: B ∧ 1 ≤ x.num ∧ (Tri.op c (A ++ x.nxt :: B)).num + jump (Tri.op c (A ++ x.nxt :: B)) (Tri.op c ts) = (Tri.op c ts).num := by
  cases c
  · rcases Tri.step_eq (Tri.map_ok h) with z | ⟨A', y, B', e, n, k⟩
    · left
      rw [Tri.op_neg_num h]
      exact z
    · obtain ⟨A, R, rfl, rfl, eR⟩ := List.map_eq_append_iff.mp e
      obtain ⟨x, B, rfl, rfl, rfl⟩ := List.map_eq_cons_iff.mp eR
      have b := (ok_sub h).2.1
      have n' : 1 ≤ x.num := by rw [Tri.num_neg b] at n; exact n
      have h' := nxt_oks h n'
      refine .inr ⟨A, x, B, rfl, n', ?_⟩
      rw [Tri.nxt_neg b n'] at k
      have e1 : Tri.all (A.map Tri.neg ++ x.nxt.neg :: B.map Tri.neg) = Tri.all ((A ++ x.nxt :: B).map Tri.neg) := by rw [List.map_append, List.map_cons]
      rw [e1] at k
      have j : jump (Tri.op false (A ++ x.nxt :: B)) (Tri.op false (A ++ x :: B)) = jump (Tri.all ((A ++ x.nxt :: B).map Tri.neg)) (Tri.all ((A ++ x :: B).map Tri.neg)) := jump_neg (Tri.all_ok (Tri.map_ok h')) (Tri.all_ok (Tri.map_ok h))
      rw [j, Tri.op_neg_num h', Tri.op_neg_num h]
      exact k
  · exact Tri.step_eq h

end
end Gk

set_option Elab.async false
set_option linter.all false
set_option maxRecDepth 100000
set_option maxHeartbeats 1000000
set_option pp.maxSteps 1500
set_option pp.deepTerms false
namespace Gk
open PySem PySem.Spec PyProof.Rows L2
section
variable {P : Program} {w : World} {K : PySem.W.Frag} {mg : Str → Option Value} {base : Heap}
/-! ### the order of the counts -/
def inc1 (c : List Nat) (k : Nat) : List Nat := c.take k ++ [c.getD k 0 + 1] ++ c.drop (k + 1)
theorem flat_split {α β : Type} {f : α → List β} : ∀ {F : List α} {A : List β} {c : β} {B : List β}, F.flatMap f = A ++ c :: B → ∃ A1 one B1 A2 B2, F = A1 ++ one :: B1 ∧ f one = A2 ++ c :: B2 ∧ A = A1.flatMap f ++ A2
  | [], A, c, B, h => by
    rw [List.flatMap_nil] at h
    cases A <;> cases h
  | x :: r, A, c, B, h => by
    rw [List.flatMap_cons] at h
    rcases List.append_eq_append_iff.mp h with ⟨X, e1, e2⟩ | ⟨X, e1, e2⟩
    · obtain ⟨A1, one, B1, A2, B2, h1, h2, h3⟩ := flat_split e2
      exact ⟨x :: A1, one, B1, A2, B2, by rw [h1]; rfl, h2, by rw [e1, h3, List.flatMap_cons, List.append_assoc]⟩
    · cases X with
      | nil =>
        rw [List.append_nil] at e1
        rw [List.nil_append] at e2
        obtain ⟨A1, one, B1, A2, B2, h1, h2, h3⟩ := flat_split (A := []) (c := c) (B := B) e2.symm
        exact ⟨x :: A1, one, B1, A2, B2, by rw [h1]; rfl, h2, by rw [List.flatMap_cons, List.append_assoc, ← h3, List.append_nil, e1]⟩
      | cons y Y =>
        rw [List.cons_append] at e2
        obtain ⟨rfl, _⟩ := List.cons.inj e2
        exact ⟨[], x, r, A, Y, rfl, e1, by rw [List.flatMap_nil, List.nil_append]⟩
theorem counts_le {ns : List Nat} : ∀ {j : Nat}, j ≤ ns.length → ∀ c ∈ countsM (ns.take j), ∀ k, k < j → c.getD k 0 ≤ ns.getD k 0
  | 0, _, _, _, k, hk => by omega
  | j + 1, hj, c, hc, k, hk => by
    obtain ⟨n, hn⟩ : ∃ n, ns[j]? = some n := ⟨_, List.getElem?_eq_getElem (by omega)⟩
    rw [countsM_take hn] at hc
    obtain ⟨one, ho, hm⟩ := List.mem_flatMap.mp hc
    unfold stepC at hm
    obtain ⟨i, _, rfl⟩ := List.mem_map.mp hm
    have l1 := countsM_mem_len (by omega) one ho
    by_cases z : k < j
    · rw [List.getD_eq_getElem?_getD, List.getElem?_append_left (by omega), ← List.getD_eq_getElem?_getD]
      exact counts_le (by omega) one ho k z
    · have : k = j := by omega
      subst this
      rw [List.getD_eq_getElem?_getD, List.getElem?_append_right (by omega), l1, Nat.sub_self, List.getD_eq_getElem?_getD, hn]
      show n - i ≤ n
      omega
theorem range_split {n : Nat} {A : List Nat} {x : Nat} {B : List Nat} (h : List.range n = A ++ x :: B) : x = A.length ∧ x < n ∧ ∀ y, y < x → y ∈ A := by
  have hx : (List.range n)[A.length]? = some x := by rw [h, List.getElem?_append_right (Nat.le_refl _), Nat.sub_self]; rfl
  have hl : A.length < n := by
    have := congrArg List.length h
    rw [List.length_range, List.length_append, List.length_cons] at this
    omega
  rw [List.getElem?_range hl] at hx
  have e := Option.some.inj hx
  subst e
  refine ⟨rfl, hl, fun y hy => ?_⟩
  have hy' : (List.range n)[y]? = some y := List.getElem?_range (by omega)
  rw [h, List.getElem?_append_left hy] at hy'
  exact List.mem_of_getElem? hy'
theorem counts_before {ns : List Nat} : ∀ {j : Nat}, j ≤ ns.length → ∀ {A : List (List Nat)} {c : List Nat} {B : List (List Nat)}, countsM (ns.take j) = A ++ c :: B → ∀ k, k < j → c.getD k 0 < ns.getD k 0 → inc1 c k ∈ A
  | 0, _, _, _, _, _, k, hk, _ => by omega
  | j + 1, hj, A, c, B, h, k, hk, lt => by
    obtain ⟨n, hn⟩ : ∃ n, ns[j]? = some n := ⟨_, List.getElem?_eq_getElem (by omega)⟩
    rw [countsM_take hn] at h
    obtain ⟨A1, one, B1, A2, B2, h1, h2, rfl⟩ := flat_split h
    have l1 : one.length = j := countsM_mem_len (ns := ns) (j := j) (by omega) one (by rw [h1]; exact List.mem_append_right _ List.mem_cons_self)
    unfold stepC at h2
    obtain ⟨R1, R2, e1, rfl, e2⟩ := List.map_eq_append_iff.mp h2
    obtain ⟨i, R3, rfl, rfl, rfl⟩ := List.map_eq_cons_iff.mp e2
    obtain ⟨_, hi, all⟩ := range_split e1
    by_cases z : k < j
    · have ec : (one ++ [n - i]).getD k 0 = one.getD k 0 := by rw [List.getD_eq_getElem?_getD, List.getElem?_append_left (show k < one.length by omega), ← List.getD_eq_getElem?_getD]
      rw [ec] at lt
      have m1 := counts_before (by omega) h1 k z lt
      refine List.mem_append_left _ (List.mem_flatMap.mpr ⟨_, m1, ?_⟩)
      unfold stepC
      refine List.mem_map.mpr ⟨i, List.mem_range.mpr hi, ?_⟩
      unfold inc1
      rw [ec, List.take_append_of_le_length (by omega), List.drop_append_of_le_length (by omega), List.append_assoc, List.append_assoc]
    · have ek : k = j := by omega
      subst ek
      have ec : (one ++ [n - i]).getD k 0 = n - i := by rw [List.getD_eq_getElem?_getD, List.getElem?_append_right (by omega), l1, Nat.sub_self]; rfl
      have en : ns.getD k 0 = n := by rw [List.getD_eq_getElem?_getD, hn]; rfl
      rw [ec, en] at lt
      refine List.mem_append_right _ (List.mem_map.mpr ⟨i - 1, all _ (by omega), ?_⟩)
      unfold inc1
      rw [ec, List.take_append_of_le_length (by omega), List.take_of_length_le (by omega), List.drop_of_length_le (by rw [List.length_append, l1]; show k + 1 ≤ k + 1; omega), List.append_nil]
      congr 2
      omega
theorem zeros_in {ns : List Nat} : ∀ {j : Nat}, j ≤ ns.length → List.replicate j 0 ∈ countsM (ns.take j)
  | 0, _ => by rw [List.take_zero]; exact List.mem_singleton.mpr rfl
  | j + 1, hj => by
    obtain ⟨n, hn⟩ : ∃ n, ns[j]? = some n := ⟨_, List.getElem?_eq_getElem (by omega)⟩
    rw [countsM_take hn]
    refine List.mem_flatMap.mpr ⟨_, zeros_in (by omega), ?_⟩
    unfold stepC
    refine List.mem_map.mpr ⟨n, List.mem_range.mpr (by omega), ?_⟩
    rw [Nat.sub_self, List.replicate_succ']

end
end Gk

set_option Elab.async false
set_option linter.all false
set_option maxRecDepth 100000
set_option maxHeartbeats 1000000
set_option pp.maxSteps 1500
set_option pp.deepTerms false
namespace Gk
open PySem PySem.Spec PyProof.Rows L2
section
variable {P : Program} {w : World} {K : PySem.W.Frag} {mg : Str → Option Value} {base : Heap}
/-! ### the parts by counts of their changes -/
def Tri.aft (t : Tri) : Nat → Tri
  | 0 => t
  | n + 1 => (t.aft n).nxt
theorem Tri.aft_ok {t : Tri} (h : t.Ok) : ∀ {n : Nat}, n ≤ t.num → (t.aft n).Ok ∧ (t.aft n).num + n = t.num ∧ (t.aft n).f = (t.f + n) % 2
  | 0, _ => ⟨h, rfl, by
    have := h.1
    show t.f = (t.f + 0) % 2
    omega⟩
  | n + 1, hn => by
    obtain ⟨a, b, c⟩ := Tri.aft_ok h (n := n) (by omega)
    obtain ⟨d, e, f, _⟩ := Tri.nxt_ok a (by omega)
    refine ⟨d, ?_, ?_⟩
    · show (t.aft n).nxt.num + (n + 1) = t.num
      omega
    · show (t.aft n).nxt.f = (t.f + (n + 1)) % 2
      rw [f, c]
      omega
def asM (ts : List Tri) (c : List Nat) : List Tri := List.zipWith Tri.aft ts c
def Val (ts : List Tri) (c : List Nat) : Prop := c.length = ts.length ∧ ∀ (k : Nat) (t : Tri), ts[k]? = some t → c.getD k 0 ≤ t.num
theorem Val.oks {ts : List Tri} {c : List Nat} (h : Val ts c) (ok : ∀ t ∈ ts, t.Ok) : ∀ t ∈ asM ts c, t.Ok := fun t ht => by
  obtain ⟨k, hk⟩ := List.getElem?_of_mem ht
  unfold asM at hk
  rw [List.getElem?_zipWith] at hk
  cases e1 : ts[k]? with
  | none => rw [e1] at hk; cases hk
  | some u =>
    cases e2 : c[k]? with
    | none => rw [e1, e2] at hk; cases hk
    | some n =>
      rw [e1, e2] at hk
      have hk := Option.some.inj hk
      rw [← hk]
      refine (Tri.aft_ok (ok u (List.mem_of_getElem? e1)) ?_).1
      have := h.2 k u e1
      rw [List.getD_eq_getElem?_getD, e2] at this
      exact this
theorem split_at {α : Type} {l : List α} {k : Nat} {x : α} (h : l[k]? = some x) : l = l.take k ++ x :: l.drop (k + 1) := by
  obtain ⟨hl, e⟩ := List.getElem?_eq_some_iff.mp h
  rw [← e, List.getElem_cons_drop, List.take_append_drop]
/-- where one part stands, ahead of its next change and behind it -/
theorem as_split {ts : List Tri} {c : List Nat} {k : Nat} {t : Tri} (h : Val ts c) (ht : ts[k]? = some t) : ∃ A B, A.length = k ∧ asM ts c = A ++ t.aft (c.getD k 0) :: B ∧ asM ts (inc1 c k) = A ++ t.aft (c.getD k 0 + 1) :: B := by
  have hk := (List.getElem?_eq_some_iff.mp ht).1
  have hc : c[k]? = some (c.getD k 0) := by
    rw [List.getD_eq_getElem?_getD, List.getElem?_eq_getElem (by rw [h.1]; exact hk)]
    rfl
  have e1 := split_at ht
  have e2 := split_at hc
  have l1 : (ts.take k).length = (c.take k).length := by rw [List.length_take, List.length_take, h.1]
  refine ⟨List.zipWith Tri.aft (ts.take k) (c.take k), List.zipWith Tri.aft (ts.drop (k + 1)) (c.drop (k + 1)), ?_, ?_, ?_⟩
  · rw [List.length_zipWith, List.length_take, List.length_take, h.1]
    omega
  · unfold asM
    conv => lhs; rw [e1, e2]
    rw [List.zipWith_append l1]
    rfl
  · unfold asM inc1
    conv => lhs; rw [e1]
    rw [List.append_assoc, List.zipWith_append l1]
    rfl
theorem as_inv {ts : List Tri} {c : List Nat} {A B : List Tri} {x : Tri} (h : Val ts c) (e : asM ts c = A ++ x :: B) : ∃ t, ts[A.length]? = some t ∧ x = t.aft (c.getD A.length 0) ∧ asM ts (inc1 c A.length) = A ++ t.aft (c.getD A.length 0 + 1) :: B := by
  have hx : (asM ts c)[A.length]? = some x := by rw [e, List.getElem?_append_right (Nat.le_refl _), Nat.sub_self]; rfl
  have hl : A.length < ts.length := by
    have := congrArg List.length e
    unfold asM at this
    rw [List.length_zipWith, h.1, Nat.min_self, List.length_append, List.length_cons] at this
    omega
  obtain ⟨t, ht⟩ : ∃ t, ts[A.length]? = some t := ⟨_, List.getElem?_eq_getElem hl⟩
  obtain ⟨A', B', l', e1, e2⟩ := as_split h ht
  rw [e] at e1
  obtain ⟨rfl, e3⟩ := List.append_inj e1 l'.symm
  obtain ⟨rfl, rfl⟩ := List.cons.inj e3
  exact ⟨t, ht, rfl, e2⟩
def Gv (C : Bool) (ts : List Tri) (c : List Nat) : Nat := (Tri.op C (asM ts c)).num
def Hv (C : Bool) (ts : List Tri) (c : List Nat) : Nat := (Tri.op C (asM ts c)).f
theorem Gv_le {C : Bool} {ts : List Tri} {c : List Nat} (ok : ∀ t ∈ ts, t.Ok) (h : Val ts c) {k : Nat} {t : Tri} (ht : ts[k]? = some t) (lt : c.getD k 0 < t.num) : Gv C ts (inc1 c k) + (if Hv C ts (inc1 c k) = Hv C ts c then 0 else 1) ≤ Gv C ts c := by
  obtain ⟨A, B, _, e1, e2⟩ := as_split h ht
  have oks := h.oks ok
  obtain ⟨a, b, _⟩ := Tri.aft_ok (ok t (List.mem_of_getElem? ht)) (n := c.getD k 0) (by omega)
  unfold Gv Hv
  rw [e1] at oks
  rw [e1, e2]
  exact Tri.op_le oks (by omega)
theorem Gv_eq {C : Bool} {ts : List Tri} {c : List Nat} (ok : ∀ t ∈ ts, t.Ok) (h : Val ts c) : Gv C ts c = 0 ∨ ∃ (k : Nat) (t : Tri), ts[k]? = some t ∧ c.getD k 0 < t.num ∧ Gv C ts (inc1 c k) + (if Hv C ts (inc1 c k) = Hv C ts c then 0 else 1) = Gv C ts c := by
  rcases Tri.op_eq (c := C) (h.oks ok) with z | ⟨A, x, B, e, n, k⟩
  · exact .inl z
  · obtain ⟨t, ht, rfl, e2⟩ := as_inv h e
    have bound := h.2 _ t ht
    obtain ⟨a, b, _⟩ := Tri.aft_ok (ok t (List.mem_of_getElem? ht)) bound
    refine .inr ⟨A.length, t, ht, by omega, ?_⟩
    unfold Gv Hv
    rw [e2]
    exact k
theorem asM_zero (ts : List Tri) : asM ts (List.replicate ts.length 0) = ts := by
  unfold asM
  induction ts with
  | nil => rfl
  | cons t r ih =>
    rw [List.length_cons, List.replicate_succ, List.zipWith_cons_cons, ih]
    rfl
theorem counts_val {ts : List Tri} {c : List Nat} (h : c ∈ countsM (ts.map Tri.num)) : Val ts c := by
  have e : ts.map Tri.num = (ts.map Tri.num).take (ts.map Tri.num).length := (List.take_length).symm
  rw [e] at h
  refine ⟨by rw [countsM_mem_len (Nat.le_refl _) c h, List.length_map], fun k t ht => ?_⟩
  have hk := (List.getElem?_eq_some_iff.mp ht).1
  have := counts_le (Nat.le_refl _) c h k (by rw [List.length_map]; exact hk)
  rw [List.getD_eq_getElem?_getD (l := ts.map Tri.num), List.getElem?_map, ht] at this
  exact this
theorem counts_inc {ts : List Tri} {A : List (List Nat)} {c : List Nat} {B : List (List Nat)} (h : countsM (ts.map Tri.num) = A ++ c :: B) {k : Nat} {t : Tri} (ht : ts[k]? = some t) : (c.getD k 0 < t.num → inc1 c k ∈ A) ∧ (¬ c.getD k 0 < t.num → inc1 c k ∉ countsM (ts.map Tri.num)) := by
  have hk := (List.getElem?_eq_some_iff.mp ht).1
  have vc : Val ts c := counts_val (by rw [h]; exact List.mem_append_right _ List.mem_cons_self)
  refine ⟨fun lt => ?_, fun ge m => ?_⟩
  · have e : ts.map Tri.num = (ts.map Tri.num).take (ts.map Tri.num).length := (List.take_length).symm
    rw [e] at h
    refine counts_before (Nat.le_refl _) h k (by rw [List.length_map]; exact hk) ?_
    rw [List.getD_eq_getElem?_getD (l := ts.map Tri.num), List.getElem?_map, ht]
    exact lt
  · have b := (counts_val m).2 k t ht
    have lt : (c.take k).length = k := by rw [List.length_take, vc.1]; omega
    have e : (inc1 c k).getD k 0 = c.getD k 0 + 1 := by
      unfold inc1
      rw [List.append_assoc, List.getD_eq_getElem?_getD, List.getElem?_append_right (by omega), lt, Nat.sub_self]
      rfl
    rw [e] at b
    omega
theorem zeros_counts (ts : List Tri) : List.replicate ts.length 0 ∈ countsM (ts.map Tri.num) := by
  have e : ts.map Tri.num = (ts.map Tri.num).take (ts.map Tri.num).length := (List.take_length).symm
  rw [e]
  have := zeros_in (ns := ts.map Tri.num) (Nat.le_refl _)
  rw [List.length_map] at this
  rw [List.length_map]
  exact this
theorem all_f (ts : List Tri) (ok : ∀ t ∈ ts, t.Ok) : (Tri.all ts).f = if 0 ∈ ts.map Tri.f then 0 else 1 := by
  have o := (Tri.all_ok ok).1
  have z := Tri.all_f0 ts
  by_cases h : 0 ∈ ts.map Tri.f
  · rw [if_pos h]
    obtain ⟨t, ht, e⟩ := List.mem_map.mp h
    exact z.mpr ⟨t, ht, e⟩
  · rw [if_neg h]
    have : ¬ (Tri.all ts).f = 0 := fun y => by
      obtain ⟨t, ht, e⟩ := z.mp y
      exact h (List.mem_map.mpr ⟨t, ht, e⟩)
    omega
theorem op_f (C : Bool) (ts : List Tri) (ok : ∀ t ∈ ts, t.Ok) : (Tri.op C ts).f = if C = true then (if 0 ∈ ts.map Tri.f then 0 else 1) else (if 1 ∈ ts.map Tri.f then 1 else 0) := by
  cases C
  · rw [if_neg (by decide)]
    show 1 - (Tri.all (ts.map Tri.neg)).f = _
    rw [all_f _ (Tri.map_ok ok)]
    have e : 0 ∈ (ts.map Tri.neg).map Tri.f ↔ 1 ∈ ts.map Tri.f := by
      rw [List.map_map, List.mem_map, List.mem_map]
      constructor
      · rintro ⟨t, ht, e⟩
        have e : 1 - t.f = 0 := e
        have := (ok t ht).1
        exact ⟨t, ht, by omega⟩
      · rintro ⟨t, ht, e⟩
        exact ⟨t, ht, by show 1 - t.f = 0; omega⟩
    by_cases h : 1 ∈ ts.map Tri.f
    · rw [if_pos h, if_pos (e.mpr h)]
    · rw [if_neg h, if_neg (fun z => h (e.mp z))]
  · rw [if_pos rfl]
    exact all_f ts ok

end
end Gk

set_option Elab.async false
set_option linter.all false
set_option maxRecDepth 100000
set_option maxHeartbeats 1000000
set_option pp.maxSteps 1500
set_option pp.deepTerms false
namespace Gk
open PySem PySem.Spec PyProof.Rows L2
/-! ### zip of two or three texts, tuples, lists -/
namespace ZpG
open PySem PySem.Spec PyProof.Rows L2
inductive ZS where
  | tx (x : PySem.Str)
  | tu (a : Addr)
  | li (a : Addr)
def ZS.val : ZS → V
  | .tx x => .str x
  | .tu a => .ref a
  | .li a => .ref a
def ZS.at (K : PySem.W.Frag) : ZS → Hp → List V → Prop
  | .tx x, _, xs => xs = x.cps.toList.map fun c => V.str ⟨#[c]⟩
  | .tu a, H, xs => SqT K H a xs
  | .li a, H, xs => SqL K H a xs
def ZS.it : ZS → Addr → Nat → Heap → Prop
  | .tx x, it, i, h => ∃ t, h.IsStrIter it (strIterType x) x t i
  | .tu a, it, i, h => h.IsTupleIter it a i
  | .li a, it, i, h => h.IsListIter it a i
def ZS.lt : ZS → Nat → Prop
  | .tx _, _ => True
  | .tu a, n => a < n
  | .li a, n => a < n
def ZS.off : ZS → Addr → Prop
  | .tx _, _ => True
  | .tu a, c => a ≠ c
  | .li a, c => a ≠ c
theorem ne' {a b : Nat} (h : a ≠ b) : @Ne Addr a b := h
theorem ZS.off_of {n c : Nat} (hc : n ≤ c) : ∀ {z : ZS}, z.lt n → z.off c
  | .tx _, _ => trivial
  | .tu _, h => Nat.ne_of_lt (Nat.lt_of_lt_of_le h hc)
  | .li _, h => Nat.ne_of_lt (Nat.lt_of_lt_of_le h hc)
theorem ZS.obj {it : Addr} {i : Nat} {h : Heap} : ∀ {z : ZS}, z.it it i h → ∃ o, h.get? it = some o ∧ ∀ v, o.data ≠ .cell v
  | .tx _, ⟨_, o, e, _, d⟩ => ⟨o, e, fun v q => by rw [d] at q; cases q⟩
  | .tu _, ⟨o, e, _, d⟩ => ⟨o, e, fun v q => by rw [d] at q; cases q⟩
  | .li _, ⟨o, e, _, d⟩ => ⟨o, e, fun v q => by rw [d] at q; cases q⟩
theorem ZS.move {it : Addr} {i : Nat} {h h' : Heap} (k : ∀ o, h.get? it = some o → h'.get? it = some o) : ∀ {z : ZS}, z.it it i h → z.it it i h'
  | .tx _, ⟨t, o, e, r⟩ => ⟨t, o, k o e, r⟩
  | .tu _, ⟨o, e, r⟩ => ⟨o, k o e, r⟩
  | .li _, ⟨o, e, r⟩ => ⟨o, k o e, r⟩
section
variable {X : Cx} {pins : List (Addr × Obj)} {σ : L2.St} {H : Hp} {s : Shared}
theorem ZS.inj (I : Inv X pins σ H s) {z : ZS} {xs ys : List V} (h1 : z.at X.K H xs) (h2 : z.at X.K H ys) : xs = ys := by
  cases z with
  | tx x =>
    have e1 : xs = _ := h1
    have e2 : ys = _ := h2
    rw [e1, e2]
  | tu a => exact I.tuple_inj h1 h2
  | li a => exact I.list_inj h1 h2
theorem ZS.draws {A : Around} {it : Addr} {i : Nat} {xs : List V} (z : ZS) (I : Inv X pins σ H s) (hq : z.at X.K H xs) (hh : A.handled = none) (off : z.off it) (st : z.it it i s.heap) :
    ∃ (fp : List Addr) (P : Nat → Value → Prop) (St : Nat → Heap → Prop), Draws X.prog X.w A it fp xs.length P St ∧ it ∈ fp ∧ (∀ c, c ∈ fp → c = it ∨ ¬ z.off c) ∧ St i s.heap ∧ (∀ j h, St j h → z.it it j h) ∧ ∀ j v, P j v → ∃ x, xs[j]? = some x ∧ RelV x v := by
  cases z with
  | tx x =>
    obtain ⟨t, st⟩ := st
    have e : xs = x.cps.toList.map fun c => V.str ⟨#[c]⟩ := hq
    have el : xs.length = x.cps.size := by rw [e, List.length_map, Array.length_toList]
    refine ⟨[it], fun i v => ∃ c u, x.cps[i]? = some c ∧ v = .str ⟨#[c]⟩ u, fun i h => h.IsStrIter it (strIterType x) x t i, ?_, List.mem_cons_self, fun c hc => .inl (List.mem_singleton.mp hc), st, fun j h q => ⟨t, q⟩, fun j v p => ?_⟩
    · rw [el]
      exact Draws.text hh it x t
    · obtain ⟨c, u, hc, rfl⟩ := p
      refine ⟨.str ⟨#[c]⟩, ?_, ⟨u, rfl⟩⟩
      rw [e, List.getElem?_map, Array.getElem?_toList, hc]
      rfl
  | tu a =>
    obtain ⟨its, rv, p, _⟩ := I.tuple hq
    have hl := rv.length
    refine ⟨[it, a], fun i v => its.toArray[i]? = some v, fun i h => h.IsTupleIter it a i ∧ h.IsTuple a its.toArray, ?_, List.mem_cons_self, fun c hc => ?_, ⟨st, p⟩, fun j h q => q.1, fun j v q => ?_⟩
    · rw [hl, ← List.size_toArray]
      exact Draws.tuple hh it a off its.toArray
    · rcases List.mem_cons.mp hc with e | e
      · exact .inl e
      · refine .inr fun q => ?_
        rw [List.mem_singleton.mp e] at q
        exact q rfl
    · have q : its[j]? = some v := by simpa using q
      have hj := (List.getElem?_eq_some_iff.mp q).1
      have hx : xs[j]? = some (xs[j]'(by omega)) := List.getElem?_eq_getElem _
      obtain ⟨u, hu, ru⟩ := rv.get hx
      rw [q] at hu
      cases Option.some.inj hu
      exact ⟨_, hx, ru⟩
  | li a =>
    obtain ⟨its, rv, p, _⟩ := I.list hq
    have hl := rv.length
    refine ⟨[it, a], fun i v => its.toArray[i]? = some v, fun i h => h.IsListIter it a i ∧ h.IsList a its.toArray, ?_, List.mem_cons_self, fun c hc => ?_, ⟨st, p.isList⟩, fun j h q => q.1, fun j v q => ?_⟩
    · rw [hl, ← List.size_toArray]
      exact Draws.list hh it a off its.toArray
    · rcases List.mem_cons.mp hc with e | e
      · exact .inl e
      · refine .inr fun q => ?_
        rw [List.mem_singleton.mp e] at q
        exact q rfl
    · have q : its[j]? = some v := by simpa using q
      have hj := (List.getElem?_eq_some_iff.mp q).1
      have hx : xs[j]? = some (xs[j]'(by omega)) := List.getElem?_eq_getElem _
      obtain ⟨u, hu, ru⟩ := rv.get hx
      rw [q] at hu
      cases Option.some.inj hu
      exact ⟨_, hx, ru⟩
theorem ZS.begins {v : Value} {xs : List V} (z : ZS) (I : Inv X pins σ H s) (hq : z.at X.K H xs) (r : RelV z.val v) : ∃ o Hh, Begins v o Hh ∧ Hh s.heap ∧ (∀ it h, h.get? it = some o → z.it it 0 h) ∧ z.lt s.heap.objs.size := by
  cases z with
  | tx x =>
    obtain ⟨t, rfl⟩ := (show ∃ t, v = Value.str x t from r)
    exact ⟨_, _, begins_text x t, trivial, fun it h e => ⟨t, _, e, rfl, rfl⟩, trivial⟩
  | tu a =>
    cases (show v = Value.ref a from r)
    obtain ⟨its, rv, p, _⟩ := I.tuple hq
    obtain ⟨o1, ho1, _⟩ := id p
    exact ⟨_, _, begins_tuple a its.toArray, p, fun it h e => ⟨_, e, rfl, rfl⟩, Heap.lt_size ho1⟩
  | li a =>
    cases (show v = Value.ref a from r)
    obtain ⟨its, rv, p, _⟩ := I.list hq
    exact ⟨_, _, begins_list a its.toArray, p.isList, fun it h e => ⟨_, e, rfl, rfl⟩, p.lt⟩
end
def Itz2 (K : PySem.W.Frag) (z1 z2 : ZS) : It :=
  ⟨fun i H => ∃ (xs1 xs2 : List V) (x1 x2 : V), z1.at K H xs1 ∧ z2.at K H xs2 ∧ xs1[i]? = some x1 ∧ xs2[i]? = some x2,
    fun i H v H' => ∃ T x1 x2, v = .ref T ∧ H T = none ∧ H' = upd H T (.tup [x1, x2]) ∧ (∀ xs, z1.at K H xs → xs[i]? = some x1) ∧ (∀ xs, z2.at K H xs → xs[i]? = some x2),
    fun i H => ∃ xs1 xs2 : List V, z1.at K H xs1 ∧ z2.at K H xs2 ∧ i ≤ xs1.length ∧ i ≤ xs2.length ∧ (i = xs1.length ∨ i = xs2.length)⟩
theorem turn_zip2 {P : Program} {w : World} {K : PySem.W.Frag} {elts : List Expr} {kk : Nat} {tpos : Pos} {z1 z2 : ZS} {n : Nat} (l1 : z1.lt n) (l2 : z2.lt n) :
    Turn P w K (.Tuple elts kk tpos) (Itz2 K z1 z2) [n + 4, n + 2, n + 3, n, n + 1] (n + 4) (fun i h => IsZip h (n + 4) (n + 2) (n + 3) .none ∧ IsTupOf2 h (n + 2) (.ref (n)) (.ref (n + 1)) ∧ (∃ x1 x2, IsTupOf2 h (n + 3) x1 x2) ∧ z1.it (n) i h ∧ z2.it (n + 1) i h) where
  mem := List.mem_cons_self
  obj := fun i h st c hc => by
    obtain ⟨hz, hTI, ⟨x1, x2, hTO⟩, st1, st2⟩ := st
    have e' : c = n + 4 ∨ c = n + 2 ∨ c = n + 3 ∨ c = n ∨ c = n + 1 := by simpa using hc
    rcases e' with q | q | q | q | q
    · rw [q]; exact ⟨_, hz, fun v q => nomatch q⟩
    · rw [q]; exact ⟨_, hTI, fun v q => nomatch q⟩
    · rw [q]; exact ⟨_, hTO, fun v q => nomatch q⟩
    · rw [q]; exact ZS.obj (z := z1) st1
    · rw [q]; exact ZS.obj (z := z2) st2
  keep := fun i h h' st k => by
    obtain ⟨hz, hTI, ⟨x1, x2, hTO⟩, st1, st2⟩ := st
    exact ⟨k _ (by simp) _ hz, k _ (by simp) _ hTI, ⟨x1, x2, k _ (by simp) _ hTO⟩, ZS.move (z := z1) (fun o q => k _ (by simp) o q) st1, ZS.move (z := z2) (fun o q => k _ (by simp) o q) st2⟩
  item := by
    intro X hP hw hK hc i pins s σ H E I hf st hg
    subst hP hw hK
    obtain ⟨hz, hTI, ⟨y1, y2, hTO⟩, st1, st2⟩ := st
    obtain ⟨xs1, xs2, x1, x2, q1, q2, h1, h2⟩ := hg
    have hh : X.A.in1.handled = none := I.ok.hd hc
    obtain ⟨fp1, P1, St1, D1, m1, f1, s1, b1, p1⟩ := z1.draws (A := X.A.in1) I q1 hh (ZS.off_of (by omega) l1) st1
    have nf1 : ∀ c, n ≤ c → c ≠ n → c ∉ fp1 := fun c h1 h2 h3 => by
      rcases f1 c h3 with e | e
      · exact h2 e
      · exact e (ZS.off_of h1 l1)
    obtain ⟨fp2, P2, St2, D2, m2, f2, s2, b2, p2⟩ := z2.draws (A := X.A.in1) I q2 hh (ZS.off_of (by omega) l2) st2
    have nf2 : ∀ c, n ≤ c → c ≠ n + 1 → c ∉ fp2 := fun c h1 h2 h3 => by
      rcases f2 c h3 with e | e
      · exact h2 e
      · exact e (ZS.off_of h1 l2)
    have t1 : i < xs1.length := (List.getElem?_eq_some_iff.mp h1).1
    have t2 : i < xs2.length := (List.getElem?_eq_some_iff.mp h2).1
    have hzl : n + 4 < s.heap.objs.size := Heap.lt_size hz
    have S : ZipSep2 (n + 4) (n + 2) (n + 3) (n) (n + 1) fp1 fp2 := { TIz := (ne' (a := n + 2) (b := n + 4) (by omega)), TOz := (ne' (a := n + 3) (b := n + 4) (by omega)), TITO := (ne' (a := n + 2) (b := n + 3) (by omega)), TIi1 := (ne' (a := n + 2) (b := n) (by omega)), mem1 := m1, zf1 := nf1 (n + 4) (by omega) (ne' (a := n + 4) (b := n) (by omega)), Tf1 := nf1 (n + 3) (by omega) (ne' (a := n + 3) (b := n) (by omega)), TIi2 := (ne' (a := n + 2) (b := n + 1) (by omega)), mem2 := m2, zf2 := nf2 (n + 4) (by omega) (ne' (a := n + 4) (b := n + 1) (by omega)), Tf2 := nf2 (n + 3) (by omega) (ne' (a := n + 3) (b := n + 1) (by omega)), sep1_2 := nf2 (n) (by omega) (ne' (a := n) (b := n + 1) (by omega)), sep2_1 := nf1 (n + 1) (by omega) (ne' (a := n + 1) (b := n) (by omega)) }
    refine wpAny_pyNext_zipD2_item S D1 D2 hz hTI hTO s1 s2 t1 t2 fun u1 u2 h' tk g1 g2 z' TO' w1 w2 hT hsz hk => ?_
    refine ⟨_, rfl, wpAny_letOwnedTupleGo_zip (s := { s with heap := h', toks := tk }) z' fun h'' z'' sb => ?_⟩
    obtain ⟨x1', e1, ru1⟩ := p1 i u1 g1
    rw [h1] at e1
    cases Option.some.inj e1
    obtain ⟨x2', e2, ru2⟩ := p2 i u2 g2
    rw [h2] at e2
    cases Option.some.inj e2
    have hT2 : h''.get? s.heap.objs.size = some { cls := .type "tuple", data := .seq #[u1, u2] } := (sb.2 _ (Nat.ne_of_gt hzl)).trans hT
    have new : ObjOk X.prog X.w (upd H s.heap.objs.size (.tup [x1, x2])) h'' s.heap.objs.size (.tup [x1, x2]) :=
      ⟨by show 2 ≤ sizeLine; decide, [u1, u2], .cons ru1 (.cons ru2 (.nil)), ⟨_, hT2, rfl, _, rfl⟩⟩
    have out5 : ∀ c, c ∉ [n + 4, n + 2, n + 3, n, n + 1] → c ≠ n + 4 ∧ c ≠ n + 3 ∧ c ≠ n ∧ c ≠ n + 1 := fun c hb => ⟨fun q' => hb (by simp [q']), fun q' => hb (by simp [q']), fun q' => hb (by simp [q']), fun q' => hb (by simp [q'])⟩
    have I1 : Inv X pins σ (upd H s.heap.objs.size (.tup [x1, x2])) { s with heap := h'', toks := tk } :=
      I.turnedNew (t' := tk) (ch := [n + 4, n + 2, n + 3, n, n + 1]) (fun c o hb q => by
        obtain ⟨a1, a2, b1', b2'⟩ := out5 c hb
        exact (sb.2 c a1).trans (hk c o a1 a2 b1' b2' q)) hf (Nat.le_refl _) new
    refine ⟨.ref s.heap.objs.size, _, I1, rfl, ⟨_, x1, x2, rfl, I.hok.fresh (Nat.le_refl _), rfl, fun l hl => by rw [ZS.inj I hl q1]; exact h1, fun l hl => by rw [ZS.inj I hl q2]; exact h2⟩, ⟨z'', ?_, ⟨u1, u2, ?_⟩, ?_, ?_⟩, fun c hcm => ?_⟩
    · exact (sb.2 (n + 2) (ne' (a := n + 2) (b := n + 4) (by omega))).trans (hk (n + 2) _ (ne' (a := n + 2) (b := n + 4) (by omega)) (ne' (a := n + 2) (b := n + 3) (by omega)) (ne' (a := n + 2) (b := n) (by omega)) (ne' (a := n + 2) (b := n + 1) (by omega)) hTI)
    · exact (sb.2 (n + 3) (ne' (a := n + 3) (b := n + 4) (by omega))).trans TO'
    · exact ZS.move (z := z1) (fun o q => (sb.2 (n) (ne' (a := n) (b := n + 4) (by omega))).trans q) (b1 _ _ w1)
    · exact ZS.move (z := z2) (fun o q => (sb.2 (n + 1) (ne' (a := n + 1) (b := n + 4) (by omega))).trans q) (b2 _ _ w2)
    · have hlt : c < s.heap.objs.size := by
        have e' : c = n + 4 ∨ c = n + 2 ∨ c = n + 3 ∨ c = n ∨ c = n + 1 := by simpa using hcm
        rcases e' with q | q | q | q | q
        · rw [q]; exact (show (n + 4 : Nat) < s.heap.objs.size by omega)
        · rw [q]; exact (show (n + 2 : Nat) < s.heap.objs.size by omega)
        · rw [q]; exact (show (n + 3 : Nat) < s.heap.objs.size by omega)
        · rw [q]; exact (show (n : Nat) < s.heap.objs.size by omega)
        · rw [q]; exact (show (n + 1 : Nat) < s.heap.objs.size by omega)
      rw [upd_ne (Nat.ne_of_lt hlt)]
      exact (hf c hcm).1
  done := by
    intro X hP hw hK hc i pins s σ H E I hf st hg
    subst hP hw hK
    obtain ⟨hz, hTI, ⟨y1, y2, hTO⟩, st1, st2⟩ := st
    obtain ⟨xs1, xs2, q1, q2, t1, t2, hend⟩ := hg
    have hh : X.A.in1.handled = none := I.ok.hd hc
    obtain ⟨fp1, P1, St1, D1, m1, f1, s1, b1, p1⟩ := z1.draws (A := X.A.in1) I q1 hh (ZS.off_of (by omega) l1) st1
    have nf1 : ∀ c, n ≤ c → c ≠ n → c ∉ fp1 := fun c h1 h2 h3 => by
      rcases f1 c h3 with e | e
      · exact h2 e
      · exact e (ZS.off_of h1 l1)
    obtain ⟨fp2, P2, St2, D2, m2, f2, s2, b2, p2⟩ := z2.draws (A := X.A.in1) I q2 hh (ZS.off_of (by omega) l2) st2
    have nf2 : ∀ c, n ≤ c → c ≠ n + 1 → c ∉ fp2 := fun c h1 h2 h3 => by
      rcases f2 c h3 with e | e
      · exact h2 e
      · exact e (ZS.off_of h1 l2)
    have S : ZipSep2 (n + 4) (n + 2) (n + 3) (n) (n + 1) fp1 fp2 := { TIz := (ne' (a := n + 2) (b := n + 4) (by omega)), TOz := (ne' (a := n + 3) (b := n + 4) (by omega)), TITO := (ne' (a := n + 2) (b := n + 3) (by omega)), TIi1 := (ne' (a := n + 2) (b := n) (by omega)), mem1 := m1, zf1 := nf1 (n + 4) (by omega) (ne' (a := n + 4) (b := n) (by omega)), Tf1 := nf1 (n + 3) (by omega) (ne' (a := n + 3) (b := n) (by omega)), TIi2 := (ne' (a := n + 2) (b := n + 1) (by omega)), mem2 := m2, zf2 := nf2 (n + 4) (by omega) (ne' (a := n + 4) (b := n + 1) (by omega)), Tf2 := nf2 (n + 3) (by omega) (ne' (a := n + 3) (b := n + 1) (by omega)), sep1_2 := nf2 (n) (by omega) (ne' (a := n) (b := n + 1) (by omega)), sep2_1 := nf1 (n + 1) (by omega) (ne' (a := n + 1) (b := n) (by omega)) }
    exact wpAny_pyNext_zipD2_end S D1 D2 hz hTI hTO s1 s2 t1 t2 hend fun h' tk hk => ⟨rfl, I.turnedL (t' := tk) (ch := [n + 4, n + 2, n + 3, n, n + 1]) (fun c o hb q =>
      hk c o (fun q' => hb (by simp [q'])) (fun q' => hb (by simp [q'])) (fun q' => hb (by simp [q'])) (fun q' => hb (by simp [q'])) q) hf⟩
  self := fun A i s Q E st h => wpAny_pyIter_zip st.1 h
def iZip2 (K : PySem.W.Frag) (ta : TA) : TI := fun σ H R => ta σ H fun vs H1 => ∃ (z1 z2 : ZS) (xs1 xs2 : List V), vs = [z1.val, z2.val] ∧ z1.at K H1 xs1 ∧ z2.at K H1 xs2 ∧ R (Itz2 K z1 z2) H1
theorem pi_zip2 {X : Cx} {e e2 : Expr} {ta : TA} {p pos tpos : Pos} {elts : List Expr} {kk : Nat} (hg : Gl X "zip") (hm : X.mg "zip" = none) (ha : PA X [e, e2] ta)
    (hs : starEach [e, e2] X.env = (false, eval e X.env) :: starEach [e2] X.env := by rfl) (hpl : (backTo pos (starEach [e2] X.env)).any (·.1) = false := by rfl) :
    PI X (.Tuple elts kk tpos) (.Call (.Name "zip" p) [e, e2] [] pos) (iZip2 X.K ta) := by
  refine ⟨fun pins s σ H R I h => ?_⟩
  refine Call_ (ld_blt I hg hm PyProof.Rows.boot_zip (PyProof.Rows.callWith_type1 (thn (ha.run pos pins s σ H _ I h) fun us s1 ⟨vs, H1, I1, r1, q1⟩ => ?_) hs hpl))
  obtain ⟨z1, z2, xs1, xs2, ex, q1, q2, q⟩ := q1
  subst ex
  cases r1 with
  | cons r1 rr =>
    cases rr with
    | cons r2 rr =>
      cases rr
      obtain ⟨o1, G1, B1, h1, i1, l1⟩ := z1.begins I1 q1 r1
      obtain ⟨o2, G2, B2, h2, i2, l2⟩ := z2.begins I1 q2 r2
      have fresh5 : ∀ c, c ∈ [s1.heap.objs.size + 4, s1.heap.objs.size + 2, s1.heap.objs.size + 3, s1.heap.objs.size, s1.heap.objs.size + 1] → FpOk X pins H1 c := fun c hcm => by
        have e' : c = s1.heap.objs.size + 4 ∨ c = s1.heap.objs.size + 2 ∨ c = s1.heap.objs.size + 3 ∨ c = s1.heap.objs.size ∨ c = s1.heap.objs.size + 1 := by simpa using hcm
        have hle : s1.heap.objs.size ≤ c := by omega
        exact I1.fpOk hle (I1.hok.fresh hle)
      refine zip_begins2 B1 B2 h1 h2 fun h' hz hTI hTO g1 g2 hsz hk => wpAny_pyIter_zip hz ?_
      have I2 : Inv X pins σ H1 { s1 with heap := h' } := I1.kept (t' := s1.toks) hk
      exact ⟨s1.heap.objs.size + 4, [s1.heap.objs.size + 4, s1.heap.objs.size + 2, s1.heap.objs.size + 3, s1.heap.objs.size, s1.heap.objs.size + 1], _, _, H1, rfl, I2, turn_zip2 l1 l2, ⟨hz, hTI, ⟨_, _, hTO⟩, i1 _ _ g1, i2 _ _ g2⟩, fresh5, q⟩
theorem for_zip2 {K : PySem.W.Frag} {z1 z2 : ZS} {xs1 xs2 : List V} {n : Nat} {g : TG} {tb : TS} {D : Ends} {σ : L2.St} {H : Hp} (n1 : xs1.length = n) (n2 : xs2.length = n) (Pv : Nat → L2.St → Hp → Prop) (h0 : Pv 0 σ H) (hl : ∀ i σ H, i ≤ n → Pv i σ H → z1.at K H xs1 ∧ z2.at K H xs2)
    (hs : ∀ (i : Nat) (x1 x2 : V) (T : Addr) (σ : L2.St) (H : Hp), xs1[i]? = some x1 → xs2[i]? = some x2 → H T = none → Pv i σ H → g (.ref T) σ (upd H T (.tup [x1, x2])) fun σ2 H2 => tb { D with nx := Pv (i + 1), ct := Pv (i + 1), bk := D.nx } σ2 H2) (hd : ∀ σ H, Pv n σ H → D.nx σ H) :
    ∃ W : Nat → Nat → L2.St → Hp → Prop, (∃ m, W 0 m σ H) ∧ ∀ i m σ H, W i m σ H →
      ((Itz2 K z1 z2).stop i H ∧ D.nx σ H) ∨ ((Itz2 K z1 z2).go i H ∧ ∃ N : L2.St → Hp → Prop, (∀ σ' H', N σ' H' → ∃ m', m' < m ∧ W (i + 1) m' σ' H') ∧ ∀ v H', (Itz2 K z1 z2).yld i H v H' → g v σ H' fun σ2 H2 => tb { D with nx := N, ct := N, bk := D.nx } σ2 H2) := by
  refine ⟨fun i m σ H => m = n - i ∧ i ≤ n ∧ Pv i σ H, ⟨n, rfl, Nat.zero_le _, h0⟩, ?_⟩
  rintro i m σ H ⟨rfl, hi, p⟩
  obtain ⟨q1, q2⟩ := hl i σ H hi p
  by_cases hlt : i < n
  · have e1 : xs1[i]? = some (xs1[i]'(by omega)) := List.getElem?_eq_getElem _
    have e2 : xs2[i]? = some (xs2[i]'(by omega)) := List.getElem?_eq_getElem _
    refine .inr ⟨⟨xs1, xs2, _, _, q1, q2, e1, e2⟩, Pv (i + 1), fun σ' H' p' => ⟨n - (i + 1), by omega, rfl, hlt, p'⟩, fun v H' y => ?_⟩
    obtain ⟨T, y1, y2, rfl, hT, rfl, f1, f2⟩ := y
    exact hs i y1 y2 T σ H (f1 xs1 q1) (f2 xs2 q2) hT p
  · have e : i = n := by omega
    subst e
    exact .inl ⟨⟨xs1, xs2, q1, q2, by omega, by omega, .inl (by omega)⟩, hd σ H p⟩
theorem lc_zip2 {K : PySem.W.Frag} {z1 z2 : ZS} {xs1 xs2 : List V} {n : Nat} {g : TG} {tt : TT} {te : TE} {vs : List Nat} {σ : L2.St} {H1 : Hp} {D : Addr} {Qd : Hp → Prop} (n1 : xs1.length = n) (n2 : xs2.length = n) (Pv : Nat → Hp → Prop) (h0 : Pv 0 (upd H1 D (.lst []))) (hl : ∀ i H, i ≤ n → Pv i H → z1.at K H xs1 ∧ z2.at K H xs2)
    (hs : ∀ (i : Nat) (x1 x2 : V) (T : Addr) (H : Hp), xs1[i]? = some x1 → xs2[i]? = some x2 → H T = none → Pv i H → g (.ref T) (wipe σ vs) (upd H T (.tup [x1, x2])) fun σ2 H2 => wipe σ2 vs = wipe σ vs ∧ tt σ2 H2 fun b H3 =>
      if b = true then te σ2 H3 fun y H4 => ∃ acc, H4 D = some (.lst acc) ∧ acc.length < sizeLine ∧ Pv (i + 1) (upd H4 D (.lst (acc ++ [y]))) else Pv (i + 1) H3) (hd : ∀ H, Pv n H → Qd H) :
    ∃ W : Nat → Nat → Hp → Prop, (∃ m, W 0 m (upd H1 D (.lst []))) ∧ ∀ i m H, W i m H →
      ((Itz2 K z1 z2).stop i H ∧ Qd H) ∨ ((Itz2 K z1 z2).go i H ∧ ∃ Nx : Hp → Prop, (∀ H', Nx H' → ∃ m', m' < m ∧ W (i + 1) m' H') ∧ ∀ x H', (Itz2 K z1 z2).yld i H x H' → g x (wipe σ vs) H' fun σ2 H2 => wipe σ2 vs = wipe σ vs ∧ tt σ2 H2 fun b H3 =>
        if b = true then te σ2 H3 fun y H4 => ∃ acc, H4 D = some (.lst acc) ∧ acc.length < sizeLine ∧ Nx (upd H4 D (.lst (acc ++ [y]))) else Nx H3) := by
  refine ⟨fun i m H => m = n - i ∧ i ≤ n ∧ Pv i H, ⟨n, by simp, Nat.zero_le _, h0⟩, ?_⟩
  rintro i m H ⟨rfl, hi, p⟩
  obtain ⟨q1, q2⟩ := hl i H hi p
  by_cases hlt : i < n
  · have e1 : xs1[i]? = some (xs1[i]'(by omega)) := List.getElem?_eq_getElem _
    have e2 : xs2[i]? = some (xs2[i]'(by omega)) := List.getElem?_eq_getElem _
    refine .inr ⟨⟨xs1, xs2, _, _, q1, q2, e1, e2⟩, Pv (i + 1), fun H' p' => ⟨n - (i + 1), by omega, rfl, hlt, p'⟩, fun v H' y => ?_⟩
    obtain ⟨T, y1, y2, rfl, hT, rfl, f1, f2⟩ := y
    exact hs i y1 y2 T H (f1 xs1 q1) (f2 xs2 q2) hT p
  · have e : i = n := by omega
    subst e
    exact .inl ⟨⟨xs1, xs2, q1, q2, by omega, by omega, .inl (by omega)⟩, hd H p⟩
theorem gx_zip2 {α : Type} {K : PySem.W.Frag} {z1 z2 : ZS} {xs1 xs2 : List V} {n : Nat} {g : TG} {tt : TT} {te : TE} {vs : List Nat} {σ0 : L2.St} {End : α → Hp → Prop} {Yd : α → V → Hp → (α → Hp → Prop) → Prop} {a0 : α} {H0 : Hp} (n1 : xs1.length = n) (n2 : xs2.length = n) (Pv : Nat → α → Hp → Prop) (h0 : Pv 0 a0 H0) (hl : ∀ i c H, i ≤ n → Pv i c H → z1.at K H xs1 ∧ z2.at K H xs2)
    (hs : ∀ (i : Nat) (x1 x2 : V) (T : Addr) (c : α) (H : Hp), xs1[i]? = some x1 → xs2[i]? = some x2 → H T = none → Pv i c H → g (.ref T) σ0 (upd H T (.tup [x1, x2])) fun σ2 H2 => wipe σ2 vs = σ0 ∧ tt σ2 H2 fun b H3 => if b = true then te σ2 H3 fun y H4 => Yd c y H4 (Pv (i + 1)) else Pv (i + 1) c H3) (hd : ∀ c H, Pv n c H → End c H) :
    ∃ W : Nat → Nat → α → Hp → Prop, (∃ m, W 0 m a0 H0) ∧ tGx (Itz2 K z1 z2) g tt te σ0 vs End Yd W := by
  refine ⟨fun i m c H => m = n - i ∧ i ≤ n ∧ Pv i c H, ⟨n, rfl, Nat.zero_le _, h0⟩, ?_⟩
  rintro i m c H ⟨rfl, hi, p⟩
  obtain ⟨q1, q2⟩ := hl i c H hi p
  by_cases hlt : i < n
  · have e1 : xs1[i]? = some (xs1[i]'(by omega)) := List.getElem?_eq_getElem _
    have e2 : xs2[i]? = some (xs2[i]'(by omega)) := List.getElem?_eq_getElem _
    refine .inr ⟨⟨xs1, xs2, _, _, q1, q2, e1, e2⟩, Pv (i + 1), fun c' H' p' => ⟨n - (i + 1), by omega, rfl, hlt, p'⟩, fun v H' y => ?_⟩
    obtain ⟨T, y1, y2, rfl, hT, rfl, f1, f2⟩ := y
    exact hs i y1 y2 T c H (f1 xs1 q1) (f2 xs2 q2) hT p
  · have e : i = n := by omega
    subst e
    exact .inl ⟨⟨xs1, xs2, q1, q2, by omega, by omega, .inl (by omega)⟩, hd c H p⟩
def Itz3 (K : PySem.W.Frag) (z1 z2 z3 : ZS) : It :=
  ⟨fun i H => ∃ (xs1 xs2 xs3 : List V) (x1 x2 x3 : V), z1.at K H xs1 ∧ z2.at K H xs2 ∧ z3.at K H xs3 ∧ xs1[i]? = some x1 ∧ xs2[i]? = some x2 ∧ xs3[i]? = some x3,
    fun i H v H' => ∃ T x1 x2 x3, v = .ref T ∧ H T = none ∧ H' = upd H T (.tup [x1, x2, x3]) ∧ (∀ xs, z1.at K H xs → xs[i]? = some x1) ∧ (∀ xs, z2.at K H xs → xs[i]? = some x2) ∧ (∀ xs, z3.at K H xs → xs[i]? = some x3),
    fun i H => ∃ xs1 xs2 xs3 : List V, z1.at K H xs1 ∧ z2.at K H xs2 ∧ z3.at K H xs3 ∧ i ≤ xs1.length ∧ i ≤ xs2.length ∧ i ≤ xs3.length ∧ (i = xs1.length ∨ i = xs2.length ∨ i = xs3.length)⟩
theorem turn_zip3 {P : Program} {w : World} {K : PySem.W.Frag} {elts : List Expr} {kk : Nat} {tpos : Pos} {z1 z2 z3 : ZS} {n : Nat} (l1 : z1.lt n) (l2 : z2.lt n) (l3 : z3.lt n) :
    Turn P w K (.Tuple elts kk tpos) (Itz3 K z1 z2 z3) [n + 5, n + 3, n + 4, n, n + 1, n + 2] (n + 5) (fun i h => IsZip h (n + 5) (n + 3) (n + 4) .none ∧ IsTupOf3 h (n + 3) (.ref (n)) (.ref (n + 1)) (.ref (n + 2)) ∧ (∃ x1 x2 x3, IsTupOf3 h (n + 4) x1 x2 x3) ∧ z1.it (n) i h ∧ z2.it (n + 1) i h ∧ z3.it (n + 2) i h) where
  mem := List.mem_cons_self
  obj := fun i h st c hc => by
    obtain ⟨hz, hTI, ⟨x1, x2, x3, hTO⟩, st1, st2, st3⟩ := st
    have e' : c = n + 5 ∨ c = n + 3 ∨ c = n + 4 ∨ c = n ∨ c = n + 1 ∨ c = n + 2 := by simpa using hc
    rcases e' with q | q | q | q | q | q
    · rw [q]; exact ⟨_, hz, fun v q => nomatch q⟩
    · rw [q]; exact ⟨_, hTI, fun v q => nomatch q⟩
    · rw [q]; exact ⟨_, hTO, fun v q => nomatch q⟩
    · rw [q]; exact ZS.obj (z := z1) st1
    · rw [q]; exact ZS.obj (z := z2) st2
    · rw [q]; exact ZS.obj (z := z3) st3
  keep := fun i h h' st k => by
    obtain ⟨hz, hTI, ⟨x1, x2, x3, hTO⟩, st1, st2, st3⟩ := st
    exact ⟨k _ (by simp) _ hz, k _ (by simp) _ hTI, ⟨x1, x2, x3, k _ (by simp) _ hTO⟩, ZS.move (z := z1) (fun o q => k _ (by simp) o q) st1, ZS.move (z := z2) (fun o q => k _ (by simp) o q) st2, ZS.move (z := z3) (fun o q => k _ (by simp) o q) st3⟩
  item := by
    intro X hP hw hK hc i pins s σ H E I hf st hg
    subst hP hw hK
    obtain ⟨hz, hTI, ⟨y1, y2, y3, hTO⟩, st1, st2, st3⟩ := st
    obtain ⟨xs1, xs2, xs3, x1, x2, x3, q1, q2, q3, h1, h2, h3⟩ := hg
    have hh : X.A.in1.handled = none := I.ok.hd hc
    obtain ⟨fp1, P1, St1, D1, m1, f1, s1, b1, p1⟩ := z1.draws (A := X.A.in1) I q1 hh (ZS.off_of (by omega) l1) st1
    have nf1 : ∀ c, n ≤ c → c ≠ n → c ∉ fp1 := fun c h1 h2 h3 => by
      rcases f1 c h3 with e | e
      · exact h2 e
      · exact e (ZS.off_of h1 l1)
    obtain ⟨fp2, P2, St2, D2, m2, f2, s2, b2, p2⟩ := z2.draws (A := X.A.in1) I q2 hh (ZS.off_of (by omega) l2) st2
    have nf2 : ∀ c, n ≤ c → c ≠ n + 1 → c ∉ fp2 := fun c h1 h2 h3 => by
      rcases f2 c h3 with e | e
      · exact h2 e
      · exact e (ZS.off_of h1 l2)
    obtain ⟨fp3, P3, St3, D3, m3, f3, s3, b3, p3⟩ := z3.draws (A := X.A.in1) I q3 hh (ZS.off_of (by omega) l3) st3
    have nf3 : ∀ c, n ≤ c → c ≠ n + 2 → c ∉ fp3 := fun c h1 h2 h3 => by
      rcases f3 c h3 with e | e
      · exact h2 e
      · exact e (ZS.off_of h1 l3)
    have t1 : i < xs1.length := (List.getElem?_eq_some_iff.mp h1).1
    have t2 : i < xs2.length := (List.getElem?_eq_some_iff.mp h2).1
    have t3 : i < xs3.length := (List.getElem?_eq_some_iff.mp h3).1
    have hzl : n + 5 < s.heap.objs.size := Heap.lt_size hz
    have S : ZipSep3 (n + 5) (n + 3) (n + 4) (n) (n + 1) (n + 2) fp1 fp2 fp3 := { TIz := (ne' (a := n + 3) (b := n + 5) (by omega)), TOz := (ne' (a := n + 4) (b := n + 5) (by omega)), TITO := (ne' (a := n + 3) (b := n + 4) (by omega)), TIi1 := (ne' (a := n + 3) (b := n) (by omega)), mem1 := m1, zf1 := nf1 (n + 5) (by omega) (ne' (a := n + 5) (b := n) (by omega)), Tf1 := nf1 (n + 4) (by omega) (ne' (a := n + 4) (b := n) (by omega)), TIi2 := (ne' (a := n + 3) (b := n + 1) (by omega)), mem2 := m2, zf2 := nf2 (n + 5) (by omega) (ne' (a := n + 5) (b := n + 1) (by omega)), Tf2 := nf2 (n + 4) (by omega) (ne' (a := n + 4) (b := n + 1) (by omega)), TIi3 := (ne' (a := n + 3) (b := n + 2) (by omega)), mem3 := m3, zf3 := nf3 (n + 5) (by omega) (ne' (a := n + 5) (b := n + 2) (by omega)), Tf3 := nf3 (n + 4) (by omega) (ne' (a := n + 4) (b := n + 2) (by omega)), sep1_2 := nf2 (n) (by omega) (ne' (a := n) (b := n + 1) (by omega)), sep1_3 := nf3 (n) (by omega) (ne' (a := n) (b := n + 2) (by omega)), sep2_1 := nf1 (n + 1) (by omega) (ne' (a := n + 1) (b := n) (by omega)), sep2_3 := nf3 (n + 1) (by omega) (ne' (a := n + 1) (b := n + 2) (by omega)), sep3_1 := nf1 (n + 2) (by omega) (ne' (a := n + 2) (b := n) (by omega)), sep3_2 := nf2 (n + 2) (by omega) (ne' (a := n + 2) (b := n + 1) (by omega)) }
    refine wpAny_pyNext_zipD3_item S D1 D2 D3 hz hTI hTO s1 s2 s3 t1 t2 t3 fun u1 u2 u3 h' tk g1 g2 g3 z' TO' w1 w2 w3 hT hsz hk => ?_
    refine ⟨_, rfl, wpAny_letOwnedTupleGo_zip (s := { s with heap := h', toks := tk }) z' fun h'' z'' sb => ?_⟩
    obtain ⟨x1', e1, ru1⟩ := p1 i u1 g1
    rw [h1] at e1
    cases Option.some.inj e1
    obtain ⟨x2', e2, ru2⟩ := p2 i u2 g2
    rw [h2] at e2
    cases Option.some.inj e2
    obtain ⟨x3', e3, ru3⟩ := p3 i u3 g3
    rw [h3] at e3
    cases Option.some.inj e3
    have hT2 : h''.get? s.heap.objs.size = some { cls := .type "tuple", data := .seq #[u1, u2, u3] } := (sb.2 _ (Nat.ne_of_gt hzl)).trans hT
    have new : ObjOk X.prog X.w (upd H s.heap.objs.size (.tup [x1, x2, x3])) h'' s.heap.objs.size (.tup [x1, x2, x3]) :=
      ⟨by show 3 ≤ sizeLine; decide, [u1, u2, u3], .cons ru1 (.cons ru2 (.cons ru3 (.nil))), ⟨_, hT2, rfl, _, rfl⟩⟩
    have out5 : ∀ c, c ∉ [n + 5, n + 3, n + 4, n, n + 1, n + 2] → c ≠ n + 5 ∧ c ≠ n + 4 ∧ c ≠ n ∧ c ≠ n + 1 ∧ c ≠ n + 2 := fun c hb => ⟨fun q' => hb (by simp [q']), fun q' => hb (by simp [q']), fun q' => hb (by simp [q']), fun q' => hb (by simp [q']), fun q' => hb (by simp [q'])⟩
    have I1 : Inv X pins σ (upd H s.heap.objs.size (.tup [x1, x2, x3])) { s with heap := h'', toks := tk } :=
      I.turnedNew (t' := tk) (ch := [n + 5, n + 3, n + 4, n, n + 1, n + 2]) (fun c o hb q => by
        obtain ⟨a1, a2, b1', b2', b3'⟩ := out5 c hb
        exact (sb.2 c a1).trans (hk c o a1 a2 b1' b2' b3' q)) hf (Nat.le_refl _) new
    refine ⟨.ref s.heap.objs.size, _, I1, rfl, ⟨_, x1, x2, x3, rfl, I.hok.fresh (Nat.le_refl _), rfl, fun l hl => by rw [ZS.inj I hl q1]; exact h1, fun l hl => by rw [ZS.inj I hl q2]; exact h2, fun l hl => by rw [ZS.inj I hl q3]; exact h3⟩, ⟨z'', ?_, ⟨u1, u2, u3, ?_⟩, ?_, ?_, ?_⟩, fun c hcm => ?_⟩
    · exact (sb.2 (n + 3) (ne' (a := n + 3) (b := n + 5) (by omega))).trans (hk (n + 3) _ (ne' (a := n + 3) (b := n + 5) (by omega)) (ne' (a := n + 3) (b := n + 4) (by omega)) (ne' (a := n + 3) (b := n) (by omega)) (ne' (a := n + 3) (b := n + 1) (by omega)) (ne' (a := n + 3) (b := n + 2) (by omega)) hTI)
    · exact (sb.2 (n + 4) (ne' (a := n + 4) (b := n + 5) (by omega))).trans TO'
    · exact ZS.move (z := z1) (fun o q => (sb.2 (n) (ne' (a := n) (b := n + 5) (by omega))).trans q) (b1 _ _ w1)
    · exact ZS.move (z := z2) (fun o q => (sb.2 (n + 1) (ne' (a := n + 1) (b := n + 5) (by omega))).trans q) (b2 _ _ w2)
    · exact ZS.move (z := z3) (fun o q => (sb.2 (n + 2) (ne' (a := n + 2) (b := n + 5) (by omega))).trans q) (b3 _ _ w3)
    · have hlt : c < s.heap.objs.size := by
        have e' : c = n + 5 ∨ c = n + 3 ∨ c = n + 4 ∨ c = n ∨ c = n + 1 ∨ c = n + 2 := by simpa using hcm
        rcases e' with q | q | q | q | q | q
        · rw [q]; exact (show (n + 5 : Nat) < s.heap.objs.size by omega)
        · rw [q]; exact (show (n + 3 : Nat) < s.heap.objs.size by omega)
        · rw [q]; exact (show (n + 4 : Nat) < s.heap.objs.size by omega)
        · rw [q]; exact (show (n : Nat) < s.heap.objs.size by omega)
        · rw [q]; exact (show (n + 1 : Nat) < s.heap.objs.size by omega)
        · rw [q]; exact (show (n + 2 : Nat) < s.heap.objs.size by omega)
      rw [upd_ne (Nat.ne_of_lt hlt)]
      exact (hf c hcm).1
  done := by
    intro X hP hw hK hc i pins s σ H E I hf st hg
    subst hP hw hK
    obtain ⟨hz, hTI, ⟨y1, y2, y3, hTO⟩, st1, st2, st3⟩ := st
    obtain ⟨xs1, xs2, xs3, q1, q2, q3, t1, t2, t3, hend⟩ := hg
    have hh : X.A.in1.handled = none := I.ok.hd hc
    obtain ⟨fp1, P1, St1, D1, m1, f1, s1, b1, p1⟩ := z1.draws (A := X.A.in1) I q1 hh (ZS.off_of (by omega) l1) st1
    have nf1 : ∀ c, n ≤ c → c ≠ n → c ∉ fp1 := fun c h1 h2 h3 => by
      rcases f1 c h3 with e | e
      · exact h2 e
      · exact e (ZS.off_of h1 l1)
    obtain ⟨fp2, P2, St2, D2, m2, f2, s2, b2, p2⟩ := z2.draws (A := X.A.in1) I q2 hh (ZS.off_of (by omega) l2) st2
    have nf2 : ∀ c, n ≤ c → c ≠ n + 1 → c ∉ fp2 := fun c h1 h2 h3 => by
      rcases f2 c h3 with e | e
      · exact h2 e
      · exact e (ZS.off_of h1 l2)
    obtain ⟨fp3, P3, St3, D3, m3, f3, s3, b3, p3⟩ := z3.draws (A := X.A.in1) I q3 hh (ZS.off_of (by omega) l3) st3
    have nf3 : ∀ c, n ≤ c → c ≠ n + 2 → c ∉ fp3 := fun c h1 h2 h3 => by
      rcases f3 c h3 with e | e
      · exact h2 e
      · exact e (ZS.off_of h1 l3)
    have S : ZipSep3 (n + 5) (n + 3) (n + 4) (n) (n + 1) (n + 2) fp1 fp2 fp3 := { TIz := (ne' (a := n + 3) (b := n + 5) (by omega)), TOz := (ne' (a := n + 4) (b := n + 5) (by omega)), TITO := (ne' (a := n + 3) (b := n + 4) (by omega)), TIi1 := (ne' (a := n + 3) (b := n) (by omega)), mem1 := m1, zf1 := nf1 (n + 5) (by omega) (ne' (a := n + 5) (b := n) (by omega)), Tf1 := nf1 (n + 4) (by omega) (ne' (a := n + 4) (b := n) (by omega)), TIi2 := (ne' (a := n + 3) (b := n + 1) (by omega)), mem2 := m2, zf2 := nf2 (n + 5) (by omega) (ne' (a := n + 5) (b := n + 1) (by omega)), Tf2 := nf2 (n + 4) (by omega) (ne' (a := n + 4) (b := n + 1) (by omega)), TIi3 := (ne' (a := n + 3) (b := n + 2) (by omega)), mem3 := m3, zf3 := nf3 (n + 5) (by omega) (ne' (a := n + 5) (b := n + 2) (by omega)), Tf3 := nf3 (n + 4) (by omega) (ne' (a := n + 4) (b := n + 2) (by omega)), sep1_2 := nf2 (n) (by omega) (ne' (a := n) (b := n + 1) (by omega)), sep1_3 := nf3 (n) (by omega) (ne' (a := n) (b := n + 2) (by omega)), sep2_1 := nf1 (n + 1) (by omega) (ne' (a := n + 1) (b := n) (by omega)), sep2_3 := nf3 (n + 1) (by omega) (ne' (a := n + 1) (b := n + 2) (by omega)), sep3_1 := nf1 (n + 2) (by omega) (ne' (a := n + 2) (b := n) (by omega)), sep3_2 := nf2 (n + 2) (by omega) (ne' (a := n + 2) (b := n + 1) (by omega)) }
    exact wpAny_pyNext_zipD3_end S D1 D2 D3 hz hTI hTO s1 s2 s3 t1 t2 t3 hend fun h' tk hk => ⟨rfl, I.turnedL (t' := tk) (ch := [n + 5, n + 3, n + 4, n, n + 1, n + 2]) (fun c o hb q =>
      hk c o (fun q' => hb (by simp [q'])) (fun q' => hb (by simp [q'])) (fun q' => hb (by simp [q'])) (fun q' => hb (by simp [q'])) (fun q' => hb (by simp [q'])) q) hf⟩
  self := fun A i s Q E st h => wpAny_pyIter_zip st.1 h
def iZip3 (K : PySem.W.Frag) (ta : TA) : TI := fun σ H R => ta σ H fun vs H1 => ∃ (z1 z2 z3 : ZS) (xs1 xs2 xs3 : List V), vs = [z1.val, z2.val, z3.val] ∧ z1.at K H1 xs1 ∧ z2.at K H1 xs2 ∧ z3.at K H1 xs3 ∧ R (Itz3 K z1 z2 z3) H1
theorem pi_zip3 {X : Cx} {e e2 e3 : Expr} {ta : TA} {p pos tpos : Pos} {elts : List Expr} {kk : Nat} (hg : Gl X "zip") (hm : X.mg "zip" = none) (ha : PA X [e, e2, e3] ta)
    (hs : starEach [e, e2, e3] X.env = (false, eval e X.env) :: starEach [e2, e3] X.env := by rfl) (hpl : (backTo pos (starEach [e2, e3] X.env)).any (·.1) = false := by rfl) :
    PI X (.Tuple elts kk tpos) (.Call (.Name "zip" p) [e, e2, e3] [] pos) (iZip3 X.K ta) := by
  refine ⟨fun pins s σ H R I h => ?_⟩
  refine Call_ (ld_blt I hg hm PyProof.Rows.boot_zip (PyProof.Rows.callWith_type1 (thn (ha.run pos pins s σ H _ I h) fun us s1 ⟨vs, H1, I1, r1, q1⟩ => ?_) hs hpl))
  obtain ⟨z1, z2, z3, xs1, xs2, xs3, ex, q1, q2, q3, q⟩ := q1
  subst ex
  cases r1 with
  | cons r1 rr =>
    cases rr with
    | cons r2 rr =>
      cases rr with
      | cons r3 rr =>
        cases rr
        obtain ⟨o1, G1, B1, h1, i1, l1⟩ := z1.begins I1 q1 r1
        obtain ⟨o2, G2, B2, h2, i2, l2⟩ := z2.begins I1 q2 r2
        obtain ⟨o3, G3, B3, h3, i3, l3⟩ := z3.begins I1 q3 r3
        have fresh5 : ∀ c, c ∈ [s1.heap.objs.size + 5, s1.heap.objs.size + 3, s1.heap.objs.size + 4, s1.heap.objs.size, s1.heap.objs.size + 1, s1.heap.objs.size + 2] → FpOk X pins H1 c := fun c hcm => by
          have e' : c = s1.heap.objs.size + 5 ∨ c = s1.heap.objs.size + 3 ∨ c = s1.heap.objs.size + 4 ∨ c = s1.heap.objs.size ∨ c = s1.heap.objs.size + 1 ∨ c = s1.heap.objs.size + 2 := by simpa using hcm
          have hle : s1.heap.objs.size ≤ c := by omega
          exact I1.fpOk hle (I1.hok.fresh hle)
        refine zip_begins3 B1 B2 B3 h1 h2 h3 fun h' hz hTI hTO g1 g2 g3 hsz hk => wpAny_pyIter_zip hz ?_
        have I2 : Inv X pins σ H1 { s1 with heap := h' } := I1.kept (t' := s1.toks) hk
        exact ⟨s1.heap.objs.size + 5, [s1.heap.objs.size + 5, s1.heap.objs.size + 3, s1.heap.objs.size + 4, s1.heap.objs.size, s1.heap.objs.size + 1, s1.heap.objs.size + 2], _, _, H1, rfl, I2, turn_zip3 l1 l2 l3, ⟨hz, hTI, ⟨_, _, _, hTO⟩, i1 _ _ g1, i2 _ _ g2, i3 _ _ g3⟩, fresh5, q⟩
theorem for_zip3 {K : PySem.W.Frag} {z1 z2 z3 : ZS} {xs1 xs2 xs3 : List V} {n : Nat} {g : TG} {tb : TS} {D : Ends} {σ : L2.St} {H : Hp} (n1 : xs1.length = n) (n2 : xs2.length = n) (n3 : xs3.length = n) (Pv : Nat → L2.St → Hp → Prop) (h0 : Pv 0 σ H) (hl : ∀ i σ H, i ≤ n → Pv i σ H → z1.at K H xs1 ∧ z2.at K H xs2 ∧ z3.at K H xs3)
    (hs : ∀ (i : Nat) (x1 x2 x3 : V) (T : Addr) (σ : L2.St) (H : Hp), xs1[i]? = some x1 → xs2[i]? = some x2 → xs3[i]? = some x3 → H T = none → Pv i σ H → g (.ref T) σ (upd H T (.tup [x1, x2, x3])) fun σ2 H2 => tb { D with nx := Pv (i + 1), ct := Pv (i + 1), bk := D.nx } σ2 H2) (hd : ∀ σ H, Pv n σ H → D.nx σ H) :
    ∃ W : Nat → Nat → L2.St → Hp → Prop, (∃ m, W 0 m σ H) ∧ ∀ i m σ H, W i m σ H →
      ((Itz3 K z1 z2 z3).stop i H ∧ D.nx σ H) ∨ ((Itz3 K z1 z2 z3).go i H ∧ ∃ N : L2.St → Hp → Prop, (∀ σ' H', N σ' H' → ∃ m', m' < m ∧ W (i + 1) m' σ' H') ∧ ∀ v H', (Itz3 K z1 z2 z3).yld i H v H' → g v σ H' fun σ2 H2 => tb { D with nx := N, ct := N, bk := D.nx } σ2 H2) := by
  refine ⟨fun i m σ H => m = n - i ∧ i ≤ n ∧ Pv i σ H, ⟨n, rfl, Nat.zero_le _, h0⟩, ?_⟩
  rintro i m σ H ⟨rfl, hi, p⟩
  obtain ⟨q1, q2, q3⟩ := hl i σ H hi p
  by_cases hlt : i < n
  · have e1 : xs1[i]? = some (xs1[i]'(by omega)) := List.getElem?_eq_getElem _
    have e2 : xs2[i]? = some (xs2[i]'(by omega)) := List.getElem?_eq_getElem _
    have e3 : xs3[i]? = some (xs3[i]'(by omega)) := List.getElem?_eq_getElem _
    refine .inr ⟨⟨xs1, xs2, xs3, _, _, _, q1, q2, q3, e1, e2, e3⟩, Pv (i + 1), fun σ' H' p' => ⟨n - (i + 1), by omega, rfl, hlt, p'⟩, fun v H' y => ?_⟩
    obtain ⟨T, y1, y2, y3, rfl, hT, rfl, f1, f2, f3⟩ := y
    exact hs i y1 y2 y3 T σ H (f1 xs1 q1) (f2 xs2 q2) (f3 xs3 q3) hT p
  · have e : i = n := by omega
    subst e
    exact .inl ⟨⟨xs1, xs2, xs3, q1, q2, q3, by omega, by omega, by omega, .inl (by omega)⟩, hd σ H p⟩
theorem lc_zip3 {K : PySem.W.Frag} {z1 z2 z3 : ZS} {xs1 xs2 xs3 : List V} {n : Nat} {g : TG} {tt : TT} {te : TE} {vs : List Nat} {σ : L2.St} {H1 : Hp} {D : Addr} {Qd : Hp → Prop} (n1 : xs1.length = n) (n2 : xs2.length = n) (n3 : xs3.length = n) (Pv : Nat → Hp → Prop) (h0 : Pv 0 (upd H1 D (.lst []))) (hl : ∀ i H, i ≤ n → Pv i H → z1.at K H xs1 ∧ z2.at K H xs2 ∧ z3.at K H xs3)
    (hs : ∀ (i : Nat) (x1 x2 x3 : V) (T : Addr) (H : Hp), xs1[i]? = some x1 → xs2[i]? = some x2 → xs3[i]? = some x3 → H T = none → Pv i H → g (.ref T) (wipe σ vs) (upd H T (.tup [x1, x2, x3])) fun σ2 H2 => wipe σ2 vs = wipe σ vs ∧ tt σ2 H2 fun b H3 =>
      if b = true then te σ2 H3 fun y H4 => ∃ acc, H4 D = some (.lst acc) ∧ acc.length < sizeLine ∧ Pv (i + 1) (upd H4 D (.lst (acc ++ [y]))) else Pv (i + 1) H3) (hd : ∀ H, Pv n H → Qd H) :
    ∃ W : Nat → Nat → Hp → Prop, (∃ m, W 0 m (upd H1 D (.lst []))) ∧ ∀ i m H, W i m H →
      ((Itz3 K z1 z2 z3).stop i H ∧ Qd H) ∨ ((Itz3 K z1 z2 z3).go i H ∧ ∃ Nx : Hp → Prop, (∀ H', Nx H' → ∃ m', m' < m ∧ W (i + 1) m' H') ∧ ∀ x H', (Itz3 K z1 z2 z3).yld i H x H' → g x (wipe σ vs) H' fun σ2 H2 => wipe σ2 vs = wipe σ vs ∧ tt σ2 H2 fun b H3 =>
        if b = true then te σ2 H3 fun y H4 => ∃ acc, H4 D = some (.lst acc) ∧ acc.length < sizeLine ∧ Nx (upd H4 D (.lst (acc ++ [y]))) else Nx H3) := by
  refine ⟨fun i m H => m = n - i ∧ i ≤ n ∧ Pv i H, ⟨n, by simp, Nat.zero_le _, h0⟩, ?_⟩
  rintro i m H ⟨rfl, hi, p⟩
  obtain ⟨q1, q2, q3⟩ := hl i H hi p
  by_cases hlt : i < n
  · have e1 : xs1[i]? = some (xs1[i]'(by omega)) := List.getElem?_eq_getElem _
    have e2 : xs2[i]? = some (xs2[i]'(by omega)) := List.getElem?_eq_getElem _
    have e3 : xs3[i]? = some (xs3[i]'(by omega)) := List.getElem?_eq_getElem _
    refine .inr ⟨⟨xs1, xs2, xs3, _, _, _, q1, q2, q3, e1, e2, e3⟩, Pv (i + 1), fun H' p' => ⟨n - (i + 1), by omega, rfl, hlt, p'⟩, fun v H' y => ?_⟩
    obtain ⟨T, y1, y2, y3, rfl, hT, rfl, f1, f2, f3⟩ := y
    exact hs i y1 y2 y3 T H (f1 xs1 q1) (f2 xs2 q2) (f3 xs3 q3) hT p
  · have e : i = n := by omega
    subst e
    exact .inl ⟨⟨xs1, xs2, xs3, q1, q2, q3, by omega, by omega, by omega, .inl (by omega)⟩, hd H p⟩
theorem gx_zip3 {α : Type} {K : PySem.W.Frag} {z1 z2 z3 : ZS} {xs1 xs2 xs3 : List V} {n : Nat} {g : TG} {tt : TT} {te : TE} {vs : List Nat} {σ0 : L2.St} {End : α → Hp → Prop} {Yd : α → V → Hp → (α → Hp → Prop) → Prop} {a0 : α} {H0 : Hp} (n1 : xs1.length = n) (n2 : xs2.length = n) (n3 : xs3.length = n) (Pv : Nat → α → Hp → Prop) (h0 : Pv 0 a0 H0) (hl : ∀ i c H, i ≤ n → Pv i c H → z1.at K H xs1 ∧ z2.at K H xs2 ∧ z3.at K H xs3)
    (hs : ∀ (i : Nat) (x1 x2 x3 : V) (T : Addr) (c : α) (H : Hp), xs1[i]? = some x1 → xs2[i]? = some x2 → xs3[i]? = some x3 → H T = none → Pv i c H → g (.ref T) σ0 (upd H T (.tup [x1, x2, x3])) fun σ2 H2 => wipe σ2 vs = σ0 ∧ tt σ2 H2 fun b H3 => if b = true then te σ2 H3 fun y H4 => Yd c y H4 (Pv (i + 1)) else Pv (i + 1) c H3) (hd : ∀ c H, Pv n c H → End c H) :
    ∃ W : Nat → Nat → α → Hp → Prop, (∃ m, W 0 m a0 H0) ∧ tGx (Itz3 K z1 z2 z3) g tt te σ0 vs End Yd W := by
  refine ⟨fun i m c H => m = n - i ∧ i ≤ n ∧ Pv i c H, ⟨n, rfl, Nat.zero_le _, h0⟩, ?_⟩
  rintro i m c H ⟨rfl, hi, p⟩
  obtain ⟨q1, q2, q3⟩ := hl i c H hi p
  by_cases hlt : i < n
  · have e1 : xs1[i]? = some (xs1[i]'(by omega)) := List.getElem?_eq_getElem _
    have e2 : xs2[i]? = some (xs2[i]'(by omega)) := List.getElem?_eq_getElem _
    have e3 : xs3[i]? = some (xs3[i]'(by omega)) := List.getElem?_eq_getElem _
    refine .inr ⟨⟨xs1, xs2, xs3, _, _, _, q1, q2, q3, e1, e2, e3⟩, Pv (i + 1), fun c' H' p' => ⟨n - (i + 1), by omega, rfl, hlt, p'⟩, fun v H' y => ?_⟩
    obtain ⟨T, y1, y2, y3, rfl, hT, rfl, f1, f2, f3⟩ := y
    exact hs i y1 y2 y3 T c H (f1 xs1 q1) (f2 xs2 q2) (f3 xs3 q3) hT p
  · have e : i = n := by omega
    subst e
    exact .inl ⟨⟨xs1, xs2, xs3, q1, q2, q3, by omega, by omega, by omega, .inl (by omega)⟩, hd c H p⟩
end ZpG

section
variable {P : Program} {w : World} {K : PySem.W.Frag} {mg : Str → Option Value} {base : Heap}
theorem Tri.and_num {s t : Tri} (h : s.Ok) (k : t.Ok) : (s.and t).num ≤ s.num + t.num := by
  obtain ⟨f, l, u⟩ := s
  obtain ⟨f', l', u'⟩ := t
  obtain ⟨a, b, c, d⟩ := h
  obtain ⟨a', b', c', d'⟩ := k
  unfold Tri.and Tri.num
  dsimp only at *
  (repeat' split) <;> omega
theorem Tri.all_num : ∀ {ts : List Tri}, (∀ t ∈ ts, t.Ok) → (Tri.all ts).num ≤ (ts.map Tri.num).sum
  | [], _ => Nat.le_refl _
  | t :: r, h => by
    have a := Tri.and_num (h t List.mem_cons_self) (Tri.all_ok fun s hs => h s (List.mem_cons_of_mem _ hs))
    have b := Tri.all_num (ts := r) fun s hs => h s (List.mem_cons_of_mem _ hs)
    rw [List.map_cons, List.sum_cons]
    show (t.and (Tri.all r)).num ≤ _
    omega
theorem Tri.op_num {c : Bool} {ts : List Tri} (h : ∀ t ∈ ts, t.Ok) : (Tri.op c ts).num ≤ (ts.map Tri.num).sum := by
  cases c
  · rw [Tri.op_neg_num h]
    refine Nat.le_trans (Tri.all_num (Tri.map_ok h)) (Nat.le_of_eq ?_)
    rw [List.map_map]
    congr 1
    exact List.map_congr_left fun t ht => Tri.num_neg (h t ht)
  · exact Tri.all_num h
section
variable {a b : List Int}
mutual
theorem Fm.num_le (ha : Row01 a) (hb : Row01 b) : ∀ f : Fm, (f.tri a b).num ≤ f.cnt
  | .st c => by cases c <;> exact Nat.zero_le _
  | .inp i => by
    have x := row_get ha i
    have y := row_get hb i
    show 2 * max (a.getD i 0).toNat (b.getD i 0).toNat - (a.getD i 0).toNat - (b.getD i 0).toNat ≤ 1
    omega
  | .no f => by
    have h := Fm.num_le ha hb f
    show (f.tri a b).neg.num ≤ 1 + f.cnt
    rw [Tri.num_neg (Fm.tri_ok ha hb f)]
    omega
  | .op c fs => by
    have h := Fm.nums_le ha hb fs
    show (Tri.op c (Fm.tris a b fs)).num ≤ 1 + Fm.cnts fs
    have := Tri.op_num (c := c) (Fm.tris_ok ha hb fs)
    omega
theorem Fm.nums_le (ha : Row01 a) (hb : Row01 b) : ∀ fs : List Fm, ((Fm.tris a b fs).map Tri.num).sum ≤ Fm.cnts fs
  | [] => Nat.le_refl _
  | f :: r => by
    have x := Fm.num_le ha hb f
    have y := Fm.nums_le ha hb r
    show (((f.tri a b) :: Fm.tris a b r).map Tri.num).sum ≤ f.cnt + Fm.cnts r
    rw [List.map_cons, List.sum_cons]
    omega
end
end
theorem Fm.inner_cnt {f g : Fm} (h : g ∈ f.inner) : g.cnt ≤ f.cnt := by
  cases f with
  | st b => cases h
  | inp i => cases h
  | no f =>
    rw [List.mem_singleton.mp h]
    show f.cnt ≤ 1 + f.cnt
    omega
  | op c fs =>
    have := Fm.cnts_mem (show g ∈ fs from h)
    show g.cnt ≤ 1 + Fm.cnts fs
    omega
def keyC (c : List Nat) : List Key := c.map fun (n : Nat) => (Sum.inl ((n : Nat) : Int) : Key)
theorem keyC_inj {c d : List Nat} (h : keyC c = keyC d) : c = d := by
  induction c generalizing d with
  | nil => cases d with
    | nil => rfl
    | cons y s => cases h
  | cons x r ih =>
    cases d with
    | nil => cases h
    | cons y s =>
      have e := List.cons.inj (show (Sum.inl ((x : Nat) : Int) : Key) :: keyC r = (Sum.inl ((y : Nat) : Int) : Key) :: keyC s from h)
      have e1 : (x : Int) = y := by
        have := e.1
        injection this
      rw [ih e.2, show x = y by omega]
theorem keyC_kV (c : List Nat) : (keyC c).map kV = (c.map Int.ofNat).map V.int := by
  unfold keyC
  rw [List.map_map, List.map_map]
  rfl
/-- what stands in the dict: the counts gone by, each with its most and its worth -/
def DoneC (C : Bool) (ts : List Tri) (H : Hp) (kvs : List (List Key × V)) (A : List (List Nat)) : Prop := (∀ c ∈ A, ∃ p, valV kvs (keyC c) = some (.ref p) ∧ H p = some (.tup [.int (Gv C ts c : Nat), .int (Hv C ts c : Nat)])) ∧ ∀ c, c ∉ A → valV kvs (keyC c) = none
theorem DoneC.ts {C : Bool} {ts : List Tri} {H H' : Hp} {kvs : List (List Key × V)} {A : List (List Nat)} (h : DoneC C ts H kvs A) (t : Ts H H') : DoneC C ts H' kvs A := ⟨fun c hc => by
  obtain ⟨p, e, hp⟩ := h.1 c hc
  exact ⟨p, e, t _ _ hp⟩, h.2⟩
theorem DoneC.put {C : Bool} {ts : List Tri} {H : Hp} {kvs : List (List Key × V)} {A : List (List Nat)} {c : List Nat} {p : Addr} (h : DoneC C ts H kvs A) (hp : H p = some (.tup [.int (Gv C ts c : Nat), .int (Hv C ts c : Nat)])) : DoneC C ts H (putK kvs (keyC c) (.ref p)) (A ++ [c]) := by
  refine ⟨fun d hd => ?_, fun d hd => ?_⟩
  · rw [valV_put]
    by_cases z : keyC d = keyC c
    · rw [if_pos z, keyC_inj z]
      exact ⟨p, rfl, hp⟩
    · rw [if_neg z]
      rcases List.mem_append.mp hd with y | y
      · exact h.1 d y
      · exact absurd (by rw [List.mem_singleton.mp y]) z
  · rw [valV_put, if_neg (fun z => hd (by rw [keyC_inj z]; exact List.mem_append_right _ (List.mem_singleton.mpr rfl)))]
    exact h.2 d fun z => hd (List.mem_append_left _ z)
theorem put_lenC (kvs : List (List Key × V)) (k : List Key) (v : V) : (putK kvs k v).length ≤ kvs.length + 1 := by
  unfold putK
  split
  · rw [List.length_map]; omega
  · rw [List.length_append]; exact Nat.le_refl _

end
end Gk

set_option Elab.async false
set_option linter.all false
set_option maxRecDepth 100000
set_option maxHeartbeats 1000000
set_option pp.maxSteps 1500
set_option pp.deepTerms false
namespace Gk
open PySem PySem.Spec PyProof.Rows L2
section
variable {P : Program} {w : World} {K : PySem.W.Frag} {mg : Str → Option Value} {base : Heap}
def sp_lmost (K : PySem.W.Frag) (e : Nat) : Sp := fun vs H Q _ => ∃ (v c : V) (f : Fm) (m : Nat) (a b : List Int), vs = [v, c] ∧ Tk H v f.d ∧ f.ok m = true ∧ f.dep ≤ e ∧ f.dep ≤ 22 ∧ f.cnt ≤ 40 ∧ Tk H c (chD a b) ∧ a.length = m ∧ b.length = m ∧ Row01 a ∧ Row01 b ∧ ∀ H', Same H H' → Q (.int ((f.tri a b).num : Nat)) H'
theorem ok_lmostE (T : Tx w K mg) : ∀ e : Nat, FnOk P w K mg base CX0 (e + 26) T.f_most T.fd_most ["_law_form_here", "_law_change_here"] (sp_lmost K e)
  | 0 => ⟨fun _ _ _ _ h => by obtain ⟨_, _, f, _, _, _, _, _, _, h, _⟩ := h; exact absurd h (by have := Fm.dep_pos f; omega), fun _ _ _ _ _ _ _ _ _ _ _ _ _ h => by obtain ⟨_, _, f, _, _, _, _, _, _, h, _⟩ := h; exact absurd h (by have := Fm.dep_pos f; omega)⟩
  | e + 1 => by
    have ih := ok_lmostE T e
    refine T.F_most.ok sc_most (fun vs H Q E h => ?_) (fun cdv A outer s H vs Q E hr h => ?_)
    · obtain ⟨v, c, f, m, a, b, rfl, _⟩ := h
      rfl
    · obtain ⟨v, c, f, m, a, b, rfl, tk, ok, de, de22, ct, tc, la, lb, a01, b01, q⟩ := h
      refine ⟨_, (pss_cons (ps_set (i := 2) sc_most.nd rfl (by first | exact .inl rfl | exact .inr rfl) (pe_ix ix_tup (pv 0) pe_int (fun _ _ => rfl))) (pss_cons (ps_if (pt_cmpR op_eq (pv 2) pe_str (nomark _)) (pss_one (ps_ret (pe_callTy call_int1 (by rfl) T.m_int (by decide +kernel) (pa_cons (pe_cmpR op_ne (pe_ix ix_tup (pe_ix ix_tup (pv 1) pe_int (fun _ _ => rfl)) (pe_ix ix_tup (pv 0) pe_int (fun _ _ => rfl)) (fun _ _ => rfl)) (pe_ix ix_tup (pe_ix ix_tup (pv 1) pe_int (fun _ _ => rfl)) (pe_ix ix_tup (pv 0) pe_int (fun _ _ => rfl)) (fun _ _ => rfl)) (nomark _)) pa_nil)))) pss_nil) (pss_cons (ps_set (i := 3) sc_most.nd rfl (by first | exact .inl rfl | exact .inr rfl) (pe_call (ok_inner T) (hr.mono (by omega)) (by rfl) T.g_inner T.F_inner.kp T.b_inner .nil pass0 (pa_cons (pv 0) pa_nil))) (pss_cons (ps_setLc (i := 4) (own := [("_law_part", 15)]) (by rfl) sc_most.nd rfl rfl (sw_true rfl rfl rfl (by decide +kernel)) (pi_tup (pv 3)) (blkOk_by (own := [("_law_part", 15)]) (N := ["_law_form_here", "_law_change_here", "_law_word_here", "_law_inner_here", "_law_numbers", "_law_firsts", "_law_best", "_law_counts_here", "_law_worths", "_law_here", "_law_most_here", "_law_k", "_law_more", "_law_there", "_law_then", "_law_part", "_law_first", "_law_count_here"]) (sc := defScope s_most) (by decide +kernel)) (fun _ _ _ _ _ => (pg_name (i := 15) sc_most.nd rfl (by first | exact .inl rfl | exact .inr rfl))) (fun _ _ _ _ _ => pts_nil) (fun _ _ _ _ _ => (pe_call (ih) (hr.mono (by omega)) (by rfl) T.g_most T.F_most.kp T.b_most .nil pass0 (pa_cons (pv 15) (pa_cons (pv 1) pa_nil))))) (pss_cons (ps_if (pt_cmpR op_in_seq (pv 2) (pe_tup (pa_cons pe_str (pa_cons pe_str (pa_cons pe_str pa_nil)))) rfl) (pss_one (ps_ret (pe_callB (cr_sum rfl) (by rfl) T.m_sum (by decide +kernel) (pa_cons (pv 4) pa_nil)))) pss_nil) (pss_cons (ps_setLc (i := 5) (own := [("_law_part", 15)]) (by rfl) sc_most.nd rfl rfl (sw_true rfl rfl rfl (by decide +kernel)) (pi_tup (pv 3)) (blkOk_by (own := [("_law_part", 15)]) (N := ["_law_form_here", "_law_change_here", "_law_word_here", "_law_inner_here", "_law_numbers", "_law_firsts", "_law_best", "_law_counts_here", "_law_worths", "_law_here", "_law_most_here", "_law_k", "_law_more", "_law_there", "_law_then", "_law_part", "_law_first", "_law_count_here"]) (sc := defScope s_most) (by decide +kernel)) (fun _ _ _ _ _ => (pg_name (i := 15) sc_most.nd rfl (by first | exact .inl rfl | exact .inr rfl))) (fun _ _ _ _ _ => pts_nil) (fun _ _ _ _ _ => (pe_call (ok_worth T) (hr.mono (by omega)) (by rfl) T.g_worth T.F_worth.kp T.b_worth .nil pass0 (pa_cons (pv 15) (pa_cons (pe_ix (show IxR _ (rIxT K) from ix_tup) (pv 1) pe_int (fun _ _ => rfl)) pa_nil))))) (pss_cons (ps_set (i := 6) sc_most.nd rfl (by first | exact .inl rfl | exact .inr rfl) pe_dnewT) (pss_cons (ps_for PassesOwn.never rfl (pi_list (pe_call (ok_counts T) (hr.mono (by omega)) (by rfl) T.g_counts T.F_counts.kp T.b_counts .nil pass0 (pa_cons (pv 4) pa_nil))) (pg_name (i := 7) sc_most.nd rfl (by first | exact .inl rfl | exact .inr rfl)) (pss_cons (ps_setLc (i := 8) (own := [("_law_first", 16), ("_law_count_here", 17)]) (by rfl) sc_most.nd rfl rfl (sw_true rfl rfl rfl (by decide +kernel)) (ZpG.pi_zip2 (by rfl) T.m_zip (pa_cons (pv 5) (pa_cons (pv 7) pa_nil))) (blkOk_by (own := [("_law_first", 16), ("_law_count_here", 17)]) (N := ["_law_form_here", "_law_change_here", "_law_word_here", "_law_inner_here", "_law_numbers", "_law_firsts", "_law_best", "_law_counts_here", "_law_worths", "_law_here", "_law_most_here", "_law_k", "_law_more", "_law_there", "_law_then", "_law_part", "_law_first", "_law_count_here"]) (sc := defScope s_most) (by decide +kernel)) (fun _ _ _ _ _ => (show PG _ _ (gTup K 2 _) from pg_tup rfl (pgs_cons (pg_name (i := 16) sc_most.nd rfl (by first | exact .inl rfl | exact .inr rfl)) (pgs_cons (pg_name (i := 17) sc_most.nd rfl (by first | exact .inl rfl | exact .inr rfl)) pgs_nil)))) (fun _ _ _ _ _ => pts_nil) (fun _ _ _ _ _ => (pe_op op_mod (pe_op op_add (pv 16) (pv 17)) pe_int))) (pss_cons (ps_set (i := 9) sc_most.nd rfl (by first | exact .inl rfl | exact .inr rfl) (pe_ix ix_list (pe_lst (pa_cons (pe_callTy call_int1 (by rfl) T.m_int (by decide +kernel) (pa_cons (pe_cmpR op_notIn_seq pe_int (pv 8) rfl) pa_nil)) (pa_cons (pe_callTy call_int1 (by rfl) T.m_int (by decide +kernel) (pa_cons (pe_cmpR op_in_seq pe_int (pv 8) rfl) pa_nil)) pa_nil))) (pe_callTy call_int1 (by rfl) T.m_int (by decide +kernel) (pa_cons (pe_cmpR op_eq (pv 2) pe_str (nomark _)) pa_nil)) (fun _ _ => rfl))) (pss_cons (ps_set (i := 10) sc_most.nd rfl (by first | exact .inl rfl | exact .inr rfl) pe_int) (pss_cons (ps_for PassesOwn.never rfl (pi_range1 (by rfl) T.m_range (pa_cons (pe_callB call_len_seq (by rfl) T.m_len PySem.boot_len (pa_cons (pv 7) pa_nil)) pa_nil)) (pg_name (i := 11) sc_most.nd rfl (by first | exact .inl rfl | exact .inr rfl)) (pss_cons (ps_set (i := 12) sc_most.nd rfl (by first | exact .inl rfl | exact .inr rfl) (pe_op op_catA (pe_op op_catA (pe_slice sl_tupA (pv 7) po_none (po_some (pv 11))) (pe_tup (pa_cons (pe_op op_add (pe_ix ix_tup (pv 7) (pv 11) (fun _ _ => rfl)) pe_int) pa_nil))) (pe_slice sl_tupA (pv 7) (po_some (pe_op op_add (pv 11) pe_int)) po_none))) (pss_one (ps_if (pt_cmp (pc_din (hu_of hr) (pv 12) (pv 6))) (pss_cons (ps_asg (pe_dget (hu_of hr) (pv 6) (pv 12) (fun _ _ => rfl)) (pg_tup rfl (pgs_cons (pg_name (i := 13) sc_most.nd rfl (by first | exact .inl rfl | exact .inr rfl)) (pgs_cons (pg_name (i := 14) sc_most.nd rfl (by first | exact .inl rfl | exact .inr rfl)) pgs_nil)))) (pss_one (ps_set (i := 10) sc_most.nd rfl (by first | exact .inl rfl | exact .inr rfl) (pe_callB (call_max2 rfl) (by rfl) T.m_max (by decide +kernel) (pa_cons (pv 10) (pa_cons (pe_op op_add (pv 13) (pe_callTy call_int1 (by rfl) T.m_int (by decide +kernel) (pa_cons (pe_cmpR op_ne (pv 14) (pv 9) (nomark _)) pa_nil))) pa_nil)))))) pss_nil)))) (pss_one (ps_dput (hu_of hr) (pv 6) (pv 7) (pe_tup (pa_cons (pv 10) (pa_cons (pv 9) pa_nil))) rfl))))))) (pss_one (ps_ret (pe_ix ix_tup (pe_dget (hu_of hr) (pv 6) (pe_op op_repT (pe_tup (pa_cons pe_int pa_nil)) (pe_callB call_len_seq (by rfl) T.m_len PySem.boot_len (pa_cons (pv 4) pa_nil))) (fun _ _ => rfl)) pe_int (fun _ _ => rfl)))))))))))), ?_⟩
      obtain ⟨c, ra, rb, rfl, hc, hra, hrb⟩ := tc.ch_inv
      have key : (∃ i, f = .inp i) ∨ ∃ ad z rest, v = .ref ad ∧ H ad = some (.tup (.str z :: rest)) ∧ z ≠ wIn ∧ ((∃ b', f = .st b' ∧ z = wSt b') ∨ (∃ g, f = .no g ∧ z = wNot) ∨ ∃ cc fs, f = .op cc fs ∧ z = wOp cc) := by
        cases f with
        | st b' =>
          obtain ⟨ad, rfl, ha⟩ := Fm.tk_st tk
          exact .inr ⟨ad, _, _, rfl, ha, by cases b' <;> decide +kernel, .inl ⟨b', rfl, rfl⟩⟩
        | inp i => exact .inl ⟨i, rfl⟩
        | no f =>
          obtain ⟨ad, w', rfl, ha, _⟩ := Fm.tk_no tk
          exact .inr ⟨ad, _, _, rfl, ha, by decide +kernel, .inr (.inl ⟨f, rfl, rfl⟩)⟩
        | op cc fs =>
          obtain ⟨ad, bq, ys, rfl, ha, _⟩ := Fm.tk_op tk
          exact .inr ⟨ad, _, _, rfl, ha, by cases cc <;> decide +kernel, .inr (.inr ⟨cc, fs, rfl, rfl⟩)⟩
      rcases key with ⟨i, rfl⟩ | ⟨ad, z, rest, rfl, ha, n1, sorts⟩
      · obtain ⟨ad, rfl, ha⟩ := Fm.tk_inp tk
        refine ⟨.ref ad, rfl, ad, _, 0, .str wIn, rfl, rfl, SqT.of ha, rfl, ?_⟩
        refine ⟨.str wIn, rfl, rfl, _, rfl, ite2 (fun _ => ?_) (fun k => absurd (decide_eq_true rfl) k)⟩
        have hi : i < m := of_decide_eq_true ok
        have ga : ∃ x : Bool, a.getD i 0 = bi x := by
          rcases row_get a01 i with z | z
          · exact ⟨false, z⟩
          · exact ⟨true, z⟩
        have gb : ∃ x : Bool, b.getD i 0 = bi x := by
          rcases row_get b01 i with z | z
          · exact ⟨false, z⟩
          · exact ⟨true, z⟩
        obtain ⟨x, ex⟩ := ga
        obtain ⟨y, ey⟩ := gb
        have ata : atI (a.map V.int) (i : Int) = some (.int (bi x)) := atI_nat (by rw [List.getElem?_map, ← ex, List.getD_eq_getElem?_getD, List.getElem?_eq_getElem (by omega)]; rfl)
        have atb : atI (b.map V.int) (i : Int) = some (.int (bi y)) := atI_nat (by rw [List.getElem?_map, ← ey, List.getD_eq_getElem?_getD, List.getElem?_eq_getElem (by omega)]; rfl)
        have q := q H (Same.refl _)
        have et : (((Fm.inp i).tri a b).num : Int) = (if (!decide (V.int (bi x) = V.int (bi y))) = true then (1 : Int) else 0) := by
          show ((2 * max (a.getD i 0).toNat (b.getD i 0).toNat - (a.getD i 0).toNat - (b.getD i 0).toNat : Nat) : Int) = _
          rw [ex, ey]
          cases x <;> cases y <;> simp [bi]
        rw [et] at q
        exact ⟨.ref c, rfl, c, _, 0, .ref ra, rfl, rfl, SqT.of hc, rfl, .ref ad, rfl, ad, _, 1, .int i, rfl, rfl, SqT.of ha, rfl, ra, _, i, _, rfl, rfl, SqT.of hra, ata, .ref c, rfl, c, _, 1, .ref rb, rfl, rfl, SqT.of hc, rfl, .ref ad, rfl, ad, _, 1, .int i, rfl, rfl, SqT.of ha, rfl, rb, _, i, _, rfl, rfl, SqT.of hrb, atb, rfl, .inr ⟨_, rfl, q⟩⟩
      refine ⟨.ref ad, rfl, ad, _, ((0 : Nat) : Int), .str z, rfl, rfl, SqT.of ha, atI_nat rfl, ?_⟩
      refine ⟨.str z, rfl, rfl, _, rfl, ite2 (fun e => absurd (V.str.inj (of_decide_eq_true e)) n1) (fun _ => ?_)⟩
      refine ⟨.ref ad, rfl, .ref ad, f, rfl, tk, fun H1 bb xs s1 hb txs => ?_⟩
      have lxs : xs.length = f.inner.length := by rw [txs.length, List.length_map]
      have few : f.inner.length ≤ 4 := Fm.inner_few ok
      have tc1 := tc.same s1
      have ofl : ∀ l : List Nat, l.length ≤ 4 → ((l.map Int.ofNat).map V.int).length < sizeLine := fun l hl => by
        rw [List.length_map, List.length_map]
        exact Nat.lt_of_le_of_lt hl (by decide)
      refine ⟨.ref bb, rfl, bb, rfl, ⟨_, SqT.of hb⟩, fun D nD => ?_⟩
      refine lc_tup (K := K) (a := bb) (xs := xs) (fun i H' => Same H1 (hd1 D H') ∧ H' D = some (.lst (((((f.inner.take i).map (Fm.tri a b)).map Tri.num).map Int.ofNat).map V.int))) ⟨hd1_of (same_upd nD) nD, upd_same⟩ (fun i H' _ z => SqT.of (hd1_le _ _ (z.1 _ _ hb))) ?_ ?_
      · rintro i u H2 hu ⟨s2, hD⟩
        obtain ⟨g, hg, tg⟩ := txs.at hu
        have gm := List.mem_of_getElem? hg
        have k2 : Same H1 H2 := fun b o z => hd1_le _ _ (s2 b o z)
        have il := (List.getElem?_eq_some_iff.mp hg).1
        refine ⟨rfl, u, rfl, .ref c, rfl, u, .ref c, g, m, a, b, rfl, tg.same k2, Fm.inner_ok ok gm, by have := Fm.inner_dep gm; omega, by have := Fm.inner_dep gm; omega, Nat.le_trans (Fm.inner_cnt gm) ct, tc1.same k2, la, lb, a01, b01, fun H3 s3 => ⟨_, s3 _ _ hD, ofl _ ?_, (s2.trans (hd1_same s3)).trans hd1_upd, ?_⟩⟩
        · rw [List.length_map, List.length_map, List.length_take]
          omega
        · rw [upd_same, List.take_add_one, hg, List.map_append, List.map_append, List.map_append, List.map_append]
          rfl
      rintro H2 ⟨s2, hD⟩
      rw [lxs, List.take_length] at hD
      have k2 : Same H1 H2 := fun b o z => hd1_le _ _ (s2 b o z)
      have s02 := s1.trans k2
      refine ⟨.str z, rfl, sl3, fun p np => ?_⟩
      have s3 := same_upd (o := (HO.tup [V.str (Str.ofString "one"), V.str (Str.ofString "nought"), V.str (Str.ofString "not")])) np
      have h3 : upd H2 p (HO.tup [V.str (Str.ofString "one"), V.str (Str.ofString "nought"), V.str (Str.ofString "not")]) p = some (HO.tup [V.str (Str.ofString "one"), V.str (Str.ofString "nought"), V.str (Str.ofString "not")]) := upd_same
      generalize upd H2 p (HO.tup [V.str (Str.ofString "one"), V.str (Str.ofString "nought"), V.str (Str.ofString "not")]) = H3 at s3 h3 ⊢
      have in3 : (if false = true then !inV (.str z) [V.str (Str.ofString "one"), V.str (Str.ofString "nought"), V.str (Str.ofString "not")] else inV (.str z) [V.str (Str.ofString "one"), V.str (Str.ofString "nought"), V.str (Str.ofString "not")]) = (decide (z = wOne) || (decide (z = wNou) || decide (z = wNot))) := by
        rw [if_neg (by decide)]
        show (decide (wOne = z) || (decide (wNou = z) || (decide (wNot = z) || false))) = _
        rw [Bool.or_false, decide_eq_decide.mpr (eq_comm (a := wOne)), decide_eq_decide.mpr (eq_comm (a := wNou)), decide_eq_decide.mpr (eq_comm (a := wNot))]
      refine ⟨p, _, rfl, .inr (SqT.of h3), rfl, rfl, _, rfl, ?_⟩
      rw [in3]
      have s03 := s02.trans s3
      rcases sorts with ⟨b', rfl, rfl⟩ | ⟨g, rfl, rfl⟩ | ⟨C, fs, rfl, rfl⟩
      · refine ite2 (fun _ => ?_) (fun k => absurd (by cases b' <;> decide +kernel) k)
        refine ⟨.ref D, rfl, D, [], rfl, SqL.of (s3 _ _ hD), ?_⟩
        have q := q H3 s03
        cases b' <;> exact q
      · refine ite2 (fun _ => ?_) (fun k => absurd (by decide +kernel) k)
        refine ⟨.ref D, rfl, D, [(((g.tri a b).num : Nat) : Int)], rfl, SqL.of (s3 _ _ hD), ?_⟩
        have q := q H3 s03
        have e : (((Fm.no g).tri a b).num : Int) = [(((g.tri a b).num : Nat) : Int)].sum := by
          show (((g.tri a b).neg.num : Nat) : Int) = _
          rw [Tri.num_neg (Fm.tri_ok a01 b01 g)]
          simp
        rw [e] at q
        exact q
      refine ite2 (fun k => absurd k (by cases C <;> decide +kernel)) (fun _ => ?_)
      have fs2 : 2 ≤ fs.length := by
        have h : ((decide (2 ≤ fs.length) && decide (fs.length ≤ 4)) && Fm.oks m fs) = true := ok
        exact of_decide_eq_true (Bool.and_eq_true_iff.mp (Bool.and_eq_true_iff.mp h).1).1
      have ei : (Fm.op C fs).inner = fs := rfl
      obtain ⟨ts, hts⟩ : ∃ ts, ts = fs.map (Fm.tri a b) := ⟨_, rfl⟩
      have et : (Fm.op C fs).tri a b = Tri.op C ts := by rw [hts]; exact Fm.tri_app C fs
      rw [et] at q
      have oks : ∀ t ∈ ts, t.Ok := by rw [hts]; exact Fm.map_ok a01 b01 fs
      have lts : ts.length = fs.length := by rw [hts, List.length_map]
      rw [ei, ← hts] at hD
      rw [ei] at few
      have t40 : ∀ n ∈ ts.map Tri.num, n ≤ 40 := fun n hn => by
        rw [hts, List.map_map] at hn
        obtain ⟨g, hg, rfl⟩ := List.mem_map.mp hn
        have := Fm.num_le a01 b01 g
        have := Fm.inner_cnt (f := Fm.op C fs) (g := g) hg
        show (g.tri a b).num ≤ 40
        omega
      have hb3 := s3 _ _ (k2 _ _ hb)
      refine ⟨.ref bb, rfl, bb, rfl, ⟨_, SqT.of hb3⟩, fun F nF => ?_⟩
      refine lc_tup (K := K) (a := bb) (xs := xs) (fun i H' => Same H3 (hd1 F H') ∧ H' F = some (.lst (((((fs.take i).map (Fm.tri a b)).map Tri.f).map Int.ofNat).map V.int))) ⟨hd1_of (same_upd nF) nF, upd_same⟩ (fun i H' _ z => SqT.of (hd1_le _ _ (z.1 _ _ hb3))) ?_ ?_
      · rintro i u H4 hu ⟨s4, hF⟩
        obtain ⟨g, hg, tg⟩ := txs.at hu
        have hg : fs[i]? = some g := hg
        have gm := List.mem_of_getElem? hg
        have k4 : Same H3 H4 := fun b o z => hd1_le _ _ (s4 b o z)
        have s14 := (k2.trans s3).trans k4
        have s04 := s03.trans k4
        have ef := Fm.tri_f a01 b01 g
        have il := (List.getElem?_eq_some_iff.mp hg).1
        refine ⟨rfl, u, rfl, .ref c, rfl, c, _, 0, .ref ra, rfl, rfl, SqT.of (s04 _ _ hc), rfl, u, g, m, ra, a, rfl, tg.same s14, Fm.inner_ok ok (show g ∈ (Fm.op C fs).inner from gm), by have := Fm.inner_dep (show g ∈ (Fm.op C fs).inner from gm); omega, s04 _ _ hra, la, a01, fun H5 s5 => ⟨_, s5 _ _ hF, ofl _ ?_, (s4.trans (hd1_same s5)).trans hd1_upd, ?_⟩⟩
        · rw [List.length_map, List.length_map, List.length_take]
          omega
        · rw [upd_same, List.take_add_one, hg, List.map_append, List.map_append, List.map_append, List.map_append, ← ef]
          rfl
      rintro H4 ⟨s4, hF⟩
      have lx2 : xs.length = fs.length := lxs
      rw [lx2, List.take_length, ← hts] at hF
      have k4 : Same H3 H4 := fun b o z => hd1_le _ _ (s4 b o z)
      have hD4 := k4 _ _ (s3 _ _ hD)
      refine fun db ndb => ?_
      have s5 := same_upd (o := (HO.dT [])) ndb
      have h5 : upd H4 db (HO.dT []) db = some (HO.dT []) := upd_same
      generalize upd H4 db (HO.dT []) = H5 at s5 h5 ⊢
      have s05 := s03.trans (k4.trans s5)
      refine ⟨.ref D, rfl, D, ts.map Tri.num, rfl, s5 _ _ hD4, t40, by rw [List.length_map, lts]; exact few, fun r H6 cv nr s6 hr6 tcv => ⟨r, rfl, ⟨_, SqL.of hr6⟩, ?_⟩⟩
      have hdb6 := s6 _ _ h5
      have hF6 := s6 _ _ (s5 _ _ hF)
      have hD6 := s6 _ _ (s5 _ _ hD4)
      have neL : ∀ {b : Addr} {ys : List V}, H6 b = some (.lst ys) → b ≠ db := fun h => ne_of h hdb6 (by intro z; cases z)
      have neT : ∀ {b : Addr} {ys : List V}, H6 b = some (.tup ys) → b ≠ db := fun h => ne_of h hdb6 (by intro z; cases z)
      have upb : ∀ {H' : Hp}, Same (hd1 db H6) (hd1 db H') → ∀ b o, b ≠ db → H6 b = some o → H' b = some o := fun s b o ne e => hd1_le _ _ (s _ _ (by rw [hd1_at ne]; exact e))
      have lcv : cv.length = (countsM (ts.map Tri.num)).length := by rw [tcv.length, List.length_map]
      have big : (countsM (ts.map Tri.num)).length ≤ 2825761 := by
        have := countsM_len t40 (ts.map Tri.num).length (Nat.le_refl _)
        rw [List.take_length] at this
        refine Nat.le_trans this (Nat.le_trans (Nat.pow_le_pow_right (by decide) (show (ts.map Tri.num).length ≤ 4 by rw [List.length_map, lts]; exact few)) (by decide))
      refine for_list (K := K) (a := r) (xs := cv) (fun j σ H' => ∃ kvs y7 y8 y9 y10 y11 y12 y13 y14, σ = [some (.ref ad), some (.ref c), some (.str (wOp C)), some (.ref bb), some (.ref D), some (.ref F), some (.ref db), y7, y8, y9, y10, y11, y12, y13, y14, none, none, none] ∧ Same (hd1 db H6) (hd1 db H') ∧ H' db = some (.dT kvs) ∧ kvs.length ≤ j ∧ DoneC C ts H' kvs ((countsM (ts.map Tri.num)).take j)) ⟨[], _, _, _, _, _, _, _, _, rfl, Same.refl _, hdb6, Nat.zero_le _, ⟨fun c h => (by cases h), fun c _ => rfl⟩⟩ (fun j σ H' _ ⟨_, _, _, _, _, _, _, _, _, _, s, _⟩ => SqL.of (upb s _ _ (neL hr6) hr6)) ?_ ?_
      rotate_left
      · rintro σ H7 ⟨kvs, y7, y8, y9, y10, y11, y12, y13, y14, rfl, s7, hdb, lk, dn⟩
        rw [lcv, List.take_length] at dn
        refine ⟨.ref db, rfl, sl1, fun p1 np1 => ?_⟩
        have s8 := same_upd (o := (HO.tup [V.int 0])) np1
        have h8 : upd H7 p1 (HO.tup [V.int 0]) p1 = some (HO.tup [V.int 0]) := upd_same
        generalize upd H7 p1 (HO.tup [V.int 0]) = H8 at s8 h8 ⊢
        have hD8 := s8 _ _ (upb s7 _ _ (neL hD6) hD6)
        refine ⟨.ref D, rfl, D, _, rfl, .inl (SqL.of hD8), p1, _, _, rfl, rfl, SqT.of h8, List.cons_ne_nil _ _, ?_, ?_, (show [V.int 0].length ≤ 1000 from (show 1 ≤ 1000 by decide)), fun p2 np2 => ?_⟩
        · rw [List.length_map, List.length_map, List.length_map, lts]; omega
        · rw [List.length_map, List.length_map, List.length_map, lts]; omega
        have nt := none_same s8 np2
        have ez : (List.replicate (((((ts.map Tri.num).map Int.ofNat).map V.int).length : Nat) : Int).toNat [V.int 0]).flatten = (keyC (List.replicate ts.length 0)).map kV := by
          rw [List.length_map, List.length_map, List.length_map, Int.toNat_natCast, keyC_kV]
          have : ∀ n : Nat, (List.replicate n [V.int 0]).flatten = ((List.replicate n 0).map Int.ofNat).map V.int := fun n => by
            induction n with
            | zero => rfl
            | succ n ih =>
              rw [List.replicate_succ, List.flatten_cons, ih, List.replicate_succ]
              rfl
          exact this _
        have s9 := same_upd (o := HO.tup (List.replicate (((((ts.map Tri.num).map Int.ofNat).map V.int).length : Nat) : Int).toNat [V.int 0]).flatten) np2
        obtain ⟨pv, ev, hpv⟩ := dn.1 _ (zeros_counts ts)
        refine ⟨db, .ref pv, rfl, by rw [← ev]; exact DGet.t (s9 _ _ (s8 _ _ hdb)) (by rw [upd_same, ez]), pv, _, 0, _, rfl, rfl, SqT.of (s9 _ _ (s8 _ _ hpv)), rfl, ?_⟩
        have eg : Gv C ts (List.replicate ts.length 0) = (Tri.op C ts).num := by unfold Gv; rw [asM_zero]
        rw [eg]
        refine q _ fun b o e => ?_
        have nb : b ≠ db := ne_of_none (s03.trans k4 _ _ e) ndb
        exact s9 _ _ (s8 _ _ (upb s7 _ _ nb (s6 _ _ (s05 _ _ e))))
      rintro j x σ H7 hx ⟨kvs, y7, y8, y9, y10, y11, y12, y13, y14, rfl, s7, hdb, lk, dn⟩
      obtain ⟨cs, hcs, tcs⟩ := tcv.at hx
      obtain ⟨ca, rfl, hca⟩ := Tk.row_inv tcs
      have jl := (List.getElem?_eq_some_iff.mp hcs).1
      have spl := split_at hcs
      have vc : Val ts cs := counts_val (List.mem_of_getElem? hcs)
      have hca7 := upb s7 _ _ (neT hca) hca
      have hF7 := upb s7 _ _ (neL hF6) hF6
      have aoks := vc.oks oks
      have lcs := vc.1
      refine ⟨.ref F, rfl, .ref ca, rfl, .li F, .tu ca, _, _, rfl, SqL.of hF7, SqT.of hca7, fun W nW => ?_⟩
      have lasM : (asM ts cs).length = ts.length := by unfold asM; rw [List.length_zipWith, lcs, Nat.min_self]
      refine ZpG.lc_zip2 (K := K) (z1 := .li F) (z2 := .tu ca) (xs1 := ((ts.map Tri.f).map Int.ofNat).map V.int) (xs2 := (cs.map Int.ofNat).map V.int) (n := ts.length) (by rw [List.length_map, List.length_map, List.length_map]) (by rw [List.length_map, List.length_map, lcs]) (fun k H' => Same H7 (hd1 W H') ∧ H' W = some (.lst (((((asM ts cs).take k).map Tri.f).map Int.ofNat).map V.int))) ⟨hd1_of (same_upd nW) nW, upd_same⟩ (fun k H' _ z => ⟨SqL.of (hd1_le _ _ (z.1 _ _ hF7)), SqT.of (hd1_le _ _ (z.1 _ _ hca7))⟩) ?_ ?_
      · rintro k x1 x2 Tq H8 hx1 hx2 nT ⟨s8, hW⟩
        obtain ⟨t, ht, rfl⟩ : ∃ t, ts[k]? = some t ∧ x1 = .int ((t.f : Nat) : Int) := by
          rw [List.getElem?_map, List.getElem?_map, List.getElem?_map] at hx1
          cases e : ts[k]? with
          | none => rw [e] at hx1; cases hx1
          | some t => rw [e] at hx1; exact ⟨t, rfl, (Option.some.inj hx1).symm⟩
        obtain ⟨n, hn, rfl⟩ : ∃ n : Nat, cs[k]? = some n ∧ x2 = .int (n : Nat) := by
          rw [List.getElem?_map, List.getElem?_map] at hx2
          cases e : cs[k]? with
          | none => rw [e] at hx2; cases hx2
          | some n => rw [e] at hx2; exact ⟨n, rfl, (Option.some.inj hx2).symm⟩
        have kl := (List.getElem?_eq_some_iff.mp ht).1
        have sT := same_upd (o := HO.tup [V.int ((t.f : Nat) : Int), V.int (n : Nat)]) nT
        have nle : n ≤ t.num := by
          have := vc.2 k t ht
          rw [List.getD_eq_getElem?_getD, hn] at this
          exact this
        have ha2 : (asM ts cs)[k]? = some (t.aft n) := by unfold asM; rw [List.getElem?_zipWith, ht, hn]
        have ef := (Tri.aft_ok (oks t (List.mem_of_getElem? ht)) nle).2.2
        refine ⟨Tq, _, rfl, SqT.of upd_same, rfl, _, _, rfl, _, _, rfl, rfl, rfl, ?_⟩
        refine ⟨.int ((t.f : Nat) : Int), rfl, .int (n : Nat), rfl, _, _, rfl, rfl, _, _, rfl, rfl, (show (0 : Int) < 2 by decide), _, sT _ _ hW, ofl _ ?_, (s8.trans (hd1_same sT)).trans hd1_upd, ?_⟩
        · rw [List.length_map, List.length_take]
          omega
        · rw [upd_same, List.take_add_one, ha2, List.map_append, List.map_append, List.map_append]
          show some (HO.lst (_ ++ [V.int (((t.f : Int) + (n : Int)) % 2)])) = some (HO.lst (_ ++ [V.int (((t.aft n).f : Nat) : Int)]))
          rw [ef]
          congr 4
      rintro H8 ⟨s8, hW⟩
      rw [← lasM, List.take_length] at hW
      have s78 : Same H7 H8 := fun b o z => hd1_le _ _ (s8 b o z)
      have scal : ∀ ns : List Int, (ns.map V.int).all flatV = true := fun ns => List.all_eq_true.mpr fun x hx => by
        obtain ⟨y, _, rfl⟩ := List.mem_map.mp hx
        rfl
      have isin : ∀ (k : Nat) (ns : List Nat), inV (.int ((k : Nat) : Int)) ((ns.map Int.ofNat).map V.int) = decide (k ∈ ns) := fun k ns => by
        induction ns with
        | nil => rfl
        | cons y s ih =>
          show (eqV (.int (Int.ofNat y)) (.int ((k : Nat) : Int)) || inV (.int ((k : Nat) : Int)) ((s.map Int.ofNat).map V.int)) = _
          rw [ih]
          have e : eqV (.int (Int.ofNat y)) (.int ((k : Nat) : Int)) = decide ((Int.ofNat y) = ((k : Nat) : Int)) := by
            first
              | rfl
              | simp [eqV]
          rw [e, Bool.eq_iff_iff, Bool.or_eq_true, decide_eq_true_eq, decide_eq_true_eq, decide_eq_true_eq, List.mem_cons]
          constructor
          · rintro (h | h)
            · left
              have h : (y : Int) = (k : Int) := h
              omega
            · exact .inr h
          · rintro (h | h)
            · left
              rw [h]
              rfl
            · exact .inr h
      refine ⟨.ref W, rfl, W, _, rfl, .inl (SqL.of hW), rfl, scal _, .inr ⟨_, rfl, .ref W, rfl, W, _, rfl, .inl (SqL.of hW), rfl, scal _, .inr ⟨_, rfl, sl2, fun L nL => ?_⟩⟩⟩
      have in0 := isin 0 ((asM ts cs).map Tri.f)
      have in1 := isin 1 ((asM ts cs).map Tri.f)
      rw [if_pos rfl, if_neg Bool.false_ne_true]
      rw [show (V.int 0) = V.int ((0 : Nat) : Int) from rfl, show (V.int 1) = V.int ((1 : Nat) : Int) from rfl, in0, in1]
      have s9 := same_upd (o := HO.lst [V.int (if (!decide (0 ∈ (asM ts cs).map Tri.f)) = true then 1 else 0), V.int (if (decide (1 ∈ (asM ts cs).map Tri.f)) = true then 1 else 0)]) nL
      have hh : atI [V.int (if (!decide (0 ∈ (asM ts cs).map Tri.f)) = true then 1 else 0), V.int (if (decide (1 ∈ (asM ts cs).map Tri.f)) = true then 1 else 0)] (if decide (V.str (wOp C) = V.str (Str.ofString "or")) = true then 1 else 0) = some (.int ((Hv C ts cs : Nat) : Int)) := by
        have e := op_f C (asM ts cs) aoks
        unfold Hv
        rw [e]
        cases C
        · have ex : (if decide (V.str (wOp false) = V.str (Str.ofString "or")) = true then (1 : Int) else 0) = 1 := by rw [decide_eq_true (show V.str (wOp false) = V.str (Str.ofString "or") from rfl)]; rfl
          rw [ex, if_neg Bool.false_ne_true]
          refine (at_1 _ _ _).trans ?_
          by_cases h : 1 ∈ (asM ts cs).map Tri.f
          · rw [if_pos h, decide_eq_true h]; rfl
          · rw [if_neg h, decide_eq_false h]; rfl
        · have ex : (if decide (V.str (wOp true) = V.str (Str.ofString "or")) = true then (1 : Int) else 0) = 0 := by rw [decide_eq_false (show ¬ V.str (wOp true) = V.str (Str.ofString "or") from fun z => absurd (V.str.inj z) (by decide +kernel))]; rfl
          rw [ex, if_pos (rfl : true = true)]
          refine (at_0 _ _).trans ?_
          by_cases h : 0 ∈ (asM ts cs).map Tri.f
          · rw [if_pos h, decide_eq_true h]; rfl
          · rw [if_neg h, decide_eq_false h]; rfl
      refine ⟨.str (wOp C), rfl, rfl, .inr ⟨_, rfl, L, _, _, _, rfl, rfl, SqL.of upd_same, hh, ?_⟩⟩
      have s79 := s78.trans s9
      revert s79
      generalize upd H8 L _ = H9
      intro s79
      have hca9 := s79 _ _ hca7
      have hdb9 := s79 _ _ hdb
      have dn9 := dn.ts (Ts.same s79)
      refine ⟨.ref ca, rfl, ca, _, rfl, .inr (SqT.of hca9), _, rfl, ?_, ?_, ?_⟩
      · rw [List.length_map, List.length_map, lcs, lts]; omega
      · rw [List.length_map, List.length_map, lcs, lts]; omega
      have eln : ((((cs.map Int.ofNat).map V.int).length : Nat) : Int).toNat = ts.length := by rw [List.length_map, List.length_map, lcs, Int.toNat_natCast]
      refine for_range (lo := 0) (n := ((((cs.map Int.ofNat).map V.int).length : Nat) : Int).toNat) (fun k σ H' => ∃ (mh : Nat) (y11 y12 y13 y14 : Option V), σ = [some (.ref ad), some (.ref c), some (.str (wOp C)), some (.ref bb), some (.ref D), some (.ref F), some (.ref db), some (.ref ca), some (.ref W), some (.int ((Hv C ts cs : Nat) : Int)), some (.int (mh : Nat)), y11, y12, y13, y14, none, none, none] ∧ Same H9 H' ∧ mh ≤ Gv C ts cs ∧ ∀ (i : Nat) (t : Tri), i < k → ts[i]? = some t → cs.getD i 0 < t.num → Gv C ts (inc1 cs i) + (if Hv C ts (inc1 cs i) = Hv C ts cs then 0 else 1) ≤ mh) ⟨0, _, _, _, _, rfl, Same.refl _, Nat.zero_le _, fun i t h => by omega⟩ ?_ ?_
      rotate_left
      · rintro σ HA ⟨mh, y11, y12, y13, y14, rfl, sA, up, all⟩
        rw [eln] at all
        have em : mh = Gv C ts cs := by
          rcases Gv_eq (C := C) oks vc with z | ⟨k, t, ht, lt, e⟩
          · omega
          · have := all k t (List.getElem?_eq_some_iff.mp ht).1 ht lt
            omega
        subst em
        refine ⟨.int ((Gv C ts cs : Nat) : Int), rfl, .int ((Hv C ts cs : Nat) : Int), rfl, sl2, fun pn npn => ?_⟩
        have sB := same_upd (o := (HO.tup [V.int ((Gv C ts cs : Nat) : Int), V.int ((Hv C ts cs : Nat) : Int)])) npn
        have hB : upd HA pn (HO.tup [V.int ((Gv C ts cs : Nat) : Int), V.int ((Hv C ts cs : Nat) : Int)]) pn = some (HO.tup [V.int ((Gv C ts cs : Nat) : Int), V.int ((Hv C ts cs : Nat) : Int)]) := upd_same
        generalize upd HA pn (HO.tup [V.int ((Gv C ts cs : Nat) : Int), V.int ((Hv C ts cs : Nat) : Int)]) = HB at sB hB ⊢
        have s7B := s79.trans (sA.trans sB)
        have hdbB := s7B _ _ hdb
        refine ⟨.ref db, rfl, .ref ca, rfl, db, _, rfl, DPut.t (k := keyC cs) hdbB (by rw [keyC_kV]; exact s7B _ _ hca7) (Nat.lt_of_le_of_lt lk (Nat.lt_of_lt_of_le jl (Nat.le_trans big (by decide)))), ?_⟩
        refine ⟨_, _, _, _, _, _, _, _, _, rfl, (s7.trans (hd1_same s7B)).trans hd1_upd, upd_same, Nat.le_trans (put_lenC _ _ _) (Nat.succ_le_succ lk), ?_⟩
        rw [List.take_add_one, hcs]
        have tsB : Ts HB (upd HB db (HO.dT (putK kvs (keyC cs) (V.ref pn)))) := fun b ys e => by
          rw [upd_ne (ne_of e hdbB (by intro z; cases z))]
          exact e
        exact ((dn.ts (Ts.same s7B)).put hB).ts tsB
      rintro k σ HA hk ⟨mh, y11, y12, y13, y14, rfl, sA, up, all⟩
      rw [eln] at hk
      rw [Int.zero_add]
      obtain ⟨t, ht⟩ : ∃ t, ts[k]? = some t := ⟨_, List.getElem?_eq_getElem hk⟩
      have ck : cs[k]? = some (cs.getD k 0) := by rw [List.getD_eq_getElem?_getD, List.getElem?_eq_getElem (by omega)]; rfl
      have ckV : ((cs.map Int.ofNat).map V.int)[k]? = some (.int ((cs.getD k 0 : Nat) : Int)) := by rw [List.getElem?_map, List.getElem?_map, ck]; rfl
      have s7A := s79.trans sA
      have hcaA := s7A _ _ hca7
      have lv : ((cs.map Int.ofNat).map V.int).length = ts.length := by rw [List.length_map, List.length_map, lcs]
      refine ⟨.ref ca, rfl, .int (k : Nat), rfl, (k : Int), rfl, slA hcaA fun q1 B1 b1 f1 => ?_⟩
      rw [cut_to] at f1
      refine ⟨.ref ca, rfl, .int (k : Nat), rfl, ca, _, _, _, rfl, rfl, SqT.of (b1 _ _ hcaA), atI_nat ckV, _, _, rfl, rfl, sl1, fun q2 nq2 => ?_⟩
      have b2 := same_upd (o := (HO.tup [V.int (((cs.getD k 0 : Nat) : Int) + 1)])) nq2
      have f2 : upd B1 q2 (HO.tup [V.int (((cs.getD k 0 : Nat) : Int) + 1)]) q2 = some (HO.tup [V.int (((cs.getD k 0 : Nat) : Int) + 1)]) := upd_same
      generalize upd B1 q2 (HO.tup [V.int (((cs.getD k 0 : Nat) : Int) + 1)]) = B2 at b2 f2 ⊢
      refine catA (b2 _ _ f1) f2 (by rw [List.length_take, lv]; exact Nat.le_trans (show min k ts.length + 1 ≤ 500 by omega) (by decide)) fun q3 B3 b3 f3 => ?_
      refine ⟨.ref ca, rfl, .int (k : Nat), rfl, _, _, rfl, rfl, ((k + 1 : Nat) : Int), rfl, slAn (b3 _ _ (b2 _ _ (b1 _ _ hcaA))) fun q4 B4 b4 f4 => ?_⟩
      rw [cut_from] at f4
      refine catA (b4 _ _ f3) f4 (by rw [List.length_append, List.length_take, List.length_drop, lv]; exact Nat.le_trans (show min k ts.length + 1 + (ts.length - (k + 1)) ≤ 1000 by omega) (by decide)) fun q5 B5 b5 f5 => ?_
      have b15 := b1.trans (b2.trans (b3.trans (b4.trans b5)))
      have s7B := s7A.trans b15
      have ek : ((cs.map Int.ofNat).map V.int).take k ++ [V.int (((cs.getD k 0 : Nat) : Int) + 1)] ++ ((cs.map Int.ofNat).map V.int).drop (k + 1) = (keyC (inc1 cs k)).map kV := by
        rw [keyC_kV]
        unfold inc1
        rw [List.map_append, List.map_append, List.map_append, List.map_append, List.map_take, List.map_take, List.map_drop, List.map_drop]
        rfl
      rw [ek] at f5
      have hdb5 := s7B _ _ hdb
      have ord := counts_inc spl ht
      have dg := DGet.t (k := keyC (inc1 cs k)) hdb5 f5
      refine ⟨.ref q5, rfl, .ref db, rfl, db, _, rfl, dg, _, rfl, ?_⟩
      by_cases lt : cs.getD k 0 < t.num
      · obtain ⟨pv, ev, hpv⟩ := (dn.ts (Ts.same s7B)).1 _ (ord.1 lt)
        rw [ev]
        refine iteT ?_
        refine ⟨.ref db, rfl, .ref q5, rfl, db, .ref pv, rfl, by rw [← ev]; exact dg, pv, _, rfl, SqT.of hpv, rfl, _, _, rfl, _, _, rfl, rfl, ?_⟩
        refine ⟨.int (mh : Nat), rfl, .int ((Gv C ts (inc1 cs k) : Nat) : Int), rfl, .int ((Hv C ts (inc1 cs k) : Nat) : Int), rfl, .int ((Hv C ts cs : Nat) : Int), rfl, rfl, .inr ⟨_, rfl, _, _, rfl, rfl, _, _, rfl, ?_⟩⟩
        obtain ⟨vl, hvl⟩ : ∃ vl : Nat, vl = Gv C ts (inc1 cs k) + (if Hv C ts (inc1 cs k) = Hv C ts cs then 0 else 1) := ⟨_, rfl⟩
        have evl : (((Gv C ts (inc1 cs k) : Nat) : Int) + (if (!decide (V.int ((Hv C ts (inc1 cs k) : Nat) : Int) = V.int ((Hv C ts cs : Nat) : Int))) = true then 1 else 0)) = ((vl : Nat) : Int) := by
          rw [hvl]
          by_cases e : Hv C ts (inc1 cs k) = Hv C ts cs
          · rw [if_pos e, e]
            simp
          · have ne : ¬ V.int ((Hv C ts (inc1 cs k) : Nat) : Int) = V.int ((Hv C ts cs : Nat) : Int) := fun z => e (by have := V.int.inj z; omega)
            rw [if_neg e, decide_eq_false ne]
            simp
        rw [evl]
        have le := Gv_le (C := C) oks vc ht lt
        rw [← hvl] at le
        refine ⟨max mh vl, some (.int (k : Nat)), some (.ref q5), some (.int ((Gv C ts (inc1 cs k) : Nat) : Int)), some (.int ((Hv C ts (inc1 cs k) : Nat) : Int)), ?_, sA.trans b15, by omega, fun i u hi hu lu => ?_⟩
        · have em : (if ((vl : Nat) : Int) > ((mh : Nat) : Int) then ((vl : Nat) : Int) else ((mh : Nat) : Int)) = ((max mh vl : Nat) : Int) := by
            split <;> omega
          rw [em]
          rfl
        · by_cases z : i < k
          · have := all i u z hu lu
            omega
          · have : i = k := by omega
            subst this
            rw [ht] at hu
            cases hu
            rw [← hvl]
            omega
      · have no : inc1 cs k ∉ (countsM (ts.map Tri.num)).take j := fun z => ord.2 lt (List.mem_of_mem_take z)
        rw [dn.2 _ no]
        refine iteF ?_
        refine ⟨mh, _, _, _, _, rfl, sA.trans b15, up, fun i u hi hu lu => ?_⟩
        by_cases z : i < k
        · exact all i u z hu lu
        · have : i = k := by omega
          subst this
          rw [ht] at hu
          cases hu
          exact absurd lu lt

end
end Gk

set_option Elab.async false
set_option linter.all false
set_option maxRecDepth 100000
set_option maxHeartbeats 1000000
set_option pp.maxSteps 1500
set_option pp.deepTerms false
namespace Gk
open PySem PySem.Spec PyProof.Rows L2
section
variable {P : Program} {w : World} {K : PySem.W.Frag} {mg : Str → Option Value} {base : Heap}
/-! ### a drawn change -/
theorem row01_snoc {r : List Int} {x : Int} (h : Row01 r) (hx : x = 0 ∨ x = 1) : Row01 (r ++ [x]) := fun y hy => by
  rcases List.mem_append.mp hy with z | z
  · exact h y z
  · rw [List.mem_singleton.mp z]; exact hx
theorem vints_at {ws : List Int} {i : Nat} {v : V} (h : (ws.map V.int)[i]? = some v) : ∃ u, ws[i]? = some u ∧ v = .int u := by
  rw [List.getElem?_map] at h
  cases hz : ws[i]? with
  | none => rw [hz] at h; cases h
  | some u => rw [hz] at h; exact ⟨u, rfl, (Option.some.inj h).symm⟩
def sp_change (K : PySem.W.Frag) : Sp := fun vs H Q _ => ∃ (d l : Addr) (n : Int) (m : Nat), vs = [.ref d, .int (m : Nat)] ∧ DeckC H d l n ∧ n ≤ 100000000 ∧ 1 ≤ m ∧ m ≤ 6 ∧ ∀ r H' a b, DeckC H' d l (n + 14) → Fr d l H H' → Tk H' (.ref r) (chD a b) → a.length = m → b.length = m → Row01 a → Row01 b → Q (.ref r) H'
theorem ok_change (T : Tx w K mg) : FnOk P w K mg base CX0 3 T.f_change T.fd_change ["_law_deck_here", "_law_many"] (sp_change K) := by
  refine T.F_change.ok sc_change (fun vs H Q E h => ?_) (fun cdv A outer s H vs Q E hr h => ?_)
  · obtain ⟨d, l, n, m, rfl, _⟩ := h
    rfl
  · obtain ⟨d, l, n, m, rfl, D, hn, m1, m6, q⟩ := h
    refine ⟨_, (pss_cons (ps_set (i := 2) sc_change.nd rfl (by first | exact .inl rfl | exact .inr rfl) (pe_callTy call_tuple_of (by rfl) T.m_tuple (by decide +kernel) (pa_cons (pe_lc (own := [("_law_k", 5)]) (by rfl) sc_change.nd (pi_range1 (by rfl) T.m_range (pa_cons (pv 1) pa_nil)) (blkOk_by (own := [("_law_k", 5)]) (N := ["_law_deck_here", "_law_many", "_law_row", "_law_way", "_law_at", "_law_k", "_law_one"]) (sc := defScope s_change) (by decide +kernel)) (fun _ _ _ _ _ => (pg_name (i := 5) sc_change.nd rfl (by first | exact .inl rfl | exact .inr rfl))) (fun _ _ _ _ _ => pts_nil) (fun _ _ _ _ _ => (pe_call (ok_take T) (hr.mono (by decide)) (by rfl) T.g_take T.F_take.kp T.b_take .nil pass0 (pa_cons (pv 0) (pa_cons pe_int pa_nil))))) pa_nil))) (pss_cons (ps_set (i := 3) sc_change.nd rfl (by first | exact .inl rfl | exact .inr rfl) (pe_call (ok_take T) (hr.mono (by decide)) (by rfl) T.g_take T.F_take.kp T.b_take .nil pass0 (pa_cons (pv 0) (pa_cons pe_int pa_nil)))) (pss_cons (ps_if (pt_cmpR op_lt (pv 3) pe_int (nomark _)) (pss_one (ps_ret (pe_tup (pa_cons (pv 2) (pa_cons (pe_callTy call_tuple_of (by rfl) T.m_tuple (by decide +kernel) (pa_cons (pe_lc (own := [("_law_one", 6)]) (by rfl) sc_change.nd (pi_tup (pv 2)) (blkOk_by (own := [("_law_one", 6)]) (N := ["_law_deck_here", "_law_many", "_law_row", "_law_way", "_law_at", "_law_k", "_law_one"]) (sc := defScope s_change) (by decide +kernel)) (fun _ _ _ _ _ => (pg_name (i := 6) sc_change.nd rfl (by first | exact .inl rfl | exact .inr rfl))) (fun _ _ _ _ _ => pts_nil) (fun _ _ _ _ _ => (pe_op op_sub pe_int (pv 6)))) pa_nil)) pa_nil))))) pss_nil) (pss_cons (ps_if (pt_cmpR op_eq (pv 3) pe_int (nomark _)) (pss_cons (ps_set (i := 4) sc_change.nd rfl (by first | exact .inl rfl | exact .inr rfl) (pe_call (ok_take T) (hr.mono (by decide)) (by rfl) T.g_take T.F_take.kp T.b_take .nil pass0 (pa_cons (pv 0) (pa_cons (pv 1) pa_nil)))) (pss_one (ps_ret (pe_tup (pa_cons (pv 2) (pa_cons (pe_op op_catA (pe_op op_catA (pe_slice sl_tupA (pv 2) po_none (po_some (pv 4))) (pe_tup (pa_cons (pe_op op_sub pe_int (pe_ix ix_tup (pv 2) (pv 4) (fun _ _ => rfl))) pa_nil))) (pe_slice sl_tupA (pv 2) (po_some (pe_op op_add (pv 4) pe_int)) po_none)) pa_nil)))))) pss_nil) (pss_cons (ps_if (pt_cmpR op_eq (pv 3) pe_int (nomark _)) (pss_one (ps_ret (pe_tup (pa_cons (pv 2) (pa_cons (pv 2) pa_nil))))) pss_nil) (pss_one (ps_ret (pe_tup (pa_cons (pv 2) (pa_cons (pe_callTy call_tuple_of (by rfl) T.m_tuple (by decide +kernel) (pa_cons (pe_lc (own := [("_law_k", 5)]) (by rfl) sc_change.nd (pi_range1 (by rfl) T.m_range (pa_cons (pv 1) pa_nil)) (blkOk_by (own := [("_law_k", 5)]) (N := ["_law_deck_here", "_law_many", "_law_row", "_law_way", "_law_at", "_law_k", "_law_one"]) (sc := defScope s_change) (by decide +kernel)) (fun _ _ _ _ _ => (pg_name (i := 5) sc_change.nd rfl (by first | exact .inl rfl | exact .inr rfl))) (fun _ _ _ _ _ => pts_nil) (fun _ _ _ _ _ => (pe_call (ok_take T) (hr.mono (by decide)) (by rfl) T.g_take T.F_take.kp T.b_take .nil pass0 (pa_cons (pv 0) (pa_cons pe_int pa_nil))))) pa_nil)) pa_nil)))))))))), ?_⟩
    have em : ((m : Nat) : Int).toNat = m := by omega
    refine ⟨.int (m : Nat), rfl, m, rfl, by omega, by omega, fun OA nOA => ?_⟩
    have oA := D.off nOA
    refine lc_range (lo := 0) (n := ((m : Nat) : Int).toNat) (fun j H' => DeckC H' d l (n + j) ∧ Fr d l H H' ∧ ∃ a : List Int, H' OA = some (.lst (a.map V.int)) ∧ a.length = j ∧ Row01 a)
      ⟨(D.same (same_upd nOA)).mono (by omega), Fr.new nOA, [], upd_same, rfl, fun x hx => by cases hx⟩ ?_ ?_
    · rintro j H4 hj ⟨D4, fr4, a, hA, la, a01⟩
      refine ⟨rfl, .ref d, rfl, d, l, 2, _, rfl, D4, by omega, by decide, by decide, fun H5 z D5 fr5 z0 z1 => ?_⟩
      refine ⟨_, fr5 _ _ oA.1 oA.2 hA, ?_, (D5.upd oA.1 oA.2).mono (by push_cast; omega), Fr.upd (fr4.trans fr5) nOA, a ++ [z], by rw [upd_same, List.map_append]; rfl, by rw [List.length_append, la]; rfl, row01_snoc a01 (by omega)⟩
      rw [List.length_map, la]
      exact Nat.lt_of_lt_of_le (show j < 64 by omega) (by decide)
    rintro H4 ⟨D4, fr4, a, hA, la, a01⟩
    rw [em] at la
    have D4 : DeckC H4 d l (n + 6) := D4.mono (by omega)
    refine ⟨OA, _, rfl, .inl ⟨SqL.of hA, fun ta nta => ?_⟩⟩
    have s5 := same_upd (o := (HO.tup (a.map V.int))) nta
    have h5 : upd H4 ta (HO.tup (a.map V.int)) ta = some (HO.tup (a.map V.int)) := upd_same
    generalize upd H4 ta (HO.tup (a.map V.int)) = H5 at s5 h5 ⊢
    have D5 := D4.same s5
    have fr5 := fr4.trans (Fr.of (d := d) (l := l) s5)
    refine ⟨.ref d, rfl, d, l, 6, _, rfl, D5, by omega, by decide, by decide, fun H6 wy D6 fr6 w0 w1 => ?_⟩
    have hta := (Ts.frC D5 fr6) _ _ h5
    have fr06 := fr5.trans fr6
    have la' : (a.map V.int).length = m := by rw [List.length_map, la]
    refine ⟨.int wy, rfl, _, _, rfl, rfl, _, rfl, ite2 (fun _ => ?_) (fun _ => ?_)⟩
    · refine ⟨.ref ta, rfl, .ref ta, rfl, ta, rfl, ⟨_, SqT.of hta⟩, fun OB nOB => ?_⟩
      have oB := D6.off nOB
      refine lc_tup (K := K) (a := ta) (xs := a.map V.int) (fun j H' => Same H6 (hd1 OB H') ∧ ∃ b : List Int, H' OB = some (.lst (b.map V.int)) ∧ b.length = j ∧ Row01 b) ⟨hd1_of (same_upd nOB) nOB, [], upd_same, rfl, fun x hx => by cases hx⟩ (fun i H' _ z => SqT.of (hd1_le _ _ (z.1 _ _ hta))) ?_ ?_
      · rintro j x H7 hx ⟨s7, b, hB, lb, b01⟩
        obtain ⟨u', hu', rfl⟩ := vints_at hx
        have := a01 u' (List.mem_of_getElem? hu')
        have hjl := (List.getElem?_eq_some_iff.mp hu').1
        refine ⟨rfl, .int u', rfl, _, _, rfl, rfl, _, hB, ?_, s7.trans hd1_upd, b ++ [1 - u'], by rw [upd_same, List.map_append]; rfl, by rw [List.length_append, lb]; rfl, row01_snoc b01 (by omega)⟩
        rw [List.length_map, lb]
        exact Nat.lt_of_lt_of_le (show j < 64 by omega) (by decide)
      rintro H7 ⟨s7, b, hB, lb, b01⟩
      rw [la'] at lb
      have s67 : Same H6 H7 := fun b o e => hd1_le _ _ (s7 _ _ e)
      refine ⟨OB, _, rfl, .inl ⟨SqL.of hB, fun tb ntb => ?_⟩⟩
      have s8 := same_upd (o := (HO.tup (b.map V.int))) ntb
      have h8 : upd H7 tb (HO.tup (b.map V.int)) tb = some (HO.tup (b.map V.int)) := upd_same
      generalize upd H7 tb (HO.tup (b.map V.int)) = H8 at s8 h8 ⊢
      refine ⟨sl2, fun cr ncr => ?_⟩
      have s9 := same_upd (o := HO.tup [V.ref ta, V.ref tb]) ncr
      have sA := (s67.trans s8).trans s9
      exact q cr _ a b ((D6.same sA).mono (by omega)) (fr06.trans (Fr.of sA)) (.tup upd_same (.cons (.tup (sA _ _ hta) (TkAll.ints _)) (.cons (.tup (s9 _ _ h8) (TkAll.ints _)) .nil))) la lb a01 b01
    refine ⟨.int wy, rfl, rfl, _, rfl, ite2 (fun _ => ?_) (fun _ => ?_)⟩
    · refine ⟨.ref d, rfl, .int (m : Nat), rfl, d, l, m, _, rfl, D6, by omega, by omega, by omega, fun H7 k D7 fr7 k0 k1 => ?_⟩
      obtain ⟨k, rfl⟩ := Int.eq_ofNat_of_zero_le k0
      have hta7 := (Ts.frC D6 fr7) _ _ hta
      have fr07 := fr06.trans fr7
      have ck : a[k]? = some (a.getD k 0) := by rw [List.getD_eq_getElem?_getD, List.getElem?_eq_getElem (by omega)]; rfl
      have ckV : (a.map V.int)[k]? = some (.int (a.getD k 0)) := by rw [List.getElem?_map, ck]; rfl
      have k01 := a01 _ (List.mem_of_getElem? ck)
      refine ⟨.ref ta, rfl, .ref ta, rfl, .int (k : Nat), rfl, (k : Int), rfl, slA hta7 fun q1 B1 b1 f1 => ?_⟩
      rw [cut_to] at f1
      refine ⟨.ref ta, rfl, .int (k : Nat), rfl, ta, _, _, _, rfl, rfl, SqT.of (b1 _ _ hta7), atI_nat ckV, _, _, rfl, rfl, sl1, fun q2 nq2 => ?_⟩
      have b2 := same_upd (o := (HO.tup [V.int (1 - a.getD k 0)])) nq2
      have f2 : upd B1 q2 (HO.tup [V.int (1 - a.getD k 0)]) q2 = some (HO.tup [V.int (1 - a.getD k 0)]) := upd_same
      generalize upd B1 q2 (HO.tup [V.int (1 - a.getD k 0)]) = B2 at b2 f2 ⊢
      refine catA (b2 _ _ f1) f2 (by rw [List.length_take, la']; exact Nat.le_trans (show min k m + 1 ≤ 500 by omega) (by decide)) fun q3 B3 b3 f3 => ?_
      refine ⟨.ref ta, rfl, .int (k : Nat), rfl, _, _, rfl, rfl, ((k + 1 : Nat) : Int), rfl, slAn (b3 _ _ (b2 _ _ (b1 _ _ hta7))) fun q4 B4 b4 f4 => ?_⟩
      rw [cut_from] at f4
      refine catA (b4 _ _ f3) f4 (by rw [List.length_append, List.length_take, List.length_drop, la']; exact Nat.le_trans (show min k m + 1 + (m - (k + 1)) ≤ 1000 by omega) (by decide)) fun q5 B5 b5 f5 => ?_
      have b15 := b1.trans (b2.trans (b3.trans (b4.trans b5)))
      refine ⟨sl2, fun cr ncr => ?_⟩
      have s9 := same_upd (o := HO.tup [V.ref ta, V.ref q5]) ncr
      have sA := b15.trans s9
      have eb : (a.map V.int).take k ++ [V.int (1 - a.getD k 0)] ++ (a.map V.int).drop (k + 1) = (a.take k ++ [1 - a.getD k 0] ++ a.drop (k + 1)).map V.int := by
        rw [List.map_append, List.map_append, List.map_take, List.map_drop]
        rfl
      rw [eb] at f5
      refine q cr _ a _ ((D7.same sA).mono (by omega)) (fr07.trans (Fr.of sA)) (.tup upd_same (.cons (.tup (sA _ _ hta7) (TkAll.ints _)) (.cons (.tup (s9 _ _ f5) (TkAll.ints _)) .nil))) la ?_ a01 fun x hx => ?_
      · rw [List.length_append, List.length_append, List.length_take, List.length_drop]
        show min k a.length + 1 + (a.length - (k + 1)) = m
        omega
      · rcases List.mem_append.mp hx with z | z
        · rcases List.mem_append.mp z with z | z
          · exact a01 x (List.mem_of_mem_take z)
          · rw [List.mem_singleton.mp z]; omega
        · exact a01 x (List.mem_of_mem_drop z)
    refine ⟨.int wy, rfl, rfl, _, rfl, ite2 (fun _ => ?_) (fun _ => ?_)⟩
    · refine ⟨.ref ta, rfl, .ref ta, rfl, sl2, fun cr ncr => ?_⟩
      have s9 := same_upd (o := HO.tup [V.ref ta, V.ref ta]) ncr
      exact q cr _ a a ((D6.same s9).mono (by omega)) (fr06.trans (Fr.of s9)) (.tup upd_same (.cons (.tup (s9 _ _ hta) (TkAll.ints _)) (.cons (.tup (s9 _ _ hta) (TkAll.ints _)) .nil))) la la a01 a01
    refine ⟨.ref ta, rfl, .int (m : Nat), rfl, m, rfl, by omega, by omega, fun OB nOB => ?_⟩
    have oB := D6.off nOB
    refine lc_range (lo := 0) (n := ((m : Nat) : Int).toNat) (fun j H' => DeckC H' d l (n + 7 + j) ∧ Fr d l H6 H' ∧ ∃ b : List Int, H' OB = some (.lst (b.map V.int)) ∧ b.length = j ∧ Row01 b)
      ⟨(D6.same (same_upd nOB)).mono (by omega), Fr.new nOB, [], upd_same, rfl, fun x hx => by cases hx⟩ ?_ ?_
    · rintro j H7 hj ⟨D7, fr7, b, hB, lb, b01⟩
      refine ⟨rfl, .ref d, rfl, d, l, 2, _, rfl, D7, by omega, by decide, by decide, fun H8 z D8 fr8 z0 z1 => ?_⟩
      refine ⟨_, fr8 _ _ oB.1 oB.2 hB, ?_, (D8.upd oB.1 oB.2).mono (by push_cast; omega), Fr.upd (fr7.trans fr8) nOB, b ++ [z], by rw [upd_same, List.map_append]; rfl, by rw [List.length_append, lb]; rfl, row01_snoc b01 (by omega)⟩
      rw [List.length_map, lb]
      exact Nat.lt_of_lt_of_le (show j < 64 by omega) (by decide)
    rintro H7 ⟨D7, fr7, b, hB, lb, b01⟩
    rw [em] at lb
    have hta7 := (Ts.frC D6 fr7) _ _ hta
    refine ⟨OB, _, rfl, .inl ⟨SqL.of hB, fun tb ntb => ?_⟩⟩
    have s8 := same_upd (o := (HO.tup (b.map V.int))) ntb
    have h8 : upd H7 tb (HO.tup (b.map V.int)) tb = some (HO.tup (b.map V.int)) := upd_same
    generalize upd H7 tb (HO.tup (b.map V.int)) = H8 at s8 h8 ⊢
    refine ⟨sl2, fun cr ncr => ?_⟩
    have s9 := same_upd (o := HO.tup [V.ref ta, V.ref tb]) ncr
    have sA := s8.trans s9
    exact q cr _ a b ((D7.same sA).mono (by omega)) ((fr06.trans fr7).trans (Fr.of sA)) (.tup upd_same (.cons (.tup (sA _ _ hta7) (TkAll.ints _)) (.cons (.tup (s9 _ _ h8) (TkAll.ints _)) .nil))) la lb a01 b01

end
end Gk

set_option Elab.async false
set_option linter.all false
set_option maxRecDepth 100000
set_option maxHeartbeats 1000000
set_option pp.maxSteps 1500
set_option pp.deepTerms false
namespace Gk
open PySem PySem.Spec PyProof.Rows L2
section
variable {P : Program} {w : World} {K : PySem.W.Frag} {mg : Str → Option Value} {base : Heap}
/-! ### the law's judge -/
def wordD (t : Tri) : PyData := .tuple [.int (t.f : Nat), .int (t.l : Nat), .bool (decide (1 < t.num))]
theorem word_fit {t : Tri} (h : t.Ok) : Fit (2 ^ 120) 100 5 (wordD t) := by
  have a := h.1
  have b := h.2.1
  unfold wordD
  generalize decide (1 < t.num) = x
  rcases (show t.f = 0 ∨ t.f = 1 by omega) with e | e <;> rcases (show t.l = 0 ∨ t.l = 1 by omega) with e2 | e2 <;> rw [e, e2] <;> cases x <;> exact ⟨by decide +kernel, by decide +kernel, by decide +kernel⟩
theorem num_fit {n : Nat} (h : n ≤ 40) : Fit (2 ^ 120) 100 5 (.int (n : Nat)) := by
  refine ⟨decide_eq_true (Nat.le_trans (show ((n : Nat) : Int).natAbs ≤ 40 by omega) (by decide +kernel)), ?_, ?_⟩
  · exact Nat.le_trans (int_weight (k := 10) (show ((n : Nat) : Int).natAbs < 2 ^ 10 by omega)) (by decide)
  · exact Nat.zero_le _
theorem ok_most (T : Tx w K mg) : FnOk P w K mg base CX0 48 T.f_most T.fd_most ["_law_form_here", "_law_change_here"] (sp_lmost K 22) := ok_lmostE T 22
def sp_right (T : Tx w K mg) : Sp := fun vs H Q _ => ∃ (v c : V) (f : Fm) (m : Nat) (a b : List Int), vs = [v, c] ∧ Tk H v f.d ∧ f.ok m = true ∧ f.dep ≤ 22 ∧ f.cnt ≤ 40 ∧ Tk H c (chD a b) ∧ a.length = m ∧ b.length = m ∧ Row01 a ∧ Row01 b ∧ GxR.TabG H T.P_most_of_and ∧ ∀ H', Gr H H' → Q (.bl true) H'
theorem ok_right (T : Tx w K mg) (B : Tb base T) : FnG P w K mg base CX0 49 T.f_right T.fd_right ["_law_form_here", "_law_change_here"] (sp_right T) := by
  refine okG0 T.F_right sc_right (fun vs H Q E h => ?_) (fun cdv A outer s H vs Q E nothing hr h => ?_)
  · obtain ⟨v, c, f, m, a, b, rfl, _⟩ := h
    rfl
  · obtain ⟨v, c, f, m, a, b, rfl, tk, ok, de, ct, tc, la, lb, a01, b01, tab, q⟩ := h
    refine ⟨_, (pss_cons (ps_set (i := 2) sc_right.nd rfl (by first | exact .inl rfl | exact .inr rfl) (pe_call (ok_word T) (hr.mono (by decide)) (by rfl) T.g_word T.F_word.kp T.b_word .nil pass0 (pa_cons (pv 0) (pa_cons (pv 1) pa_nil)))) (pss_cons (ps_set (i := 3) sc_right.nd rfl (by first | exact .inl rfl | exact .inr rfl) (pe_call (ok_most T) (hr.mono (by decide)) (by rfl) T.g_most T.F_most.kp T.b_most .nil pass0 (pa_cons (pv 0) (pa_cons (pv 1) pa_nil)))) (pss_cons (ps_if (pw_or (pt_cmpR op_ne (pe_callB (call_repr nothing hr.units) (by rfl) T.m_repr (by decide +kernel) (pa_cons (pe_call (ok_form_word T B) (hr.mono (by decide)) (by rfl) T.g_form_word T.F_form_word.kp T.b_form_word .nil pass0 (pa_cons (pv 0) (pa_cons (pv 1) pa_nil))) pa_nil)) (pe_callB (call_repr nothing hr.units) (by rfl) T.m_repr (by decide +kernel) (pa_cons (pv 2) pa_nil)) (nomark _)) (pw_or1 (pt_cmpR op_ne (pe_callB (call_repr nothing hr.units) (by rfl) T.m_repr (by decide +kernel) (pa_cons (pe_call (ok_form_greatest T B) (hr.mono (by decide)) (by rfl) T.g_form_greatest T.F_form_greatest.kp T.b_form_greatest .nil pass0 (pa_cons (pv 0) (pa_cons (pv 1) pa_nil))) pa_nil)) (pe_callB (call_repr nothing hr.units) (by rfl) T.m_repr (by decide +kernel) (pa_cons (pv 3) pa_nil)) (nomark _)))).pt (pss_one (ps_ret pe_bl)) pss_nil) (pss_one (ps_ret (pe_and (pe_cmpR op_eq (pe_callB (call_repr nothing hr.units) (by rfl) T.m_repr (by decide +kernel) (pa_cons (pe_call (ok_form_word T B) (hr.mono (by decide)) (by rfl) T.g_form_word T.F_form_word.kp T.b_form_word .nil pass0 (pa_cons (pv 0) (pa_cons (pv 1) pa_nil))) pa_nil)) (pe_callB (call_repr nothing hr.units) (by rfl) T.m_repr (by decide +kernel) (pa_cons (pv 2) pa_nil)) (nomark _)) (pe_one (pe_cmpR op_eq (pe_ix ix_tup (pv 2) pe_int (fun _ _ => rfl)) (pe_cmpR op_gt (pv 3) (pe_callTy call_int1 (by rfl) T.m_int (by decide +kernel) (pa_cons (pe_cmpR op_ne (pe_ix ix_tup (pv 2) pe_int (fun _ _ => rfl)) (pe_ix ix_tup (pv 2) pe_int (fun _ _ => rfl)) (nomark _)) pa_nil)) (nomark _)) (nomark _))))))))), ?_⟩
    obtain ⟨c', ra, rb, rfl, hc, hra, hrb⟩ := id tc.ch_inv
    have tok := Fm.tri_ok a01 b01 f
    have n40 : (f.tri a b).num ≤ 40 := Nat.le_trans (Fm.num_le a01 b01 f) ct
    obtain ⟨w1, w2, w3⟩ := (word_fit tok).fine (by decide +kernel) (by decide) (by decide)
    obtain ⟨m1, m2, m3⟩ := (num_fit n40).fine (by decide +kernel) (by decide) (by decide)
    have c1000 : f.cnt ≤ 1000 := by omega
    refine ⟨v, rfl, .ref c', rfl, v, .ref c', f, m, a, b, rfl, tk, ok, de, tc, la, lb, a01, b01, fun pw H1 s1 hw => ?_⟩
    refine ⟨v, rfl, .ref c', rfl, v, .ref c', f, m, a, b, rfl, tk.same s1, ok, de, de, ct, tc.same s1, la, lb, a01, b01, fun H2 s2 => ?_⟩
    have s02 := s1.trans s2
    have g02 := Gr.of s02
    have hw2 := s2 _ _ hw
    have shW : ∀ {H' : Hp} {p : Addr}, H' p = some (.tup [.int (((f.tri a b).f : Nat) : Int), .int (((f.tri a b).l : Nat) : Int), .bl (decide (1 < (f.tri a b).num))]) → Sh H' (.ref p) (wordD (f.tri a b)) := fun h => .tup h (.cons (.int _) (.cons (.int _) (.cons (.bl _) .nil)))
    refine ⟨v, rfl, .ref c', rfl, v, .ref c', f, m, a, b, rfl, tk.gr g02, ok, de, c1000, tc.gr g02, la, lb, a01, b01, g02.2 _ tab, fun p3 H3 g3 h3 => ?_⟩
    have g03 := g02.trans g3
    have hw3 := g3.tup hw2
    refine ⟨.ref p3, _, rfl, shW h3, w1, w2, w3, .ref pw, rfl, .ref pw, _, rfl, shW hw3, w1, w2, w3, rfl, _, rfl, ?_⟩
    rw [decide_eq_true rfl]
    refine iteF ?_
    refine ⟨v, rfl, .ref c', rfl, v, .ref c', f, m, a, b, rfl, tk.gr g03, ok, de, c1000, tc.gr g03, la, lb, a01, b01, g03.2 _ tab, fun H4 g4 => ?_⟩
    have g04 := g03.trans g4
    have hw4 := g4.tup hw3
    refine ⟨_, _, rfl, .int _, m1, m2, m3, .int _, rfl, _, _, rfl, .int _, m1, m2, m3, rfl, _, rfl, ?_⟩
    rw [decide_eq_true rfl]
    refine iteF ?_
    refine ⟨v, rfl, .ref c', rfl, v, .ref c', f, m, a, b, rfl, tk.gr g04, ok, de, c1000, tc.gr g04, la, lb, a01, b01, g04.2 _ tab, fun p5 H5 g5 h5 => ?_⟩
    have g05 := g04.trans g5
    have hw5 := g5.tup hw4
    refine ⟨.ref p5, _, rfl, shW h5, w1, w2, w3, .ref pw, rfl, .ref pw, _, rfl, shW hw5, w1, w2, w3, rfl, ?_⟩
    rw [decide_eq_true rfl]
    refine ⟨_, rfl, iteT ?_⟩
    have em : (V.bl (decide (1 < (f.tri a b).num)) = V.bl (decide ((if (!decide (V.int (((f.tri a b).f : Nat) : Int) = V.int (((f.tri a b).l : Nat) : Int))) = true then (1 : Int) else 0) < (((f.tri a b).num : Nat) : Int)))) := by
      obtain ⟨o1, o2, o3, o4⟩ := tok
      congr 1
      by_cases e : (f.tri a b).f = (f.tri a b).l
      · rw [e, decide_eq_true (rfl : V.int (((f.tri a b).l : Nat) : Int) = _)]
        rw [decide_eq_decide]
        show 1 < 2 * (f.tri a b).u - (f.tri a b).f - (f.tri a b).l ↔ (0 : Int) < ((2 * (f.tri a b).u - (f.tri a b).f - (f.tri a b).l : Nat) : Int)
        omega
      · have ne : ¬ V.int (((f.tri a b).f : Nat) : Int) = V.int (((f.tri a b).l : Nat) : Int) := fun z => e (by have := V.int.inj z; omega)
        rw [decide_eq_false ne, decide_eq_decide]
        show 1 < 2 * (f.tri a b).u - (f.tri a b).f - (f.tri a b).l ↔ (1 : Int) < ((2 * (f.tri a b).u - (f.tri a b).f - (f.tri a b).l : Nat) : Int)
        omega
    refine ⟨.ref pw, rfl, pw, _, ((2 : Nat) : Int), _, rfl, rfl, SqT.of hw5, atI_nat rfl, .int (((f.tri a b).num : Nat) : Int), rfl, .ref pw, rfl, pw, _, ((0 : Nat) : Int), _, rfl, rfl, SqT.of hw5, atI_nat rfl, .ref pw, rfl, pw, _, ((1 : Nat) : Int), _, rfl, rfl, SqT.of hw5, atI_nat rfl, rfl, .inr ⟨_, rfl, _, _, rfl, rfl, rfl, ?_⟩⟩
    have q := q H5 g05
    rw [decide_eq_true em]
    exact q

end
end Gk

set_option Elab.async false
set_option linter.all false
set_option maxRecDepth 100000
set_option maxHeartbeats 1000000
set_option pp.maxSteps 1500
set_option pp.deepTerms false
namespace Gk
open PySem PySem.Spec PyProof.Rows L2
section
variable {P : Program} {w : World} {K : PySem.W.Frag} {mg : Str → Option Value} {base : Heap}
/-! ### an or of ands -/
theorem Fm.cnts_leS {k : Nat} : ∀ {fs : List Fm}, (∀ f ∈ fs, f.cnt ≤ k) → Fm.cnts fs ≤ fs.length * k
  | [], _ => Nat.zero_le _
  | f :: r, h => by
    have a := h f List.mem_cons_self
    have b := Fm.cnts_leS (fs := r) fun g hg => h g (List.mem_cons_of_mem _ hg)
    show f.cnt + Fm.cnts r ≤ (r.length + 1) * k
    rw [Nat.succ_mul]
    omega
def sp_sum (K : PySem.W.Frag) : Sp := fun vs H Q _ => ∃ (d l : Addr) (n : Int) (m : Nat), vs = [.ref d, .int (m : Nat)] ∧ DeckC H d l n ∧ n ≤ 90000000 ∧ 1 ≤ m ∧ m ≤ 6 ∧ ∀ v H', DeckC H' d l (n + 100) → Fr d l H H' → FmAt H' m 40 11 v → Q v H'
theorem ok_sum (T : Tx w K mg) : FnOk P w K mg base CX0 3 T.f_sum T.fd_sum ["_law_deck_here", "_law_many"] (sp_sum K) := by
  refine T.F_sum.ok sc_sum (fun vs H Q E h => ?_) (fun cdv A outer s H vs Q E hr h => ?_)
  · obtain ⟨d, l, n, m, rfl, _⟩ := h
    rfl
  · obtain ⟨d, l, n, m, rfl, D, hn, m1, m6, q⟩ := h
    refine ⟨_, (pss_cons (ps_set (i := 2) sc_sum.nd rfl (by first | exact .inl rfl | exact .inr rfl) (pe_lst pa_nil)) (pss_cons (ps_for PassesOwn.never rfl (pi_range1 (by rfl) T.m_range (pa_cons (pe_op op_add pe_int (pe_call (ok_take T) (hr.mono (by decide)) (by rfl) T.g_take T.F_take.kp T.b_take .nil pass0 (pa_cons (pv 0) (pa_cons pe_int pa_nil)))) pa_nil)) (pg_name (i := 3) sc_sum.nd rfl (by first | exact .inl rfl | exact .inr rfl)) (pss_cons (ps_set (i := 4) sc_sum.nd rfl (by first | exact .inl rfl | exact .inr rfl) (pe_lst pa_nil)) (pss_cons (ps_for PassesOwn.never rfl (pi_range1 (by rfl) T.m_range (pa_cons (pe_op op_add pe_int (pe_call (ok_take T) (hr.mono (by decide)) (by rfl) T.g_take T.F_take.kp T.b_take .nil pass0 (pa_cons (pv 0) (pa_cons pe_int pa_nil)))) pa_nil)) (pg_name (i := 5) sc_sum.nd rfl (by first | exact .inl rfl | exact .inr rfl)) (pss_cons (ps_set (i := 6) sc_sum.nd rfl (by first | exact .inl rfl | exact .inr rfl) (pe_tup (pa_cons pe_str (pa_cons (pe_call (ok_take T) (hr.mono (by decide)) (by rfl) T.g_take T.F_take.kp T.b_take .nil pass0 (pa_cons (pv 0) (pa_cons (pv 1) pa_nil))) pa_nil)))) (pss_one (ps_expr (pe_bm PySem.F.plainAttrs_list PySem.F.slot_list_append PySem.F.type_list_append mt_append (pv 4) (pa_cons (pe_ix ix_list (pe_lst (pa_cons (pv 6) (pa_cons (pe_tup (pa_cons pe_str (pa_cons (pv 6) pa_nil))) pa_nil))) (pe_call (ok_take T) (hr.mono (by decide)) (by rfl) T.g_take T.F_take.kp T.b_take .nil pass0 (pa_cons (pv 0) (pa_cons pe_int pa_nil))) (fun _ _ => rfl)) pa_nil)))))) (pss_one (ps_expr (pe_bm PySem.F.plainAttrs_list PySem.F.slot_list_append PySem.F.type_list_append mt_append (pv 2) (pa_cons (pe_tup (pa_cons pe_str (pa_cons (pe_callTy call_tuple_of (by rfl) T.m_tuple (by decide +kernel) (pa_cons (pv 4) pa_nil)) pa_nil))) pa_nil))))))) (pss_one (ps_ret (pe_tup (pa_cons pe_str (pa_cons (pe_callTy call_tuple_of (by rfl) T.m_tuple (by decide +kernel) (pa_cons (pv 2) pa_nil)) pa_nil))))))), ?_⟩
    refine ⟨Nat.zero_le _, fun PL nPL => ?_⟩
    have s1 := same_upd (o := (HO.lst [])) nPL
    have hPL : upd H PL (HO.lst []) PL = some (HO.lst []) := upd_same
    generalize upd H PL (HO.lst []) = H1 at s1 hPL ⊢
    have D1 := D.same s1
    have oP := D.off nPL
    refine ⟨.ref d, rfl, d, l, 3, _, rfl, D1, by omega, by decide, by decide, fun H2 x D2 fr2 x0 x1 => ⟨_, _, rfl, rfl, 2 + x, rfl, by omega, by omega, ?_⟩⟩
    obtain ⟨x, rfl⟩ := Int.eq_ofNat_of_zero_le x0
    have en : (2 + ((x : Nat) : Int)).toNat = 2 + x := by omega
    have hPL2 := fr2 _ _ oP.1 oP.2 hPL
    refine for_range (lo := 0) (n := (2 + ((x : Nat) : Int)).toNat) (fun i σ H' => ∃ y3 y4 y5 y6 vs fs, σ = [some (.ref d), some (.int (m : Nat)), some (.ref PL), y3, y4, y5, y6] ∧ DeckC H' d l (n + 1 + 10 * i) ∧ Fr d l H H' ∧ H' PL = some (.lst vs) ∧ TkAll H' vs (List.map Fm.d fs) ∧ fs.length = i ∧ ∀ g ∈ fs, g.ok m = true ∧ g.cnt ≤ 9 ∧ g.dep ≤ 4) ⟨_, _, _, _, [], [], rfl, D2.mono (by omega), (Fr.of (d := d) (l := l) s1).trans fr2, hPL2, .nil, rfl, fun g h => by cases h⟩ ?_ ?_
    rotate_left
    · rintro σ H3 ⟨y3, y4, y5, y6, vs, fs, rfl, D3, fr3, h3, t3, l3, g3⟩
      rw [en] at l3
      have lvs : vs.length = fs.length := by rw [t3.length, List.length_map]
      refine ⟨.ref PL, rfl, PL, _, rfl, .inl ⟨SqL.of h3, fun t nt => ?_⟩⟩
      have s4 := same_upd (o := (HO.tup vs)) nt
      have h4 : upd H3 t (HO.tup vs) t = some (HO.tup vs) := upd_same
      generalize upd H3 t (HO.tup vs) = H4 at s4 h4 ⊢
      refine ⟨sl2, fun p np => ?_⟩
      have s5 := same_upd (o := HO.tup [V.str (Str.ofString "or"), V.ref t]) np
      have s35 := s4.trans s5
      refine q _ _ ((D3.same s35).mono (by omega)) (fr3.trans (Fr.of s35)) (FmAt.op false upd_same (s5 _ _ h4) (t3.same s35) (by omega) (by omega) (Fm.oks_mem.mpr fun g hg => (g3 g hg).1) ?_ ?_)
      · have := Fm.cnts_leS (k := 9) fun g hg => (g3 g hg).2.1
        omega
      · have := Fm.deps_le (k := 4) fun g hg => (g3 g hg).2.2
        omega
    rintro i σ H3 hi ⟨y3, y4, y5, y6, vs, fs, rfl, D3, fr3, h3, t3, l3, g3⟩
    rw [en] at hi
    have lvs : vs.length = fs.length := by rw [t3.length, List.length_map]
    refine ⟨Nat.zero_le _, fun so nso => ?_⟩
    have s4 := same_upd (o := (HO.lst [])) nso
    have hso : upd H3 so (HO.lst []) so = some (HO.lst []) := upd_same
    generalize upd H3 so (HO.lst []) = H4 at s4 hso ⊢
    have oso := D3.off nso
    have nso0 := none_of_frC fr3 D3 nso
    have PS : PL ≠ so := ne_of_none h3 nso
    have D4 := D3.same s4
    refine ⟨.ref d, rfl, d, l, 3, _, rfl, D4, by omega, by decide, by decide, fun H5 y D5 fr5 y0 y1 => ⟨_, _, rfl, rfl, 2 + y, rfl, by omega, by omega, ?_⟩⟩
    obtain ⟨y, rfl⟩ := Int.eq_ofNat_of_zero_le y0
    have en2 : (2 + ((y : Nat) : Int)).toNat = 2 + y := by omega
    refine for_range (lo := 0) (n := (2 + ((y : Nat) : Int)).toNat) (fun j σ H' => ∃ y5 y6 ys gs, σ = [some (.ref d), some (.int (m : Nat)), some (.ref PL), some (.int (0 + (i : Nat))), some (.ref so), y5, y6] ∧ DeckC H' d l (n + 1 + 10 * i + 1 + 2 * j) ∧ Fr d l H H' ∧ Ts H3 H' ∧ H' PL = some (.lst vs) ∧ H' so = some (.lst ys) ∧ TkAll H' ys (List.map Fm.d gs) ∧ gs.length = j ∧ ∀ g ∈ gs, g.ok m = true ∧ g.cnt ≤ 2 ∧ g.dep ≤ 2) ⟨_, _, [], [], rfl, D5.mono (by omega), (fr3.trans (Fr.of s4)).trans fr5, (Ts.same s4).trans (Ts.frC D4 fr5), fr5 _ _ oP.1 oP.2 (s4 _ _ h3), fr5 _ _ oso.1 oso.2 hso, .nil, rfl, fun g h => by cases h⟩ ?_ ?_
    · rintro j σ H6 hj ⟨y5, y6, ys, gs, rfl, D6, fr6, ts6, hP6, hs6, ty, lg, gg⟩
      rw [en2] at hj
      have lys : ys.length = gs.length := by rw [ty.length, List.length_map]
      refine ⟨.ref d, rfl, .int (m : Nat), rfl, d, l, m, _, rfl, D6, by omega, by omega, by omega, fun H7 w D7 fr7 w0 w1 => ⟨sl2, fun p np => ?_⟩⟩
      obtain ⟨w, rfl⟩ := Int.eq_ofNat_of_zero_le w0
      have s8 := same_upd (o := (HO.tup [V.str (Str.ofString "in"), V.int (w : Nat)])) np
      have h8 : upd H7 p (HO.tup [V.str (Str.ofString "in"), V.int (w : Nat)]) p = some (HO.tup [V.str (Str.ofString "in"), V.int (w : Nat)]) := upd_same
      generalize upd H7 p (HO.tup [V.str (Str.ofString "in"), V.int (w : Nat)]) = H8 at s8 h8 ⊢
      have hs8 := s8 _ _ (fr7 _ _ oso.1 oso.2 hs6)
      refine ⟨.ref so, rfl, .inl ⟨rfl, _, SqL.of hs8⟩, .ref p, rfl, .ref p, rfl, sl2, fun p2 np2 => ?_⟩
      have s9 := same_upd (o := (HO.tup [V.str (Str.ofString "not"), V.ref p])) np2
      have h9 : upd H8 p2 (HO.tup [V.str (Str.ofString "not"), V.ref p]) p2 = some (HO.tup [V.str (Str.ofString "not"), V.ref p]) := upd_same
      generalize upd H8 p2 (HO.tup [V.str (Str.ofString "not"), V.ref p]) = H9 at s9 h9 ⊢
      refine ⟨sl2, fun L nL => ?_⟩
      have sA := same_upd (o := (HO.lst [V.ref p, V.ref p2])) nL
      have hA : upd H9 L (HO.lst [V.ref p, V.ref p2]) L = some (HO.lst [V.ref p, V.ref p2]) := upd_same
      generalize upd H9 L (HO.lst [V.ref p, V.ref p2]) = HA at sA hA ⊢
      have s7A := s8.trans (s9.trans sA)
      have DA := D7.same s7A
      have oL := (D7.same (s8.trans s9)).off nL
      refine ⟨.ref d, rfl, d, l, 2, _, rfl, DA, by omega, by decide, by decide, fun HB z DB frB z0 z1 => ?_⟩
      obtain ⟨z, rfl⟩ := Int.eq_ofNat_of_zero_le z0
      have f1 : FmAt HA m 1 1 (.ref p) := FmAt.inp ((s9.trans sA) _ _ h8) (by omega)
      have f2 : FmAt HA m 2 2 (.ref p2) := (FmAt.no (sA _ _ h9) f1).mono (by omega) (by omega)
      obtain ⟨u, hu, g, tg, okg, cg, dg⟩ : ∃ u, atI [V.ref p, V.ref p2] ((z : Nat) : Int) = some u ∧ FmAt HA m 2 2 u := by
        rcases (show z = 0 ∨ z = 1 by omega) with rfl | rfl
        · exact ⟨_, at_0 _ _, f1.mono (by omega) (by omega)⟩
        · exact ⟨_, at_1 _ _ _, f2⟩
      have hsB := frB _ _ oso.1 oso.2 (sA _ _ (s9 _ _ hs8))
      have hPB := frB _ _ oP.1 oP.2 (s7A _ _ (fr7 _ _ oP.1 oP.2 hP6))
      have t6B := (Ts.frC D6 fr7).trans ((Ts.same s7A).trans (Ts.frC DA frB))
      have tS : Ts HB (upd HB so (HO.lst (ys ++ [u]))) := Ts.set hsB
      refine ⟨L, _, _, u, rfl, rfl, SqL.of (frB _ _ oL.1 oL.2 hA), hu, so, ys, _, rfl, rfl, hsB, by rw [lys]; exact Nat.lt_of_lt_of_le (show gs.length < 64 by omega) (by decide), ?_⟩
      refine ⟨_, _, ys ++ [u], gs ++ [g], rfl, (DB.upd oso.1 oso.2).mono (by push_cast; omega), Fr.upd (((fr6.trans fr7).trans (Fr.of s7A)).trans frB) nso0, ts6.trans (t6B.trans tS), by rw [upd_ne PS]; exact hPB, upd_same, ?_, by rw [List.length_append, lg]; rfl, fun k hk => ?_⟩
      · rw [List.map_append]
        exact ((ty.ts t6B (noLs_map Fm.noL _)).ts tS (noLs_map Fm.noL _)).append (.cons ((tg.ts (Ts.frC DA frB) (Fm.noL g)).ts tS (Fm.noL g)) .nil)
      · rcases List.mem_append.mp hk with e | e
        · exact gg k e
        · rw [List.mem_singleton.mp e]; exact ⟨okg, cg, dg⟩
    rintro σ H6 ⟨y5, y6, ys, gs, rfl, D6, fr6, ts6, hP6, hs6, ty, lg, gg⟩
    rw [en2] at lg
    refine ⟨.ref PL, rfl, .inl ⟨rfl, _, SqL.of hP6⟩, .ref so, rfl, so, _, rfl, .inl ⟨SqL.of hs6, fun t nt => ?_⟩⟩
    have s7 := same_upd (o := (HO.tup ys)) nt
    have h7 : upd H6 t (HO.tup ys) t = some (HO.tup ys) := upd_same
    generalize upd H6 t (HO.tup ys) = H7 at s7 h7 ⊢
    refine ⟨sl2, fun p np => ?_⟩
    have s8 := same_upd (o := (HO.tup [V.str (Str.ofString "and"), V.ref t])) np
    have h8 : upd H7 p (HO.tup [V.str (Str.ofString "and"), V.ref t]) p = some (HO.tup [V.str (Str.ofString "and"), V.ref t]) := upd_same
    generalize upd H7 p (HO.tup [V.str (Str.ofString "and"), V.ref t]) = H8 at s8 h8 ⊢
    have s68 := s7.trans s8
    have hP8 := s68 _ _ hP6
    obtain ⟨g, tg, okg, cg, dg⟩ : FmAt H8 m 9 4 (.ref p) := FmAt.op true h8 (s8 _ _ h7) (ty.same s68) (by omega) (by omega) (Fm.oks_mem.mpr fun g hg => (gg g hg).1) (by
      have := Fm.cnts_leS (k := 2) fun g hg => (gg g hg).2.1
      omega) (by
      have := Fm.deps_le (k := 2) fun g hg => (gg g hg).2.2
      omega)
    have tS : Ts H8 (upd H8 PL (HO.lst (vs ++ [V.ref p]))) := Ts.set hP8
    refine ⟨PL, vs, _, rfl, rfl, hP8, by rw [lvs]; exact Nat.lt_of_lt_of_le (show fs.length < 64 by omega) (by decide), ?_⟩
    refine ⟨_, _, _, _, vs ++ [.ref p], fs ++ [g], rfl, ((D6.same s68).upd oP.1 oP.2).mono (by push_cast; omega), Fr.upd (fr6.trans (Fr.of s68)) nPL, upd_same, ?_, by rw [List.length_append, l3]; rfl, fun k hk => ?_⟩
    · rw [List.map_append]
      exact (t3.ts (ts6.trans ((Ts.same s68).trans tS)) (noLs_map Fm.noL _)).append (.cons (tg.ts tS (Fm.noL g)) .nil)
    · rcases List.mem_append.mp hk with e | e
      · exact g3 k e
      · rw [List.mem_singleton.mp e]; exact ⟨okg, cg, dg⟩

end
end Gk

set_option Elab.async false
set_option linter.all false
set_option maxRecDepth 100000
set_option maxHeartbeats 1000000
set_option pp.maxSteps 1500
set_option pp.deepTerms false
namespace Gk
open PySem PySem.Spec PyProof.Rows L2
section
variable {P : Program} {w : World} {K : PySem.W.Frag} {mg : Str → Option Value} {base : Heap}
/-! ### a tuple told backwards: t[::-1]; and == against nothing -/
namespace TupRev
section
open PySem.W PySem.Calls HT
variable {prog : Program} {w : World} {A : Around} {E : Value → Shared → Prop} {s : Shared}
theorem adj_rev (n : Nat) : Builtin.Slice.sliceAdjust none none (-1) (n : Int) = ((n : Int) - 1, -1) := by
  first
    | rfl
    | simp [Builtin.Slice.sliceAdjust]
theorem places_rev (n : Nat) : Builtin.Slice.slicePlaces ((n : Int) - 1) (-1) (-1) = n := by
  unfold Builtin.Slice.slicePlaces
  by_cases h : n = 0
  · subst h
    decide
  · simp
    omega
theorem applied_rev {sl : Addr} {vl vu vs : Value} {n : Nat} {Q : Int × Int × Nat → Shared → Prop} (slice : s.heap.IsSliceOf sl vl vu vs) (pl : IsPart vl none) (pu : IsPart vu none) (ps : IsPart vs (some (-1))) (fin : Q ((n : Int) - 1, -1, n) s) :
    wpAny (model prog w) A (Builtin.Slice.sliceApplied (.ref sl) (pure (n : Int))) Q E s := by
  obtain ⟨o, ho, hc, parts⟩ := id slice
  unfold Builtin.Slice.sliceApplied Builtin.Slice.sliceFields
  refine wpAny_bind (wpAny_bind (wpAny_field ho parts (x := vl) rfl (wpAny_bind (wpAny_field ho parts (x := vu) rfl (wpAny_bind (wpAny_field ho parts (x := vs) rfl (wpAny_pure ?_)))))))
  refine wpAny_bind (slicePart_ ps ?_)
  show wpAny _ _ (if ((-1 : Int) == 0) = true then _ else _) _ _ s
  rw [if_neg (show ¬ _ by decide)]
  refine wpAny_bind (slicePart_ pl (wpAny_bind (slicePart_ pu (wpAny_bind (wpAny_pure (?_))))))
  show wpAny _ _ (match Builtin.Slice.sliceAdjust none none (-1) (n : Int) with | (a, b) => pure (a, (-1 : Int), Builtin.Slice.slicePlaces a b (-1))) _ _ s
  rw [adj_rev]
  show wpAny _ _ (pure ((n : Int) - 1, (-1 : Int), Builtin.Slice.slicePlaces ((n : Int) - 1) (-1) (-1))) _ _ s
  rw [places_rev]
  exact wpAny_pure fin
theorem pick_rev (xs : Array Value) : ((List.range xs.size).filterMap fun (k : Nat) => xs[((xs.size : Int) - 1 + (k : Int) * (-1)).toNat]?).toArray = xs.toList.reverse.toArray := by
  have e : ((List.range xs.size).filterMap fun (k : Nat) => xs[((xs.size : Int) - 1 + (k : Int) * (-1)).toNat]?) = ((List.range xs.size).map fun k => xs.size - 1 - k).filterMap (xs[·]?) := by
    rw [List.filterMap_map]
    congr 1
    funext k
    show xs[((xs.size : Int) - 1 + (k : Int) * (-1)).toNat]? = xs[xs.size - 1 - k]?
    rw [show ((xs.size : Int) - 1 + (k : Int) * (-1)).toNat = xs.size - 1 - k by omega]
  rw [e, krv_range, List.filterMap_reverse, krv_all]
theorem item_rev {t sl : Addr} {xs : Array Value} {vl vu vs : Value} {Q : Value → Shared → Prop} (tup : IsTup s.heap t xs) (slice : s.heap.IsSliceOf sl vl vu vs) (pl : IsPart vl none) (pu : IsPart vu none) (ps : IsPart vs (some (-1)))
    (fin : Q (.ref s.heap.objs.size) { s with heap := s.heap.push { cls := .type "tuple", data := .seq xs.toList.reverse.toArray } }) (few : xs.size ≤ sizeLine) : wpAny (model prog w) A (getItem (.ref t) (.ref sl)) Q E s := by
  have fits : sizeOk (.seq xs.toList.reverse.toArray) := by
    show xs.toList.reverse.toArray.size ≤ sizeLine
    rw [List.size_toArray, List.length_reverse, Array.length_toList]
    exact few
  obtain ⟨o, ho, hc, parts⟩ := id slice
  have ty : s.TypeIs (.ref sl) "slice" := ⟨o, ho, hc⟩
  unfold getItem
  (try with_reducible refine wpAny_holding (?_)); (first | refine wpAny_bind (wpAny_pure (?_)) | skip)
  refine wpAny_bind (wpAny_sequenceKey tup.typeIs (by decide) ?_)
  refine wpAny_bind (wpAny_callSpecial?_slot (name := Str.ofString "__getitem__") tup.typeIs PyProof.Rows.slot_tuple_getitem (wpAny_call_entry PyProof.Rows.slot_tuple_getitem tup.typeIs entry_tuple_getitem ?_ (args_tuple_getitem _ _)))
  show wpAny _ _ (Builtin.Tuple.tupleItemsOf (Value.ref t) >>= _) _ _ s
  refine wpAny_bind (tupleItemsOf_ tup (wpAny_bind (wpAny_typeOf ty ?_)))
  rw [if_pos (show _ by decide)]
  refine wpAny_bind (applied_rev slice pl pu ps ?_)
  have no : ¬ ((((xs.size : Int) - 1) == 0 && (-1 : Int) == 1 && xs.size == xs.size) = true) := by
    intro z
    rw [Bool.and_eq_true, Bool.and_eq_true] at z
    have := z.1.2
    revert this
    decide
  show wpAny _ _ (if ((((xs.size : Int) - 1) == 0 && (-1 : Int) == 1 && xs.size == xs.size)) = true then _ else _) _ _ s
  rw [if_neg no, pick_rev]
  first
    | exact wpAny_bind (m := Builtin.Tuple.tupleExact _) (wpAny_newObj_type (wpAny_pure ⟨_, rfl, wpAny_pure fin⟩) fits)
    | exact wpAny_bind (m := Builtin.Tuple.tupleExact _) (wpAny_newObj_type (wpAny_bind (wpAny_pure (wpAny_pure ⟨_, rfl, wpAny_pure fin⟩))) fits)
    | exact wpAny_bind (wpAny_bind (m := Builtin.Tuple.tupleExact _) (wpAny_newObj_type (wpAny_pure (wpAny_pure ⟨_, rfl, wpAny_pure fin⟩)) fits))
    | exact wpAny_bind (wpAny_bind (m := Builtin.Tuple.tupleExact _) (wpAny_newObj_type (wpAny_pure ⟨_, rfl, wpAny_pure fin⟩) fits))
end
section
variable {X : Cx}
def tRevT (K : PySem.W.Frag) (te : TE) : TE := fun σ H Q => te σ H fun x H1 => ∃ a xs, x = .ref a ∧ SqT K H1 a xs ∧ ∀ p, H1 p = none → Q (.ref p) (upd H1 p (.tup xs.reverse))
theorem pe_revT {e : Expr} {te : TE} {k : Nat} {p1 p2 p3 pos : Pos} (he : PE X e te) : PE X (.Subscript e (.Slice none none (some (.UnaryOp .USub (.Constant (.int 1) k p1) p2)) p3) pos) (tRevT X.K te) := by
  refine ⟨fun pins s σ H Q I told => Subscript_ (thn (he.run pins s σ H _ I told) ?_)⟩
  rintro v s1 ⟨x, H1, I1, r1, a, xs, rfl, tup, q⟩
  cases r1
  have back : PO X (some (.UnaryOp .USub (.Constant (.int 1) k p1) p2)) (tPart (tUn (rU fun i => .int (-i)) (tC (.int 1)))) := po_some (pe_un un_neg pe_int)
  refine wpAny_Slice (thn (po_none.run pins s1 σ H1 (fun o H2 => o = none ∧ H2 = H1) I1 ⟨rfl, rfl⟩) ?_)
  rintro vl s2 ⟨l, H2, I2, pl, rfl, rfl⟩
  refine thn (po_none.run pins s2 σ H2 (fun o H3 => o = none ∧ H3 = H2) I2 ⟨rfl, rfl⟩) ?_
  rintro vu s3 ⟨u, H3, I3, pu, rfl, rfl⟩
  refine thn (back.run pins s3 σ H3 (fun o H4 => o = some (-1) ∧ H4 = H3) I3 ⟨1, rfl, -1, rfl, rfl, rfl⟩) ?_
  rintro vs s4 ⟨o, H4, I4, ps, rfl, rfl⟩
  have J : Inv X pins σ H4 { s4 with heap := s4.heap.push { cls := .type "slice", data := .fields #[vl, vu, vs] } } := I4.kept (t' := s4.toks) fun b ob z => Heap.get?_push_of_some _ z
  obtain ⟨us, r, ht, few⟩ := J.tuple tup
  have ln := r.length
  show wpAny (model X.prog X.w) X.A (subscriptTail e (.Slice none none (some (.UnaryOp .USub (.Constant (.int 1) k p1) p2)) p3) (.ref a) (.ref s4.heap.objs.size)) (EP X pins σ Q) _ _
  refine tail_any (ops := [.ref a, .ref s4.heap.objs.size]) ht.typeIs (PyProof.Rows.slot_tuple_getitem.lookup) ?_ (by with_unfolding_all rfl)
  refine item_rev ht (Heap.IsSliceOf.new _ vl vu vs) pl pu ps ?_ (by rw [List.size_toArray]; omega)
  refine ⟨.ref _, _, J.laid (t' := s4.toks) (o := .tup xs.reverse) (fun b ob z => Heap.get?_push_of_some _ z) (Nat.le_refl _) ?_, rfl, q _ (J.hok.fresh (Nat.le_refl _))⟩
  exact ⟨by rw [List.length_reverse]; exact few, _, r.reverse, IsTup.new _ _⟩
/-- t == () of any tuple -/
def rEqE (K : PySem.W.Frag) : R2 := fun x y H Q => ∃ a b xs, x = .ref a ∧ y = .ref b ∧ SqT K H a xs ∧ SqT K H b [] ∧ Q (.bl xs.isEmpty) H
theorem op_eqE (hu : X.A.units + 64 < cLine) : OpR X (compareOp .Eq) (rEqE X.K) := by
  intro pins s σ H x y v u Q I rx ry h
  obtain ⟨a, b, xs, rfl, rfl, ha, hb, q⟩ := h
  cases rx
  cases ry
  obtain ⟨us, r1, t1, _⟩ := I.tuple ha
  obtain ⟨ws, r2, t2, _⟩ := I.tuple hb
  cases r2
  refine SeqAt.eq_tupleAt (items2 := #[]) (e := fun _ => true) t1 t2 (by omega) (fun j _ h2 => absurd h2 (Nat.not_lt_zero _)) ?_
  have : ((List.range (min us.toArray.size (#[] : Array Value).size)).all (fun _ => true) && us.toArray.size == (#[] : Array Value).size) = xs.isEmpty := by
    cases r1 with
    | nil => rfl
    | cons _ _ => simp
  show EP X pins σ Q (.bool ((List.range (min us.toArray.size (#[] : Array Value).size)).all (fun _ => true) && us.toArray.size == (#[] : Array Value).size)) s
  rw [this]
  exact ⟨.bl _, H, I, rfl, q⟩
/-- l == [] of any list -/
def rEqN (K : PySem.W.Frag) : R2 := fun x y H Q => ∃ a b xs, x = .ref a ∧ y = .ref b ∧ SqL K H a xs ∧ SqL K H b [] ∧ Q (.bl xs.isEmpty) H
theorem op_eqN (hu : X.A.units + 64 < cLine) : OpR X (compareOp .Eq) (rEqN X.K) := by
  intro pins s σ H x y v u Q I rx ry h
  obtain ⟨a, b, xs, rfl, rfl, ha, hb, q⟩ := h
  cases rx
  cases ry
  obtain ⟨us, r1, t1, _⟩ := I.list ha
  obtain ⟨ws, r2, t2, _⟩ := I.list hb
  cases r2
  cases r1 with
  | nil => exact SeqAt.eq_listAt (e := fun _ => true) t1.isList t2.isList rfl (by omega) (fun j h1 _ => absurd h1 (Nat.not_lt_zero _)) ⟨.bl true, H, I, rfl, q⟩
  | cons _ _ => exact SeqAt.eq_list_lengthsAt t1.isList t2.isList (by simp) (by omega) ⟨.bl false, H, I, rfl, q⟩
end
end TupRev

/-! ### ors of ors of one and -/
def sp_pulses (K : PySem.W.Frag) : Sp := fun vs H Q _ => ∃ (d l : Addr) (n : Int), vs = [.ref d] ∧ DeckC H d l n ∧ n ≤ 90000000 ∧ ∀ r H' v c a b, DeckC H' d l (n + 10) → Fr d l H H' → H' r = some (.tup [v, .ref c]) → FmAt H' 2 31 8 v → Tk H' (.ref c) (chD a b) → a.length = 2 → b.length = 2 → Row01 a → Row01 b → Q (.ref r) H'
theorem ok_pulses (T : Tx w K mg) : FnOk P w K mg base CX0 3 T.f_pulses T.fd_pulses ["_law_deck_here"] (sp_pulses K) := by
  refine T.F_pulses.ok sc_pulses (fun vs H Q E h => ?_) (fun cdv A outer s H vs Q E hr h => ?_)
  · obtain ⟨d, l, n, rfl, _⟩ := h
    rfl
  · obtain ⟨d, l, n, rfl, D, hn, q⟩ := h
    refine ⟨_, (pss_cons (ps_set (i := 1) sc_pulses.nd rfl (by first | exact .inl rfl | exact .inr rfl) (pe_tup (pa_cons pe_str (pa_cons (pe_tup (pa_cons (pe_tup (pa_cons pe_str (pa_cons pe_int pa_nil))) (pa_cons (pe_tup (pa_cons pe_str (pa_cons pe_int pa_nil))) pa_nil))) pa_nil)))) (pss_cons (ps_setLc (i := 2) (own := [("_law_k", 4)]) (by rfl) sc_pulses.nd rfl rfl (sw_true rfl rfl rfl (by decide +kernel)) (pi_range1 (by rfl) T.m_range (pa_cons (pe_op op_add pe_int (pe_call (ok_take T) (hr.mono (by decide)) (by rfl) T.g_take T.F_take.kp T.b_take .nil pass0 (pa_cons (pv 0) (pa_cons pe_int pa_nil)))) pa_nil)) (blkOk_by (own := [("_law_k", 4)]) (N := ["_law_deck_here", "_law_inner_here", "_law_ors", "_law_row", "_law_k"]) (sc := defScope s_pulses) (by decide +kernel)) (fun _ _ _ _ _ => (pg_name (i := 4) sc_pulses.nd rfl (by first | exact .inl rfl | exact .inr rfl))) (fun _ _ _ _ _ => pts_nil) (fun _ _ _ _ _ => (pe_tup (pa_cons pe_str (pa_cons (pe_op (show OpR _ _ (rRepT K) from op_repT) (pe_tup (pa_cons (pv 1) pa_nil)) (pe_op op_add pe_int (pe_call (ok_take T) (hr.mono (by decide)) (by rfl) T.g_take T.F_take.kp T.b_take .nil pass0 (pa_cons (pv 0) (pa_cons pe_int pa_nil))))) pa_nil))))) (pss_cons (ps_set (i := 3) sc_pulses.nd rfl (by first | exact .inl rfl | exact .inr rfl) (pe_ix ix_list (pe_lst (pa_cons (pe_tup (pa_cons pe_int (pa_cons pe_int pa_nil))) (pa_cons (pe_tup (pa_cons pe_int (pa_cons pe_int pa_nil))) pa_nil))) (pe_call (ok_take T) (hr.mono (by decide)) (by rfl) T.g_take T.F_take.kp T.b_take .nil pass0 (pa_cons (pv 0) (pa_cons pe_int pa_nil))) (fun _ _ => rfl))) (pss_one (ps_ret (pe_tup (pa_cons (pe_tup (pa_cons pe_str (pa_cons (pe_callTy call_tuple_of (by rfl) T.m_tuple (by decide +kernel) (pa_cons (pv 2) pa_nil)) pa_nil))) (pa_cons (pe_tup (pa_cons (pv 3) (pa_cons (TupRev.pe_revT (pv 3)) pa_nil))) pa_nil)))))))), ?_⟩
    refine ⟨sl2, fun p0 np0 => ?_⟩
    have s1 := same_upd (o := (HO.tup [V.str (Str.ofString "in"), V.int 0])) np0
    have h1 : upd H p0 (HO.tup [V.str (Str.ofString "in"), V.int 0]) p0 = some (HO.tup [V.str (Str.ofString "in"), V.int 0]) := upd_same
    generalize upd H p0 (HO.tup [V.str (Str.ofString "in"), V.int 0]) = H1 at s1 h1 ⊢
    refine ⟨sl2, fun p1 np1 => ?_⟩
    have s2 := same_upd (o := (HO.tup [V.str (Str.ofString "in"), V.int 1])) np1
    have h2 : upd H1 p1 (HO.tup [V.str (Str.ofString "in"), V.int 1]) p1 = some (HO.tup [V.str (Str.ofString "in"), V.int 1]) := upd_same
    generalize upd H1 p1 (HO.tup [V.str (Str.ofString "in"), V.int 1]) = H2 at s2 h2 ⊢
    refine ⟨sl2, fun p2 np2 => ?_⟩
    have s3 := same_upd (o := (HO.tup [V.ref p0, V.ref p1])) np2
    have h3 : upd H2 p2 (HO.tup [V.ref p0, V.ref p1]) p2 = some (HO.tup [V.ref p0, V.ref p1]) := upd_same
    generalize upd H2 p2 (HO.tup [V.ref p0, V.ref p1]) = H3 at s3 h3 ⊢
    refine ⟨sl2, fun pi npi => ?_⟩
    have s4 := same_upd (o := (HO.tup [V.str (Str.ofString "and"), V.ref p2])) npi
    have h4 : upd H3 pi (HO.tup [V.str (Str.ofString "and"), V.ref p2]) pi = some (HO.tup [V.str (Str.ofString "and"), V.ref p2]) := upd_same
    generalize upd H3 pi (HO.tup [V.str (Str.ofString "and"), V.ref p2]) = H4 at s4 h4 ⊢
    have s04 := s1.trans (s2.trans (s3.trans s4))
    have D4 := D.same s04
    have ti : TkAll H4 [V.ref p0, V.ref p1] ([Fm.inp 0, Fm.inp 1].map Fm.d) := .cons (.tup ((s2.trans (s3.trans s4)) _ _ h1) (.cons (.str _) (.cons (.int _) .nil))) (.cons (.tup ((s3.trans s4) _ _ h2) (.cons (.str _) (.cons (.int _) .nil))) .nil)
    obtain ⟨gi, tgi, oki, cgi, dgi⟩ : FmAt H4 2 3 2 (.ref pi) := FmAt.op true h4 (s4 _ _ h3) ti (by decide) (by decide) (by decide) (by decide) (by decide)
    refine ⟨.ref d, rfl, d, l, 2, _, rfl, D4, by omega, by decide, by decide, fun H5 x D5 fr5 x0 x1 => ⟨_, _, rfl, rfl, 2 + x, rfl, by omega, by omega, fun O nO => ?_⟩⟩
    have oO := D5.off nO
    have nO0 := none_of_frC ((Fr.of (d := d) (l := l) s04).trans fr5) D5 nO
    have en : (2 + x).toNat ≤ 3 ∧ 2 ≤ (2 + x).toNat := by omega
    refine lc_range (lo := 0) (n := (2 + x).toNat) (fun i H' => ∃ vs fs, DeckC H' d l (n + 1 + i) ∧ Fr d l H H' ∧ Ts H4 H' ∧ H' O = some (.lst vs) ∧ TkAll H' vs (List.map Fm.d fs) ∧ fs.length = i ∧ ∀ g ∈ fs, g.ok 2 = true ∧ g.cnt ≤ 10 ∧ g.dep ≤ 4) ⟨[], [], (D5.same (same_upd nO)).mono (by omega), ((Fr.of (d := d) (l := l) s04).trans fr5).trans (Fr.new nO), (Ts.frC D4 fr5).trans (Ts.new nO), upd_same, .nil, rfl, fun g h => by cases h⟩ ?_ ?_
    · rintro i H6 hi ⟨vs, fs, D6, fr6, ts6, hO6, tv, lf, gf⟩
      have lvs : vs.length = fs.length := by rw [tv.length, List.length_map]
      refine ⟨rfl, .ref pi, rfl, sl1, fun p3 np3 => ?_⟩
      have s7 := same_upd (o := (HO.tup [V.ref pi])) np3
      have h7 : upd H6 p3 (HO.tup [V.ref pi]) p3 = some (HO.tup [V.ref pi]) := upd_same
      generalize upd H6 p3 (HO.tup [V.ref pi]) = H7 at s7 h7 ⊢
      have D7 := D6.same s7
      refine ⟨.ref d, rfl, d, l, 2, _, rfl, D7, by omega, by decide, by decide, fun H8 y D8 fr8 y0 y1 => ⟨_, _, rfl, rfl, ?_⟩⟩
      obtain ⟨y, rfl⟩ := Int.eq_ofNat_of_zero_le y0
      have h8 := (Ts.frC D7 fr8) _ _ h7
      have e2 : (2 + ((y : Nat) : Int)).toNat = 2 + y := by omega
      refine ⟨p3, _, _, rfl, rfl, SqT.of h8, List.cons_ne_nil _ _, by omega, by omega, (show [V.ref pi].length ≤ 1000 from (show 1 ≤ 1000 by decide)), fun p4 np4 => ?_⟩
      rw [e2]
      have s9 := same_upd (o := (HO.tup (List.replicate (2 + y) [V.ref pi]).flatten)) np4
      have h9 : upd H8 p4 (HO.tup (List.replicate (2 + y) [V.ref pi]).flatten) p4 = some (HO.tup (List.replicate (2 + y) [V.ref pi]).flatten) := upd_same
      generalize upd H8 p4 (HO.tup (List.replicate (2 + y) [V.ref pi]).flatten) = H9 at s9 h9 ⊢
      refine ⟨sl2, fun p5 np5 => ?_⟩
      have sA := same_upd (o := (HO.tup [V.str (Str.ofString "or"), V.ref p4])) np5
      have hA : upd H9 p5 (HO.tup [V.str (Str.ofString "or"), V.ref p4]) p5 = some (HO.tup [V.str (Str.ofString "or"), V.ref p4]) := upd_same
      generalize upd H9 p5 (HO.tup [V.str (Str.ofString "or"), V.ref p4]) = HA at sA hA ⊢
      have s8A := s9.trans sA
      have ts4A : Ts H4 HA := ts6.trans ((Ts.same s7).trans ((Ts.frC D7 fr8).trans (Ts.same s8A)))
      have ts6A : Ts H6 HA := (Ts.same s7).trans ((Ts.frC D7 fr8).trans (Ts.same s8A))
      have tg := tgi.ts ts4A (Fm.noL gi)
      have rep : ∀ k : Nat, (List.replicate k [V.ref pi]).flatten = List.replicate k (V.ref pi) := fun k => by
        induction k with
        | zero => rfl
        | succ k ih => rw [List.replicate_succ, List.flatten_cons, ih, List.replicate_succ]; rfl
      have tr : ∀ k : Nat, TkAll HA (List.replicate k (V.ref pi)) ((List.replicate k gi).map Fm.d) := fun k => by
        induction k with
        | zero => exact .nil
        | succ k ih => rw [List.replicate_succ, List.replicate_succ]; exact .cons tg ih
      have h9A := sA _ _ h9
      rw [rep] at h9A
      have mem : ∀ g ∈ List.replicate (2 + y) gi, g = gi := fun g hg => List.eq_of_mem_replicate hg
      obtain ⟨g, tgo, okg, cg, dg⟩ : FmAt HA 2 10 4 (.ref p5) := FmAt.op false hA h9A (tr (2 + y)) (by rw [List.length_replicate]; omega) (by rw [List.length_replicate]; omega) (Fm.oks_mem.mpr fun g hg => by rw [mem g hg]; exact oki) (by
        have := Fm.cnts_leS (k := 3) fun g (hg : g ∈ List.replicate (2 + y) gi) => by rw [mem g hg]; exact cgi
        rw [List.length_replicate] at this
        omega) (by
        have := Fm.deps_le (k := 2) fun g (hg : g ∈ List.replicate (2 + y) gi) => by rw [mem g hg]; exact dgi
        omega)
      have hO8 := s8A _ _ (fr8 _ _ oO.1 oO.2 (s7 _ _ hO6))
      have tS : Ts HA (upd HA O (HO.lst (vs ++ [V.ref p5]))) := Ts.set hO8
      refine ⟨vs, hO8, by rw [lvs]; exact Nat.lt_of_lt_of_le (show fs.length < 64 by omega) (by decide), vs ++ [.ref p5], fs ++ [g], ((D8.same s8A).upd oO.1 oO.2).mono (by push_cast; omega), Fr.upd (((fr6.trans (Fr.of s7)).trans fr8).trans (Fr.of s8A)) nO0, ts4A.trans tS, upd_same, ?_, by rw [List.length_append, lf]; rfl, fun k hk => ?_⟩
      · rw [List.map_append]
        exact (tv.ts (ts6A.trans tS) (noLs_map Fm.noL _)).append (.cons (tgo.ts tS (Fm.noL g)) .nil)
      · rcases List.mem_append.mp hk with e | e
        · exact gf k e
        · rw [List.mem_singleton.mp e]; exact ⟨okg, cg, dg⟩
    rintro H6 ⟨vs, fs, D6, fr6, ts6, hO6, tv, lf, gf⟩
    have D6 : DeckC H6 d l (n + 4) := D6.mono (by omega)
    refine ⟨sl2, fun r1 nr1 => ?_⟩
    have s7 := same_upd (o := (HO.tup [V.int 0, V.int 1])) nr1
    have h7 : upd H6 r1 (HO.tup [V.int 0, V.int 1]) r1 = some (HO.tup [V.int 0, V.int 1]) := upd_same
    generalize upd H6 r1 (HO.tup [V.int 0, V.int 1]) = H7 at s7 h7 ⊢
    refine ⟨sl2, fun r2 nr2 => ?_⟩
    have s8 := same_upd (o := (HO.tup [V.int 1, V.int 0])) nr2
    have h8 : upd H7 r2 (HO.tup [V.int 1, V.int 0]) r2 = some (HO.tup [V.int 1, V.int 0]) := upd_same
    generalize upd H7 r2 (HO.tup [V.int 1, V.int 0]) = H8 at s8 h8 ⊢
    refine ⟨sl2, fun L nL => ?_⟩
    have s9 := same_upd (o := (HO.lst [V.ref r1, V.ref r2])) nL
    have h9 : upd H8 L (HO.lst [V.ref r1, V.ref r2]) L = some (HO.lst [V.ref r1, V.ref r2]) := upd_same
    generalize upd H8 L (HO.lst [V.ref r1, V.ref r2]) = H9 at s9 h9 ⊢
    have s69 := s7.trans (s8.trans s9)
    have oL := (D6.same (s7.trans s8)).off nL
    have D9 := D6.same s69
    refine ⟨.ref d, rfl, d, l, 2, _, rfl, D9, by omega, by decide, by decide, fun HA z DA frA z0 z1 => ?_⟩
    obtain ⟨z, rfl⟩ := Int.eq_ofNat_of_zero_le z0
    have ts9A := Ts.frC D9 frA
    obtain ⟨ro, a, hu, hro, la, a01⟩ : ∃ (ro : Addr) (a : List Int), atI [V.ref r1, V.ref r2] ((z : Nat) : Int) = some (.ref ro) ∧ HA ro = some (.tup (a.map V.int)) ∧ a.length = 2 ∧ Row01 a := by
      rcases (show z = 0 ∨ z = 1 by omega) with rfl | rfl
      · exact ⟨r1, [0, 1], at_0 _ _, ts9A _ _ ((s8.trans s9) _ _ h7), rfl, fun x hx => by simp at hx; omega⟩
      · exact ⟨r2, [1, 0], at_1 _ _ _, ts9A _ _ (s9 _ _ h8), rfl, fun x hx => by simp at hx; omega⟩
    refine ⟨L, _, _, _, rfl, rfl, SqL.of (frA _ _ oL.1 oL.2 h9), hu, ?_⟩
    have hOA := frA _ _ oO.1 oO.2 (s69 _ _ hO6)
    refine ⟨.ref O, rfl, O, _, rfl, .inl ⟨SqL.of hOA, fun t nt => ?_⟩⟩
    have sB := same_upd (o := (HO.tup vs)) nt
    have hB : upd HA t (HO.tup vs) t = some (HO.tup vs) := upd_same
    generalize upd HA t (HO.tup vs) = HB at sB hB ⊢
    refine ⟨sl2, fun p6 np6 => ?_⟩
    have sC := same_upd (o := (HO.tup [V.str (Str.ofString "or"), V.ref t])) np6
    have hC : upd HB p6 (HO.tup [V.str (Str.ofString "or"), V.ref t]) p6 = some (HO.tup [V.str (Str.ofString "or"), V.ref t]) := upd_same
    generalize upd HB p6 (HO.tup [V.str (Str.ofString "or"), V.ref t]) = HC at sC hC ⊢
    have sAC := sB.trans sC
    refine ⟨.ref ro, rfl, .ref ro, rfl, ro, _, rfl, SqT.of (sAC _ _ hro), fun p7 np7 => ?_⟩
    have sD := same_upd (o := (HO.tup (a.map V.int).reverse)) np7
    have hD : upd HC p7 (HO.tup (a.map V.int).reverse) p7 = some (HO.tup (a.map V.int).reverse) := upd_same
    generalize upd HC p7 (HO.tup (a.map V.int).reverse) = HD at sD hD ⊢
    refine ⟨sl2, fun p8 np8 => ?_⟩
    have sE := same_upd (o := (HO.tup [V.ref ro, V.ref p7])) np8
    have hE : upd HD p8 (HO.tup [V.ref ro, V.ref p7]) p8 = some (HO.tup [V.ref ro, V.ref p7]) := upd_same
    generalize upd HD p8 (HO.tup [V.ref ro, V.ref p7]) = HE at sE hE ⊢
    refine ⟨sl2, fun p9 np9 => ?_⟩
    have sF := same_upd (o := HO.tup [V.ref p6, V.ref p8]) np9
    have sCF := sD.trans (sE.trans sF)
    have sAF := sAC.trans sCF
    have ts6F : Ts H6 (upd HE p9 (HO.tup [V.ref p6, V.ref p8])) := (Ts.same s69).trans (ts9A.trans (Ts.same sAF))
    have lvs : vs.length = fs.length := by rw [tv.length, List.length_map]
    refine q p9 _ (.ref p6) p8 a a.reverse ((DA.same sAF).mono (by omega)) (((fr6.trans (Fr.of s69)).trans frA).trans (Fr.of sAF)) upd_same (FmAt.op false (sCF _ _ hC) ((sC.trans sCF) _ _ hB) (tv.ts ts6F (noLs_map Fm.noL _)) (by omega) (by omega) (Fm.oks_mem.mpr fun g hg => (gf g hg).1) ?_ ?_) (.tup (sF _ _ hE) (.cons (.tup (sAF _ _ hro) (TkAll.ints _)) (.cons (.tup ((sE.trans sF) _ _ hD) ?_) .nil))) la (by rw [List.length_reverse]; exact la) a01 (fun x hx => a01 x (List.mem_reverse.mp hx))
    · have := Fm.cnts_leS (k := 10) fun g hg => (gf g hg).2.1
      omega
    · have := Fm.deps_le (k := 4) fun g hg => (gf g hg).2.2
      omega
    · rw [← List.map_reverse]
      exact TkAll.ints _

end
end Gk

set_option Elab.async false
set_option linter.all false
set_option maxRecDepth 100000
set_option maxHeartbeats 1000000
set_option pp.maxSteps 1500
set_option pp.deepTerms false
namespace Gk
open PySem PySem.Spec PyProof.Rows L2
section
variable {P : Program} {w : World} {K : PySem.W.Frag} {mg : Str → Option Value} {base : Heap}
/-! ### the law -/
theorem Tabs.frC {H H' : Hp} {Ps : List Addr} {d l : Addr} {n : Int} (t : Tabs H Ps) (D : DeckC H d l n) (f : Fr d l H H') : Tabs H' Ps := fun P hP => tab_frC D f (t P hP)
def sp_law (K : PySem.W.Frag) (Ps : List Addr) : Sp := fun vs H Q _ => ∃ (a : Addr) (ns : List Int), vs = [.ref a] ∧ SqL K H a (ns.map V.int) ∧ ns.length ≤ 63 ∧ Tabs H Ps ∧ ∀ H', Q (.bl true) H'
theorem ok_law (T : Tx w K mg) (B : Tb base T) : FnG P w K mg base CX0 50 T.f_law T.fd_law ["_law_script"] (sp_law K T.tabs) := by
  refine okG0 T.F_law sc_law (fun vs H Q E h => ?_) (fun cdv A outer s H vs Q E nothing hr h => ?_)
  · obtain ⟨a, ns, rfl, _⟩ := h
    rfl
  · obtain ⟨a, ns, rfl, hS, hlen, tabs, q⟩ := h
    refine ⟨_, (pss_cons (ps_set (i := 1) sc_law.nd rfl (by first | exact .inl rfl | exact .inr rfl) (pe_call (ok_deck T) (hr.mono (by decide)) (by rfl) T.g_deck T.F_deck.kp T.b_deck .nil pass0 (pa_cons (pv 0) pa_nil))) (pss_cons (ps_for PassesOwn.never rfl (pi_range1 (by rfl) T.m_range (pa_cons pe_int pa_nil)) (pg_name (i := 2) sc_law.nd rfl (by first | exact .inl rfl | exact .inr rfl)) (pss_cons (ps_set (i := 3) sc_law.nd rfl (by first | exact .inl rfl | exact .inr rfl) (pe_cmpR op_eq (pe_call (ok_take T) (hr.mono (by decide)) (by rfl) T.g_take T.F_take.kp T.b_take .nil pass0 (pa_cons (pv 1) (pa_cons pe_int pa_nil))) pe_int (nomark _))) (pss_cons (ps_set (i := 4) sc_law.nd rfl (by first | exact .inl rfl | exact .inr rfl) (pe_op op_add pe_int (pe_call (ok_take T) (hr.mono (by decide)) (by rfl) T.g_take T.F_take.kp T.b_take .nil pass0 (pa_cons (pv 1) (pa_cons pe_int pa_nil))))) (pss_cons (ps_set (i := 5) sc_law.nd rfl (by first | exact .inl rfl | exact .inr rfl) (pe_call (ok_some_form T) (hr.mono (by decide)) (by rfl) T.g_some_form T.F_some_form.kp T.b_some_form .nil pass0 (pa_cons (pv 1) (pa_cons (pv 4) pa_nil)))) (C8.pss_cut (ps_if (pt_val (pv 3)) (pss_one (ps_set (i := 5) sc_law.nd rfl (by first | exact .inl rfl | exact .inr rfl) (pe_call (ok_sum T) (hr.mono (by decide)) (by rfl) T.g_sum T.F_sum.kp T.b_sum .nil pass0 (pa_cons (pv 1) (pa_cons (pv 4) pa_nil))))) pss_nil) (pss_one (ps_for PassesOwn.never rfl (pi_range1 (by rfl) T.m_range (pa_cons pe_int pa_nil)) (pg_name (i := 6) sc_law.nd rfl (by first | exact .inl rfl | exact .inr rfl)) (pss_one (ps_if (pt_not (pt_val (pe_callG (ok_right T B) nothing (hr.mono (by decide)) (by rfl) T.g_right T.F_right.kp T.b_right .nil pass0 (pa_cons (pv 5) (pa_cons (pe_call (ok_change T) (hr.mono (by decide)) (by rfl) T.g_change T.F_change.kp T.b_change .nil pass0 (pa_cons (pv 1) (pa_cons (pv 4) pa_nil))) pa_nil))))) (pss_one (ps_ret pe_bl)) pss_nil))))))))) (pss_cons (ps_asg (pe_call (ok_pulses T) (hr.mono (by decide)) (by rfl) T.g_pulses T.F_pulses.kp T.b_pulses .nil pass0 (pa_cons (pv 1) pa_nil)) (pg_tup rfl (pgs_cons (pg_name (i := 5) sc_law.nd rfl (by first | exact .inl rfl | exact .inr rfl)) (pgs_cons (pg_name (i := 7) sc_law.nd rfl (by first | exact .inl rfl | exact .inr rfl)) pgs_nil)))) (pss_cons (ps_if (pw_or (pt_not (pt_val (pe_callG (ok_right T B) nothing (hr.mono (by decide)) (by rfl) T.g_right T.F_right.kp T.b_right .nil pass0 (pa_cons (pv 5) (pa_cons (pv 7) pa_nil))))) (pw_or1 (pt_not (pt_val (pe_callG (ok_right T B) nothing (hr.mono (by decide)) (by rfl) T.g_right T.F_right.kp T.b_right .nil pass0 (pa_cons (pe_tup (pa_cons pe_str (pa_cons (pv 5) pa_nil))) (pa_cons (pv 7) pa_nil))))))).pt (pss_one (ps_ret pe_bl)) pss_nil) (pss_one (ps_ret (pe_cmpR (op_eqD hr.units) (pe_call (ok_form_word T B) (hr.mono (by decide)) (by rfl) T.g_form_word T.F_form_word.kp T.b_form_word .nil pass0 (pa_cons (pe_tup (pa_cons pe_str (pa_cons (pe_tup (pa_cons pe_str (pa_cons pe_int pa_nil))) pa_nil))) (pa_cons (pe_tup (pa_cons (pe_tup (pa_cons pe_int pa_nil)) (pa_cons (pe_tup (pa_cons pe_int pa_nil)) pa_nil))) pa_nil))) (pe_tup (pa_cons pe_int (pa_cons pe_int (pa_cons pe_bl pa_nil)))) (nomark _)))))))), ?_⟩
    have tmem : T.P_most_of_and ∈ T.tabs := by simp [Tx.tabs]
    refine ⟨.ref a, rfl, a, ns, rfl, hS, hlen, fun H1 d l s1 D1 => ?_⟩
    have t1 : Tabs H1 T.tabs := fun P hP => (Gr.of s1).2 _ (tabs P hP)
    refine ⟨6, rfl, by decide, by decide, ?_⟩
    refine for_range (lo := 0) (n := (6 : Int).toNat) (fun i σ H' => ∃ y2 y3 y4 y5 y6 y7, σ = [some (.ref a), some (.ref d), y2, y3, y4, y5, y6, y7] ∧ DeckC H' d l (2000 * i) ∧ Tabs H' T.tabs) ⟨_, _, _, _, _, _, rfl, D1.mono (by omega), t1⟩ ?_ ?_
    rotate_left
    · rintro σ H2 ⟨y2, y3, y4, y5, y6, y7, rfl, D2, t2⟩
      have D2 : DeckC H2 d l 12000 := D2.mono (by have : (6 : Int).toNat = 6 := rfl; omega)
      refine ⟨.ref d, rfl, d, l, _, rfl, D2, by omega, fun r H3 v c x y D3 fr3 hr3 fm tc lx ly x01 y01 => ?_⟩
      have t3 := t2.frC D2 fr3
      obtain ⟨f, tf, okf, cf, df⟩ := fm
      refine ⟨r, _, rfl, SqT.of hr3, rfl, _, _, rfl, _, _, rfl, rfl, ?_⟩
      refine ⟨v, rfl, .ref c, rfl, v, .ref c, f, 2, x, y, rfl, tf, okf, by omega, by omega, tc, lx, ly, x01, y01, t3 _ tmem, fun H4 g4 => ⟨true, rfl, iteF ?_⟩⟩
      refine ⟨v, rfl, sl2, fun p np => ?_⟩
      have s5 := same_upd (o := (HO.tup [V.str (Str.ofString "not"), v])) np
      have h5 : upd H4 p (HO.tup [V.str (Str.ofString "not"), v]) p = some (HO.tup [V.str (Str.ofString "not"), v]) := upd_same
      generalize upd H4 p (HO.tup [V.str (Str.ofString "not"), v]) = H5 at s5 h5 ⊢
      have g5 := g4.trans (Gr.of s5)
      have tn : Tk H5 (.ref p) (Fm.no f).d := .tup h5 (.cons (.str _) (.cons (tf.gr g5) .nil))
      refine ⟨.ref c, rfl, .ref p, .ref c, .no f, 2, x, y, rfl, tn, okf, by show f.dep + 1 ≤ 22; omega, by show 1 + f.cnt ≤ 40; omega, tc.gr g5, lx, ly, x01, y01, g5.2 _ (t3 _ tmem), fun H6 g6 => ⟨true, rfl, iteF ?_⟩⟩
      refine ⟨sl2, fun p1 np1 => ?_⟩
      have s7 := same_upd (o := (HO.tup [V.str (Str.ofString "in"), V.int 0])) np1
      have h7 : upd H6 p1 (HO.tup [V.str (Str.ofString "in"), V.int 0]) p1 = some (HO.tup [V.str (Str.ofString "in"), V.int 0]) := upd_same
      generalize upd H6 p1 (HO.tup [V.str (Str.ofString "in"), V.int 0]) = H7 at s7 h7 ⊢
      refine ⟨sl2, fun p2 np2 => ?_⟩
      have s8 := same_upd (o := (HO.tup [V.str (Str.ofString "not"), V.ref p1])) np2
      have h8 : upd H7 p2 (HO.tup [V.str (Str.ofString "not"), V.ref p1]) p2 = some (HO.tup [V.str (Str.ofString "not"), V.ref p1]) := upd_same
      generalize upd H7 p2 (HO.tup [V.str (Str.ofString "not"), V.ref p1]) = H8 at s8 h8 ⊢
      refine ⟨sl1, fun q1 nq1 => ?_⟩
      have s9 := same_upd (o := (HO.tup [V.int 0])) nq1
      have h9 : upd H8 q1 (HO.tup [V.int 0]) q1 = some (HO.tup [V.int 0]) := upd_same
      generalize upd H8 q1 (HO.tup [V.int 0]) = H9 at s9 h9 ⊢
      refine ⟨sl1, fun q2 nq2 => ?_⟩
      have sA := same_upd (o := (HO.tup [V.int 1])) nq2
      have hA : upd H9 q2 (HO.tup [V.int 1]) q2 = some (HO.tup [V.int 1]) := upd_same
      generalize upd H9 q2 (HO.tup [V.int 1]) = HA at sA hA ⊢
      refine ⟨sl2, fun q3 nq3 => ?_⟩
      have sB := same_upd (o := (HO.tup [V.ref q1, V.ref q2])) nq3
      have hB : upd HA q3 (HO.tup [V.ref q1, V.ref q2]) q3 = some (HO.tup [V.ref q1, V.ref q2]) := upd_same
      generalize upd HA q3 (HO.tup [V.ref q1, V.ref q2]) = HB at sB hB ⊢
      have s8B := s9.trans (sA.trans sB)
      have gB := (g5.trans g6).trans (Gr.of (s7.trans (s8.trans s8B)))
      have tf2 : Tk HB (.ref p2) (Fm.no (.inp 0)).d := .tup (s8B _ _ h8) (.cons (.str _) (.cons (.tup ((s8.trans s8B) _ _ h7) (.cons (.str _) (.cons (.int _) .nil))) .nil))
      have tc2 : Tk HB (.ref q3) (chD [0] [1]) := .tup hB (.cons (.tup ((sA.trans sB) _ _ h9) (.cons (.int _) .nil)) (.cons (.tup (sB _ _ hA) (.cons (.int _) .nil)) .nil))
      refine ⟨.ref p2, .ref q3, .no (.inp 0), 1, [0], [1], rfl, tf2, by decide, by decide, by decide, tc2, rfl, rfl, (fun x hx => by rw [List.mem_singleton.mp hx]; exact .inl rfl), (fun x hx => by rw [List.mem_singleton.mp hx]; exact .inr rfl), gB.2 _ (t3 _ tmem), fun p9 HC gC hC => ?_⟩
      refine ⟨sl3, fun p8 np8 => ?_⟩
      have sD := same_upd (o := (HO.tup [V.int 1, V.int 0, V.bl false])) np8
      have hD : upd HC p8 (HO.tup [V.int 1, V.int 0, V.bl false]) p8 = some (HO.tup [V.int 1, V.int 0, V.bl false]) := upd_same
      generalize upd HC p8 (HO.tup [V.int 1, V.int 0, V.bl false]) = HD at sD hD ⊢
      refine ⟨.tuple [.int 1, .int 0, .bool false], .tuple [.int 1, .int 0, .bool false], .tup (SqT.of (sD _ _ hC)) (.cons (.int _) (.cons (.int _) (.cons (.bl _) .nil))), .tup (SqT.of hD) (.cons (.int _) (.cons (.int _) (.cons (.bl _) .nil))), rfl, rfl, ?_⟩
      exact q HD
    rintro i σ H2 hi ⟨y2, y3, y4, y5, y6, y7, rfl, D2, t2⟩
    have i6 : (i : Int) ≤ 5 := by have : i < 6 := hi; omega
    refine ⟨.ref d, rfl, d, l, 3, _, rfl, D2, by omega, by decide, by decide, fun H3 wx D3 fr3 w0 w1 => ⟨rfl, ?_⟩⟩
    have t3 := t2.frC D2 fr3
    generalize decide (V.int wx = V.int 0) = wide
    refine ⟨.ref d, rfl, d, l, 6, _, rfl, D3, by omega, by decide, by decide, fun H4 mx D4 fr4 m0 m1 => ⟨_, _, rfl, rfl, ?_⟩⟩
    have t4 := t3.frC D3 fr4
    obtain ⟨mx, rfl⟩ := Int.eq_ofNat_of_zero_le m0
    obtain ⟨m, hm, m1', m6⟩ : ∃ m : Nat, (1 + ((mx : Nat) : Int)) = ((m : Nat) : Int) ∧ 1 ≤ m ∧ m ≤ 6 := ⟨1 + mx, by omega, by omega, by omega⟩
    dsimp only
    rw [hm]
    refine ⟨.ref d, rfl, .int (m : Nat), rfl, d, l, _, m, rfl, D4, by omega, m1', m6, fun v0 H5 D5 fr5 fm0 => ?_⟩
    have t5 := t4.frC D4 fr5
    refine ⟨fun σ' H' => ∃ v y6 y7, σ' = [some (.ref a), some (.ref d), some (.int (0 + (i : Nat))), some (.bl wide), some (.int (m : Nat)), some v, y6, y7] ∧ DeckC H' d l (2000 * i + 1750) ∧ Tabs H' T.tabs ∧ FmAt H' m 40 11 v, ?_, ?_⟩
    · refine ⟨.bl wide, rfl, wide, rfl, ite2 (fun _ => ?_) (fun _ => ?_)⟩
      · refine ⟨.ref d, rfl, .int (m : Nat), rfl, d, l, _, m, rfl, D5, by omega, m1', m6, fun v H6 D6 fr6 fm => ?_⟩
        exact ⟨v, _, _, rfl, D6.mono (by omega), t5.frC D5 fr6, fm⟩
      · exact ⟨v0, _, _, rfl, D5.mono (by omega), t5, fm0⟩
    rintro σ' H6 ⟨v, y6', y7', rfl, D6, t6, f, tf, okf, cf, df⟩
    refine ⟨3, rfl, by decide, by decide, ?_⟩
    refine for_range (lo := 0) (n := (3 : Int).toNat) (fun j σ H' => ∃ y6 y7, σ = [some (.ref a), some (.ref d), some (.int (0 + (i : Nat))), some (.bl wide), some (.int (m : Nat)), some v, y6, y7] ∧ DeckC H' d l (2000 * i + 1750 + 20 * j) ∧ Tabs H' T.tabs ∧ Tk H' v f.d) ⟨_, _, rfl, D6.mono (by omega), t6, tf⟩ ?_ ?_
    rotate_left
    · rintro σ H7 ⟨y6, y7, rfl, D7, t7, _⟩
      exact ⟨_, _, _, _, _, _, rfl, D7.mono (by have : (3 : Int).toNat = 3 := rfl; push_cast; omega), t7⟩
    rintro j σ H7 hj ⟨y6, y7, rfl, D7, t7, tf7⟩
    have j3 : (j : Int) ≤ 2 := by have : j < 3 := hj; omega
    refine ⟨v, rfl, .ref d, rfl, .int (m : Nat), rfl, d, l, _, m, rfl, D7, by omega, m1', m6, fun c H8 x y D8 fr8 tc lx ly x01 y01 => ?_⟩
    have t8 := t7.frC D7 fr8
    have tf8 := tf7.ts (Ts.frC D7 fr8) (Fm.noL f)
    refine ⟨v, .ref c, f, m, x, y, rfl, tf8, okf, by omega, cf, tc, lx, ly, x01, y01, t8 _ tmem, fun H9 g9 => ⟨true, rfl, iteF ?_⟩⟩
    exact ⟨_, _, rfl, (D8.gr g9).mono (by push_cast; omega), (fun P hP => g9.2 _ (t8 P hP)), tf8.gr g9⟩

end
def d_inner_of : He.DefD := ⟨("inner_of", none), "inner_of", "inner_of", defArgs s_inner_of, defBody s_inner_of, defScope s_inner_of, [], []⟩
def d_still_worth : He.DefD := ⟨("still_worth", none), "still_worth", "still_worth", defArgs s_still_worth, defBody s_still_worth, defScope s_still_worth, [], []⟩
def d_form_word : He.DefD := ⟨("form_word", none), "form_word", "form_word", defArgs s_form_word, defBody s_form_word, defScope s_form_word, [], []⟩
def d_form_greatest : He.DefD := ⟨("form_greatest", none), "form_greatest", "form_greatest", defArgs s_form_greatest, defBody s_form_greatest, defScope s_form_greatest, [], []⟩
def d_most_of : He.DefD := ⟨("most_of", none), "most_of", "most_of", defArgs s_most_of, defBody s_most_of, defScope s_most_of, [], []⟩
def d_about : He.DefD := ⟨("about", none), "about", "about", defArgs s_about, defBody s_about, defScope s_about, [], []⟩
def d_most_of_and : He.DefD := ⟨("most_of_and", none), "most_of_and", "most_of_and", defArgs s_most_of_and, defBody s_most_of_and, defScope s_most_of_and, [], []⟩
def d_deck : He.DefD := ⟨("_law_deck", none), "_law_deck", "_law_deck", defArgs s_deck, defBody s_deck, defScope s_deck, [], []⟩
def d_mixed : He.DefD := ⟨("_law_mixed", none), "_law_mixed", "_law_mixed", defArgs s_mixed, defBody s_mixed, defScope s_mixed, [], []⟩
def d_take : He.DefD := ⟨("_law_take", none), "_law_take", "_law_take", defArgs s_take, defBody s_take, defScope s_take, [], []⟩
def d_form : He.DefD := ⟨("_law_form", none), "_law_form", "_law_form", defArgs s_form, defBody s_form, defScope s_form, [], []⟩
def d_inner : He.DefD := ⟨("_law_inner", none), "_law_inner", "_law_inner", defArgs s_inner, defBody s_inner, defScope s_inner, [], []⟩
def d_count : He.DefD := ⟨("_law_count", none), "_law_count", "_law_count", defArgs s_count, defBody s_count, defScope s_count, [], []⟩
def d_some_form : He.DefD := ⟨("_law_some_form", none), "_law_some_form", "_law_some_form", defArgs s_some_form, defBody s_some_form, defScope s_some_form, [], []⟩
def d_tower : He.DefD := ⟨("_law_tower", none), "_law_tower", "_law_tower", defArgs s_tower, defBody s_tower, defScope s_tower, [], []⟩
def d_worth : He.DefD := ⟨("_law_worth", none), "_law_worth", "_law_worth", defArgs s_worth, defBody s_worth, defScope s_worth, [], []⟩
def d_pairs : He.DefD := ⟨("_law_pairs", none), "_law_pairs", "_law_pairs", defArgs s_pairs, defBody s_pairs, defScope s_pairs, [], []⟩
def d_word : He.DefD := ⟨("_law_word", none), "_law_word", "_law_word", defArgs s_word, defBody s_word, defScope s_word, [], []⟩
def d_counts : He.DefD := ⟨("_law_counts", none), "_law_counts", "_law_counts", defArgs s_counts, defBody s_counts, defScope s_counts, [], []⟩
def d_most : He.DefD := ⟨("_law_most", none), "_law_most", "_law_most", defArgs s_most, defBody s_most, defScope s_most, [], []⟩
def d_leaves : He.DefD := ⟨("_law_leaves", none), "_law_leaves", "_law_leaves", defArgs s_leaves, defBody s_leaves, defScope s_leaves, [], []⟩
def d_change : He.DefD := ⟨("_law_change", none), "_law_change", "_law_change", defArgs s_change, defBody s_change, defScope s_change, [], []⟩
def d_sum : He.DefD := ⟨("_law_sum", none), "_law_sum", "_law_sum", defArgs s_sum, defBody s_sum, defScope s_sum, [], []⟩
def d_right : He.DefD := ⟨("_law_right", none), "_law_right", "_law_right", defArgs s_right, defBody s_right, defScope s_right, [], []⟩
def d_pulses : He.DefD := ⟨("_law_pulses", none), "_law_pulses", "_law_pulses", defArgs s_pulses, defBody s_pulses, defScope s_pulses, [], []⟩
def d_law : He.DefD := ⟨("law", none), "law", "law", defArgs s_law, defBody s_law, defScope s_law, [], []⟩
def fn : List He.DefD := [d_inner_of, d_still_worth, d_form_word, d_form_greatest, d_most_of, d_about, d_most_of_and, d_deck, d_mixed, d_take, d_form, d_inner, d_count, d_some_form, d_tower, d_worth, d_pairs, d_word, d_counts, d_most, d_leaves, d_change, d_sum, d_right, d_pulses, d_law]
def fa : List He.Fa := [.glo "inner_of", .glo "still_worth", .glo "form_word", .glo "form_greatest", .glo "most_of", .glo "about", .glo "most_of_and", .glo "_law_deck", .glo "_law_mixed", .glo "_law_take", .glo "_law_form", .glo "_law_inner", .glo "_law_count", .glo "_law_some_form", .glo "_law_tower", .glo "_law_worth", .glo "_law_pairs", .glo "_law_word", .glo "_law_counts", .glo "_law_most", .glo "_law_leaves", .glo "_law_change", .glo "_law_sum", .glo "_law_right", .glo "_law_pulses", .glo "law", .free "enumerate", .free "int", .free "len", .free "list", .free "max", .free "min", .free "range", .free "repr", .free "reversed", .free "sum", .free "tuple", .free "zip", .glo "STILL"]
def tf : List He.Defn := [("most_of_and", none)]
abbrev RR : PySem.W.OpenRow := PySem.W.OpenLaw.row PySem.Challenge.rw_glitchnet_k56_words_and_numbers_of_forms
def yes : PySem.W.Frag → Bool := fun K => (KdS.kdB K "STILL" [(("one" : PySem.Str), KdS.Kv.i 1), (("nought" : PySem.Str), KdS.Kv.i 0)] && true)
def ts : List He.Tab := [(fun K => He.ga K "STILL", [("one" : PySem.Str), ("nought" : PySem.Str)])]
abbrev hk : PySem.W.Hook := He.hookX 4 fa fn ts tf yes
def ob (s : PySem.W.SharedT) : He.AlX := He.obsX 4 fa fn ts tf yes (HandSHeadRun.getT s)
theorem ob_eq (s : PySem.W.SharedT) : ob s = hk.obs s.abs := He.obsX_eq (HandSHeadRun.getT_eq s)
theorem run_false (w : World) : HandSHeadRun.RunEq RR (PySem.W.view RR.prog [29]) hk ob 3000 [("STILL" : PySem.Str), ("inner_of" : PySem.Str), ("still_worth" : PySem.Str), ("form_word" : PySem.Str), ("form_greatest" : PySem.Str), ("most_of" : PySem.Str), ("about" : PySem.Str), ("most_of_and" : PySem.Str), ("_law_deck" : PySem.Str), ("_law_mixed" : PySem.Str), ("_law_take" : PySem.Str), ("_law_form" : PySem.Str), ("_law_inner" : PySem.Str), ("_law_count" : PySem.Str), ("_law_some_form" : PySem.Str), ("_law_tower" : PySem.Str), ("_law_worth" : PySem.Str), ("_law_pairs" : PySem.Str), ("_law_word" : PySem.Str), ("_law_counts" : PySem.Str), ("_law_most" : PySem.Str), ("_law_leaves" : PySem.Str), ("_law_change" : PySem.Str), ("_law_sum" : PySem.Str), ("_law_right" : PySem.Str), ("_law_pulses" : PySem.Str)] (w.withFollow "special-get-raises" false) := by
  intro os
  kernel_rfl
theorem run_true (w : World) : HandSHeadRun.RunEq RR (PySem.W.view RR.prog [29]) hk ob 3000 [("STILL" : PySem.Str), ("inner_of" : PySem.Str), ("still_worth" : PySem.Str), ("form_word" : PySem.Str), ("form_greatest" : PySem.Str), ("most_of" : PySem.Str), ("about" : PySem.Str), ("most_of_and" : PySem.Str), ("_law_deck" : PySem.Str), ("_law_mixed" : PySem.Str), ("_law_take" : PySem.Str), ("_law_form" : PySem.Str), ("_law_inner" : PySem.Str), ("_law_count" : PySem.Str), ("_law_some_form" : PySem.Str), ("_law_tower" : PySem.Str), ("_law_worth" : PySem.Str), ("_law_pairs" : PySem.Str), ("_law_word" : PySem.Str), ("_law_counts" : PySem.Str), ("_law_most" : PySem.Str), ("_law_leaves" : PySem.Str), ("_law_change" : PySem.Str), ("_law_sum" : PySem.Str), ("_law_right" : PySem.Str), ("_law_pulses" : PySem.Str)] (w.withFollow "special-get-raises" true) := by
  intro os
  kernel_rfl
theorem run (w : World) : HandSHeadRun.RunEq RR (PySem.W.view RR.prog [29]) hk ob 3000 [("STILL" : PySem.Str), ("inner_of" : PySem.Str), ("still_worth" : PySem.Str), ("form_word" : PySem.Str), ("form_greatest" : PySem.Str), ("most_of" : PySem.Str), ("about" : PySem.Str), ("most_of_and" : PySem.Str), ("_law_deck" : PySem.Str), ("_law_mixed" : PySem.Str), ("_law_take" : PySem.Str), ("_law_form" : PySem.Str), ("_law_inner" : PySem.Str), ("_law_count" : PySem.Str), ("_law_some_form" : PySem.Str), ("_law_tower" : PySem.Str), ("_law_worth" : PySem.Str), ("_law_pairs" : PySem.Str), ("_law_word" : PySem.Str), ("_law_counts" : PySem.Str), ("_law_most" : PySem.Str), ("_law_leaves" : PySem.Str), ("_law_change" : PySem.Str), ("_law_sum" : PySem.Str), ("_law_right" : PySem.Str), ("_law_pulses" : PySem.Str)] w := by
  have e := World.withFollow_self w "special-get-raises"
  cases hb : w.params.followText "special-get-raises" <;> rw [hb] at e
  · rw [← e]
    exact run_false w
  · rw [← e]
    exact run_true w
theorem facts {w : World} {K : PySem.W.Frag} {h : Heap} {mg : Str → Option Value} {f : Addr} (X : K.In h) (G : h.Ns mainGlobals mg) (hfa : mg ("law" : Str) = some (.ref f)) (c : He.SaysX fa fn ts tf yes w h K) : LawAtG PySem.Challenge.rw_glitchnet_k56_words_and_numbers_of_forms w K CX0 50 63 "_law_script" mg f h := by
  obtain ⟨fd0, D0⟩ := c.t.d.def_ 0 (d := d_inner_of) rfl
  have F0 : Fun K "inner_of" "inner_of" s_inner_of (He.fAd K ("inner_of", none)) fd0 := fun_of D0
  have b0 := F0.binds (ps := ["form"]) fun _ _ _ _ _ _ us hl => match us, hl with | [_], _ => rfl
  obtain ⟨fd1, D1⟩ := c.t.d.def_ 1 (d := d_still_worth) rfl
  have F1 : Fun K "still_worth" "still_worth" s_still_worth (He.fAd K ("still_worth", none)) fd1 := fun_of D1
  have b1 := F1.binds (ps := ["form"]) fun _ _ _ _ _ _ us hl => match us, hl with | [_], _ => rfl
  obtain ⟨fd2, D2⟩ := c.t.d.def_ 2 (d := d_form_word) rfl
  have F2 : Fun K "form_word" "form_word" s_form_word (He.fAd K ("form_word", none)) fd2 := fun_of D2
  have b2 := F2.binds (ps := ["form", "change"]) fun _ _ _ _ _ _ us hl => match us, hl with | [_, _], _ => rfl
  obtain ⟨fd3, D3⟩ := c.t.d.def_ 3 (d := d_form_greatest) rfl
  have F3 : Fun K "form_greatest" "form_greatest" s_form_greatest (He.fAd K ("form_greatest", none)) fd3 := fun_of D3
  have b3 := F3.binds (ps := ["form", "change"]) fun _ _ _ _ _ _ us hl => match us, hl with | [_, _], _ => rfl
  obtain ⟨fd4, D4⟩ := c.t.d.def_ 4 (d := d_most_of) rfl
  have F4 : Fun K "most_of" "most_of" s_most_of (He.fAd K ("most_of", none)) fd4 := fun_of D4
  have b4 := F4.binds (ps := ["form", "change"]) fun _ _ _ _ _ _ us hl => match us, hl with | [_, _], _ => rfl
  obtain ⟨fd5, D5⟩ := c.t.d.def_ 5 (d := d_about) rfl
  have F5 : Fun K "about" "about" s_about (He.fAd K ("about", none)) fd5 := fun_of D5
  have b5 := F5.binds (ps := ["most"]) fun _ _ _ _ _ _ us hl => match us, hl with | [_], _ => rfl
  obtain ⟨fd6, D6⟩ := c.t.d.def_ 6 (d := d_most_of_and) rfl
  have F6 : Fun K "most_of_and" "most_of_and" s_most_of_and (He.fAd K ("most_of_and", none)) fd6 := fun_of D6
  have b6 := F6.binds (ps := ["parts"]) fun _ _ _ _ _ _ us hl => match us, hl with | [_], _ => rfl
  obtain ⟨fd7, D7⟩ := c.t.d.def_ 7 (d := d_deck) rfl
  have F7 : Fun K "_law_deck" "_law_deck" s_deck (He.fAd K ("_law_deck", none)) fd7 := fun_of D7
  have b7 := F7.binds (ps := ["_law_script"]) fun _ _ _ _ _ _ us hl => match us, hl with | [_], _ => rfl
  obtain ⟨fd8, D8⟩ := c.t.d.def_ 8 (d := d_mixed) rfl
  have F8 : Fun K "_law_mixed" "_law_mixed" s_mixed (He.fAd K ("_law_mixed", none)) fd8 := fun_of D8
  have b8 := F8.binds (ps := ["_law_cell", "_law_k"]) fun _ _ _ _ _ _ us hl => match us, hl with | [_, _], _ => rfl
  obtain ⟨fd9, D9⟩ := c.t.d.def_ 9 (d := d_take) rfl
  have F9 : Fun K "_law_take" "_law_take" s_take (He.fAd K ("_law_take", none)) fd9 := fun_of D9
  have b9 := F9.binds (ps := ["_law_deck_here", "_law_most_here"]) fun _ _ _ _ _ _ us hl => match us, hl with | [_, _], _ => rfl
  obtain ⟨fd10, D10⟩ := c.t.d.def_ 10 (d := d_form) rfl
  have F10 : Fun K "_law_form" "_law_form" s_form (He.fAd K ("_law_form", none)) fd10 := fun_of D10
  have b10 := F10.binds (ps := ["_law_deck_here", "_law_many", "_law_deep", "_law_left"]) fun _ _ _ _ _ _ us hl => match us, hl with | [_, _, _, _], _ => rfl
  obtain ⟨fd11, D11⟩ := c.t.d.def_ 11 (d := d_inner) rfl
  have F11 : Fun K "_law_inner" "_law_inner" s_inner (He.fAd K ("_law_inner", none)) fd11 := fun_of D11
  have b11 := F11.binds (ps := ["_law_form_here"]) fun _ _ _ _ _ _ us hl => match us, hl with | [_], _ => rfl
  obtain ⟨fd12, D12⟩ := c.t.d.def_ 12 (d := d_count) rfl
  have F12 : Fun K "_law_count" "_law_count" s_count (He.fAd K ("_law_count", none)) fd12 := fun_of D12
  have b12 := F12.binds (ps := ["_law_form_here"]) fun _ _ _ _ _ _ us hl => match us, hl with | [_], _ => rfl
  obtain ⟨fd13, D13⟩ := c.t.d.def_ 13 (d := d_some_form) rfl
  have F13 : Fun K "_law_some_form" "_law_some_form" s_some_form (He.fAd K ("_law_some_form", none)) fd13 := fun_of D13
  have b13 := F13.binds (ps := ["_law_deck_here", "_law_many"]) fun _ _ _ _ _ _ us hl => match us, hl with | [_, _], _ => rfl
  obtain ⟨fd14, D14⟩ := c.t.d.def_ 14 (d := d_tower) rfl
  have F14 : Fun K "_law_tower" "_law_tower" s_tower (He.fAd K ("_law_tower", none)) fd14 := fun_of D14
  have b14 := F14.binds (ps := ["_law_deck_here", "_law_many"]) fun _ _ _ _ _ _ us hl => match us, hl with | [_, _], _ => rfl
  obtain ⟨fd15, D15⟩ := c.t.d.def_ 15 (d := d_worth) rfl
  have F15 : Fun K "_law_worth" "_law_worth" s_worth (He.fAd K ("_law_worth", none)) fd15 := fun_of D15
  have b15 := F15.binds (ps := ["_law_form_here", "_law_row"]) fun _ _ _ _ _ _ us hl => match us, hl with | [_, _], _ => rfl
  obtain ⟨fd16, D16⟩ := c.t.d.def_ 16 (d := d_pairs) rfl
  have F16 : Fun K "_law_pairs" "_law_pairs" s_pairs (He.fAd K ("_law_pairs", none)) fd16 := fun_of D16
  have b16 := F16.binds (ps := ["_law_form_here", "_law_change_here"]) fun _ _ _ _ _ _ us hl => match us, hl with | [_, _], _ => rfl
  obtain ⟨fd17, D17⟩ := c.t.d.def_ 17 (d := d_word) rfl
  have F17 : Fun K "_law_word" "_law_word" s_word (He.fAd K ("_law_word", none)) fd17 := fun_of D17
  have b17 := F17.binds (ps := ["_law_form_here", "_law_change_here"]) fun _ _ _ _ _ _ us hl => match us, hl with | [_, _], _ => rfl
  obtain ⟨fd18, D18⟩ := c.t.d.def_ 18 (d := d_counts) rfl
  have F18 : Fun K "_law_counts" "_law_counts" s_counts (He.fAd K ("_law_counts", none)) fd18 := fun_of D18
  have b18 := F18.binds (ps := ["_law_numbers"]) fun _ _ _ _ _ _ us hl => match us, hl with | [_], _ => rfl
  obtain ⟨fd19, D19⟩ := c.t.d.def_ 19 (d := d_most) rfl
  have F19 : Fun K "_law_most" "_law_most" s_most (He.fAd K ("_law_most", none)) fd19 := fun_of D19
  have b19 := F19.binds (ps := ["_law_form_here", "_law_change_here"]) fun _ _ _ _ _ _ us hl => match us, hl with | [_, _], _ => rfl
  obtain ⟨fd20, D20⟩ := c.t.d.def_ 20 (d := d_leaves) rfl
  have F20 : Fun K "_law_leaves" "_law_leaves" s_leaves (He.fAd K ("_law_leaves", none)) fd20 := fun_of D20
  have b20 := F20.binds (ps := ["_law_form_here"]) fun _ _ _ _ _ _ us hl => match us, hl with | [_], _ => rfl
  obtain ⟨fd21, D21⟩ := c.t.d.def_ 21 (d := d_change) rfl
  have F21 : Fun K "_law_change" "_law_change" s_change (He.fAd K ("_law_change", none)) fd21 := fun_of D21
  have b21 := F21.binds (ps := ["_law_deck_here", "_law_many"]) fun _ _ _ _ _ _ us hl => match us, hl with | [_, _], _ => rfl
  obtain ⟨fd22, D22⟩ := c.t.d.def_ 22 (d := d_sum) rfl
  have F22 : Fun K "_law_sum" "_law_sum" s_sum (He.fAd K ("_law_sum", none)) fd22 := fun_of D22
  have b22 := F22.binds (ps := ["_law_deck_here", "_law_many"]) fun _ _ _ _ _ _ us hl => match us, hl with | [_, _], _ => rfl
  obtain ⟨fd23, D23⟩ := c.t.d.def_ 23 (d := d_right) rfl
  have F23 : Fun K "_law_right" "_law_right" s_right (He.fAd K ("_law_right", none)) fd23 := fun_of D23
  have b23 := F23.binds (ps := ["_law_form_here", "_law_change_here"]) fun _ _ _ _ _ _ us hl => match us, hl with | [_, _], _ => rfl
  obtain ⟨fd24, D24⟩ := c.t.d.def_ 24 (d := d_pulses) rfl
  have F24 : Fun K "_law_pulses" "_law_pulses" s_pulses (He.fAd K ("_law_pulses", none)) fd24 := fun_of D24
  have b24 := F24.binds (ps := ["_law_deck_here"]) fun _ _ _ _ _ _ us hl => match us, hl with | [_], _ => rfl
  obtain ⟨fd25, D25⟩ := c.t.d.def_ 25 (d := d_law) rfl
  have F25 : Fun K "law" "law" s_law (He.fAd K ("law", none)) fd25 := fun_of D25
  have b25 := F25.binds (ps := ["_law_script"]) fun _ _ _ _ _ _ us hl => match us, hl with | [_], _ => rfl
  have mo := c.more
  obtain ⟨y0, mo⟩ := He.ba mo
  have e := hfa.symm.trans (He.glo_ok X G (c.t.d.fact 25 (f := .glo "law") rfl))
  cases e
  let T : Tx w K mg := { f_inner_of := _, fd_inner_of := _, F_inner_of := F0, g_inner_of := He.glo_ok X G (c.t.d.fact 0 (f := .glo "inner_of") rfl), b_inner_of := b0, f_still_worth := _, fd_still_worth := _, F_still_worth := F1, g_still_worth := He.glo_ok X G (c.t.d.fact 1 (f := .glo "still_worth") rfl), b_still_worth := b1, f_form_word := _, fd_form_word := _, F_form_word := F2, g_form_word := He.glo_ok X G (c.t.d.fact 2 (f := .glo "form_word") rfl), b_form_word := b2, f_form_greatest := _, fd_form_greatest := _, F_form_greatest := F3, g_form_greatest := He.glo_ok X G (c.t.d.fact 3 (f := .glo "form_greatest") rfl), b_form_greatest := b3, f_most_of := _, fd_most_of := _, F_most_of := F4, g_most_of := He.glo_ok X G (c.t.d.fact 4 (f := .glo "most_of") rfl), b_most_of := b4, f_about := _, fd_about := _, F_about := F5, g_about := He.glo_ok X G (c.t.d.fact 5 (f := .glo "about") rfl), b_about := b5, f_most_of_and := _, fd_most_of_and := _, F_most_of_and := F6, g_most_of_and := He.glo_ok X G (c.t.d.fact 6 (f := .glo "most_of_and") rfl), b_most_of_and := b6, c_most_of_and := (He.cT K ("most_of_and", none)).1, P_most_of_and := (He.cT K ("most_of_and", none)).2, cd_most_of_and := code_of F6, f_deck := _, fd_deck := _, F_deck := F7, g_deck := He.glo_ok X G (c.t.d.fact 7 (f := .glo "_law_deck") rfl), b_deck := b7, f_mixed := _, fd_mixed := _, F_mixed := F8, g_mixed := He.glo_ok X G (c.t.d.fact 8 (f := .glo "_law_mixed") rfl), b_mixed := b8, f_take := _, fd_take := _, F_take := F9, g_take := He.glo_ok X G (c.t.d.fact 9 (f := .glo "_law_take") rfl), b_take := b9, f_form := _, fd_form := _, F_form := F10, g_form := He.glo_ok X G (c.t.d.fact 10 (f := .glo "_law_form") rfl), b_form := b10, f_inner := _, fd_inner := _, F_inner := F11, g_inner := He.glo_ok X G (c.t.d.fact 11 (f := .glo "_law_inner") rfl), b_inner := b11, f_count := _, fd_count := _, F_count := F12, g_count := He.glo_ok X G (c.t.d.fact 12 (f := .glo "_law_count") rfl), b_count := b12, f_some_form := _, fd_some_form := _, F_some_form := F13, g_some_form := He.glo_ok X G (c.t.d.fact 13 (f := .glo "_law_some_form") rfl), b_some_form := b13, f_tower := _, fd_tower := _, F_tower := F14, g_tower := He.glo_ok X G (c.t.d.fact 14 (f := .glo "_law_tower") rfl), b_tower := b14, f_worth := _, fd_worth := _, F_worth := F15, g_worth := He.glo_ok X G (c.t.d.fact 15 (f := .glo "_law_worth") rfl), b_worth := b15, f_pairs := _, fd_pairs := _, F_pairs := F16, g_pairs := He.glo_ok X G (c.t.d.fact 16 (f := .glo "_law_pairs") rfl), b_pairs := b16, f_word := _, fd_word := _, F_word := F17, g_word := He.glo_ok X G (c.t.d.fact 17 (f := .glo "_law_word") rfl), b_word := b17, f_counts := _, fd_counts := _, F_counts := F18, g_counts := He.glo_ok X G (c.t.d.fact 18 (f := .glo "_law_counts") rfl), b_counts := b18, f_most := _, fd_most := _, F_most := F19, g_most := He.glo_ok X G (c.t.d.fact 19 (f := .glo "_law_most") rfl), b_most := b19, f_leaves := _, fd_leaves := _, F_leaves := F20, g_leaves := He.glo_ok X G (c.t.d.fact 20 (f := .glo "_law_leaves") rfl), b_leaves := b20, f_change := _, fd_change := _, F_change := F21, g_change := He.glo_ok X G (c.t.d.fact 21 (f := .glo "_law_change") rfl), b_change := b21, f_sum := _, fd_sum := _, F_sum := F22, g_sum := He.glo_ok X G (c.t.d.fact 22 (f := .glo "_law_sum") rfl), b_sum := b22, f_right := _, fd_right := _, F_right := F23, g_right := He.glo_ok X G (c.t.d.fact 23 (f := .glo "_law_right") rfl), b_right := b23, f_pulses := _, fd_pulses := _, F_pulses := F24, g_pulses := He.glo_ok X G (c.t.d.fact 24 (f := .glo "_law_pulses") rfl), b_pulses := b24, f_law := _, fd_law := _, F_law := F25, g_law := He.glo_ok X G (c.t.d.fact 25 (f := .glo "law") rfl), b_law := b25, m_enumerate := He.free_ok X G (c.t.d.fact 26 (f := .free "enumerate") rfl), m_int := He.free_ok X G (c.t.d.fact 27 (f := .free "int") rfl), m_len := He.free_ok X G (c.t.d.fact 28 (f := .free "len") rfl), m_list := He.free_ok X G (c.t.d.fact 29 (f := .free "list") rfl), m_max := He.free_ok X G (c.t.d.fact 30 (f := .free "max") rfl), m_min := He.free_ok X G (c.t.d.fact 31 (f := .free "min") rfl), m_range := He.free_ok X G (c.t.d.fact 32 (f := .free "range") rfl), m_repr := He.free_ok X G (c.t.d.fact 33 (f := .free "repr") rfl), m_reversed := He.free_ok X G (c.t.d.fact 34 (f := .free "reversed") rfl), m_sum := He.free_ok X G (c.t.d.fact 35 (f := .free "sum") rfl), m_tuple := He.free_ok X G (c.t.d.fact 36 (f := .free "tuple") rfl), m_zip := He.free_ok X G (c.t.d.fact 37 (f := .free "zip") rfl), A_STILL := _, gA_STILL := He.glo_ok X G (c.t.d.fact 38 (f := .glo "STILL") rfl), kd_STILL := c.t.tab 0, kv_STILL := KdS.kdB_ok y0 }
  refine ⟨fd25, tf.map (He.cT K), sp_law K T.tabs, ?_, ?_, ?_, ?_, ?_, ?_⟩
  · rintro p hp
    obtain ⟨d, hd, rfl⟩ := List.mem_map.mp hp
    exact c.empty d hd
  · rintro p hp
    obtain ⟨d, hd, rfl⟩ := List.mem_map.mp hp
    exact c.out d hd
  · rintro p hp
    obtain ⟨d, hd, rfl⟩ := List.mem_map.mp hp
    exact PySem.W.codeHd_of_K X (c.hd d hd)
  · obtain ⟨oc, od, kV, doc, pm, an, cdv, ct, osl, rfl, lk, hcd⟩ := F25.ex
    exact fun s v => .of_eq rfl
  · intro H a ns hl hbits hT hS
    refine ⟨a, ns, rfl, hS, hl, fun P hP => ?_, fun _ => rfl⟩
    have hP : P ∈ (tf.map (He.cT K)).map (·.2) := hP
    obtain ⟨p, hp, rfl⟩ := List.mem_map.mp hP
    exact ⟨#[], hT p hp, by trivial⟩
  · intro base KB GB hTB
    have B : Tb base T := ⟨tab_of (hTB (He.cT K ("most_of_and", none)) (List.mem_map.mpr ⟨_, (show (("most_of_and", none) : He.Defn) ∈ tf by decide), rfl⟩))⟩
    exact ok_law T B
end Gk
open PySem PySem.W PyProof.Rows
set_option maxRecDepth 100000 in
set_option maxHeartbeats 0 in
theorem PySem.Challenge.cw_glitchnet_k56_words_and_numbers_of_forms_holds : PySem.Challenge.rw_glitchnet_k56_words_and_numbers_of_forms.Holds := by
  w_on; o_law
  refine HandSHeadRun.head_any (r := OpenLaw.row PySem.Challenge.rw_glitchnet_k56_words_and_numbers_of_forms) (q := view (OpenLaw.row PySem.Challenge.rw_glitchnet_k56_words_and_numbers_of_forms).prog [29]) (H := Gk.hk) (ob := Gk.ob) (M := 3000) (loose := [("STILL" : PySem.Str), ("inner_of" : PySem.Str), ("still_worth" : PySem.Str), ("form_word" : PySem.Str), ("form_greatest" : PySem.Str), ("most_of" : PySem.Str), ("about" : PySem.Str), ("most_of_and" : PySem.Str), ("_law_deck" : PySem.Str), ("_law_mixed" : PySem.Str), ("_law_take" : PySem.Str), ("_law_form" : PySem.Str), ("_law_inner" : PySem.Str), ("_law_count" : PySem.Str), ("_law_some_form" : PySem.Str), ("_law_tower" : PySem.Str), ("_law_worth" : PySem.Str), ("_law_pairs" : PySem.Str), ("_law_word" : PySem.Str), ("_law_counts" : PySem.Str), ("_law_most" : PySem.Str), ("_law_leaves" : PySem.Str), ("_law_change" : PySem.Str), ("_law_sum" : PySem.Str), ("_law_right" : PySem.Str), ("_law_pulses" : PySem.Str)]) (d := HandSHeadRun.topDef (OpenLaw.row PySem.Challenge.rw_glitchnet_k56_words_and_numbers_of_forms).prog 29) (kwd := []) Gk.ob_eq
    (by kernel_rfl) (fun s => by kernel_rfl) Gk.run (by kernel_rfl) (by kernel_rfl) (by kernel_rfl) (by rfl) (by first | assumption | decide +kernel) (by decide +kernel) ⟨rfl, rfl, rfl, rfl, rfl, by decide +kernel⟩ ?hw ?hc
  case hw => w_witness2
  case hc =>
    refine Gk.walk_GT (l := PySem.Challenge.rw_glitchnet_k56_words_and_numbers_of_forms) (n := 63) (k := 50) (x := "_law_script") (CX := fun _ => L2.CX0) rfl (by decide) (by kernel_rfl) ⟨rfl, by decide, by decide⟩ ?F (fun _ _ _ _ _ z => z)
    intro w mg fa h Y G hmg0
    obtain ⟨K, KX, c⟩ := Y
    have hmg : mg ("law" : PySem.Str) = some (.ref fa) := by
      have e : (HandSHeadRun.topDef (OpenLaw.row PySem.Challenge.rw_glitchnet_k56_words_and_numbers_of_forms).prog 29).name = ("law" : PySem.Str) := by kernel_rfl
      rw [← e]
      exact hmg0
    exact ⟨K, KX, Gk.facts KX G hmg c⟩
