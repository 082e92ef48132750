import PyProof.Rows.All
import Wide.All
import OpenK.AllK
import Wide.FinOn
import HandS.ForMost
import HandS.IsInst
import HandS.TupLe
import HandS.TupAny
import HandS.TupMul
import HandS.More
import HandS.Codes
import HandS.Conv
import HandS.Deep
import HandS.TupSets
import HandS.Style
import HandS.Strs
import HandS.AnyAll
import HandS.GenList
import HandS.JoinGen
import HandS.Zip
import HandS.Rev
import HandS.SetFor
import HandS.FStr
import HandS.RevTup
import HandS.Head0
import HandS.Head1
import HandS.Head2
import HandS.HeadEnd
import HandS.HeadHook1
import HandS.HeadHook2
import HandS.HeadHook3
import HandS.HeadHook4
import HandS.HeadWalk
import HandS.Defaults
import HandS.ReplaceLit
import KE.KUnpackStar
import PyProof.ReprLen
import PyProof.ReprRoads
import PySem.Challenge.RW_glitchnet_k54_what_is_a_form
import KE.KRevSl
set_option Elab.async false
set_option linter.all false
set_option maxRecDepth 100000
set_option maxHeartbeats 1000000
namespace Gk
open PySem PySem.Spec PyProof.Rows L2
/-! ### a module's dict with texts as keys -/
namespace KdS
open PySem PySem.Spec PyProof.Rows L2
inductive Kv where
  | i (n : Int)
  | s (x : PySem.Str)
  | r
def Kv.ok : Kv → Value → Bool
  | .i n, .int j _ => decide (j = n)
  | .s x, .str y _ => decide (y = x)
  | .r, .ref _ => true
  | _, _ => false
def kvB : List (PySem.Str × Kv) → List DictEntry → Bool
  | [], [] => true
  | (k, v) :: r, e :: t => (match e.key with
    | .str x _ => decide (x = k)
    | _ => false) && (v.ok e.val && kvB r t)
  | _, _ => false
def kdB (K : PySem.W.Frag) (x : PySem.Str) (kvs : List (PySem.Str × Kv)) : Bool := match K.lookup (He.ga K x) with
  | some ⟨_, _, .dict es _, _⟩ => kvB kvs es.toList
  | _ => false
def find : List (PySem.Str × Kv) → PySem.Str → Option Kv
  | [], _ => none
  | (k, v) :: r, z => if k = z then some v else find r z
/-- what the dict has at a text -/
def At (K : PySem.W.Frag) (a : Addr) (kvs : List (PySem.Str × Kv)) (z : PySem.Str) : Prop := ∃ r : Option Value, PySem.W.nsIn K a z = some r ∧ ((∃ kv u, find kvs z = some kv ∧ r = some u ∧ kv.ok u = true) ∨ (find kvs z = none ∧ r = none))
theorem kv_find : ∀ {kvs : List (PySem.Str × Kv)} {es : List DictEntry}, kvB kvs es = true → ∀ z : PySem.Str, es.any (·.refKey) = false ∧
    ((∃ kv e, find kvs z = some kv ∧ es.find? (·.key.isStr z) = some e ∧ kv.ok e.val = true) ∨ (find kvs z = none ∧ es.find? (·.key.isStr z) = none))
  | [], [], _, z => ⟨rfl, .inr ⟨rfl, rfl⟩⟩
  | [], _ :: _, h, _ => by cases h
  | _ :: _, [], h, _ => by cases h
  | (k, v) :: r, e :: t, h, z => by
    unfold kvB at h
    obtain ⟨h1, h2⟩ := He.ba h
    obtain ⟨h3, h4⟩ := He.ba h2
    obtain ⟨i1, i2⟩ := kv_find h4 z
    obtain ⟨eh, ek, ev⟩ := e
    split at h1
    · rename_i x tk e1
      have e1 : ek = .str x tk := e1
      have h1 : x = k := of_decide_eq_true h1
      subst e1 h1
      refine ⟨?_, ?_⟩
      · rw [List.any_cons, i1, Bool.or_false]
        rfl
      · by_cases hz : x = z
        · refine .inl ⟨v, ⟨eh, .str x tk, ev⟩, if_pos hz, ?_, h3⟩
          rw [List.find?_cons_of_pos]
          show (Value.str x tk).isStr z = true
          subst hz
          exact decide_eq_true rfl
        · have nz : (Value.str x tk).isStr z = false := decide_eq_false hz
          rcases i2 with ⟨kv, e', f1, f2, f3⟩ | ⟨f1, f2⟩
          · refine .inl ⟨kv, e', (if_neg hz).trans f1, ?_, f3⟩
            rw [List.find?_cons_of_neg (by show ¬ (Value.str x tk).isStr z = true; rw [nz]; exact Bool.false_ne_true)]
            exact f2
          · refine .inr ⟨(if_neg hz).trans f1, ?_⟩
            rw [List.find?_cons_of_neg (by show ¬ (Value.str x tk).isStr z = true; rw [nz]; exact Bool.false_ne_true)]
            exact f2
    · cases h1
theorem kdB_ok {K : PySem.W.Frag} {x : PySem.Str} {kvs : List (PySem.Str × Kv)} (h : kdB K x kvs = true) (z : PySem.Str) : At K (He.ga K x) kvs z := by
  unfold kdB at h
  split at h
  · rename_i es n sl e
    obtain ⟨h1, h2⟩ := kv_find h z
    unfold At PySem.W.nsIn
    rw [e]
    dsimp only
    rcases h2 with ⟨kv, e', f1, f2, f3⟩ | ⟨f1, f2⟩
    · rw [f2]
      exact ⟨_, rfl, .inl ⟨kv, _, f1, rfl, f3⟩⟩
    · rw [f2]
      dsimp only
      rw [h1]
      exact ⟨none, rfl, .inr ⟨f1, rfl⟩⟩
  · cases h
end KdS

/-! ### the text -/
def topS (i : Nat) : Stmt := PySem.Challenge.pw_glitchnet_k54_what_is_a_form.main.body.getD i (.Pass ⟨0, 0, 0, 0⟩)
abbrev s_is_whole : Stmt := topS 1
abbrev s_is_form : Stmt := topS 6
abbrev s_is_outside : Stmt := topS 7
abbrev s_inner_of : Stmt := topS 8
abbrev s_deck : Stmt := topS 10
abbrev s_mixed : Stmt := topS 11
abbrev s_take : Stmt := topS 12
abbrev s_put : Stmt := topS 13
abbrev s_other : Stmt := topS 14
abbrev s_spoilt : Stmt := topS 15
abbrev s_form : Stmt := topS 16
abbrev s_inner : Stmt := topS 17
abbrev s_count : Stmt := topS 18
abbrev s_some_form : Stmt := topS 19
abbrev s_tower : Stmt := topS 20
abbrev s_whole : Stmt := topS 21
abbrev s_l_is_form : Stmt := topS 22
abbrev s_wide : Stmt := topS 23
abbrev s_nots : Stmt := topS 24
abbrev s_right : Stmt := topS 25
abbrev s_law : Stmt := topS 26
theorem sc_is_whole : FnScope ["thing"] ["thing"] (defScope s_is_whole) := ⟨rfl, rfl, rfl, by decide +kernel, rfl, by decide +kernel, by decide +kernel⟩
theorem sc_is_form : FnScope ["many", "thing", "left", "part"] ["many", "thing"] (defScope s_is_form) := ⟨rfl, rfl, rfl, by decide +kernel, rfl, by decide +kernel, by decide +kernel⟩
theorem sc_is_outside : FnScope ["many", "thing", "head", "rest"] ["many", "thing"] (defScope s_is_outside) := ⟨rfl, rfl, rfl, by decide +kernel, rfl, by decide +kernel, by decide +kernel⟩
theorem sc_inner_of : FnScope ["form"] ["form"] (defScope s_inner_of) := ⟨rfl, rfl, rfl, by decide +kernel, rfl, by decide +kernel, by decide +kernel⟩
theorem sc_deck : FnScope ["_law_script"] ["_law_script"] (defScope s_deck) := ⟨rfl, rfl, rfl, by decide +kernel, rfl, by decide +kernel, by decide +kernel⟩
theorem sc_mixed : FnScope ["_law_cell", "_law_k", "_law_number"] ["_law_cell", "_law_k"] (defScope s_mixed) := ⟨rfl, rfl, rfl, by decide +kernel, rfl, by decide +kernel, by decide +kernel⟩
theorem sc_take : FnScope ["_law_deck_here", "_law_most", "_law_cells", "_law_cell"] ["_law_deck_here", "_law_most"] (defScope s_take) := ⟨rfl, rfl, rfl, by decide +kernel, rfl, by decide +kernel, by decide +kernel⟩
theorem sc_put : FnScope ["_law_row", "_law_at", "_law_part"] ["_law_row", "_law_at", "_law_part"] (defScope s_put) := ⟨rfl, rfl, rfl, by decide +kernel, rfl, by decide +kernel, by decide +kernel⟩
theorem sc_other : FnScope ["_law_deck_here", "_law_thing", "_law_way", "_law_odd", "_law_at", "_law_sign", "_law_some"] ["_law_deck_here", "_law_thing"] (defScope s_other) := ⟨rfl, rfl, rfl, by decide +kernel, rfl, by decide +kernel, by decide +kernel⟩
theorem sc_spoilt : FnScope ["_law_deck_here", "_law_thing", "_law_deep", "_law_at"] ["_law_deck_here", "_law_thing", "_law_deep"] (defScope s_spoilt) := ⟨rfl, rfl, rfl, by decide +kernel, rfl, by decide +kernel, by decide +kernel⟩
theorem sc_form : FnScope ["_law_deck_here", "_law_many", "_law_deep", "_law_left", "_law_way", "_law_fixed", "_law_word", "_law_parts", "_law_k"] ["_law_deck_here", "_law_many", "_law_deep", "_law_left"] (defScope s_form) := ⟨rfl, rfl, rfl, by decide +kernel, rfl, by decide +kernel, by decide +kernel⟩
theorem sc_inner : FnScope ["_law_form_here"] ["_law_form_here"] (defScope s_inner) := ⟨rfl, rfl, rfl, by decide +kernel, rfl, by decide +kernel, by decide +kernel⟩
theorem sc_count : FnScope ["_law_form_here", "_law_part"] ["_law_form_here"] (defScope s_count) := ⟨rfl, rfl, rfl, by decide +kernel, rfl, by decide +kernel, by decide +kernel⟩
theorem sc_some_form : FnScope ["_law_deck_here", "_law_many", "_law_way", "_law_found"] ["_law_deck_here", "_law_many"] (defScope s_some_form) := ⟨rfl, rfl, rfl, by decide +kernel, rfl, by decide +kernel, by decide +kernel⟩
theorem sc_tower : FnScope ["_law_deck_here", "_law_many", "_law_found", "_law_k", "_law_way", "_law_leaf", "_law_third", "_law_some"] ["_law_deck_here", "_law_many"] (defScope s_tower) := ⟨rfl, rfl, rfl, by decide +kernel, rfl, by decide +kernel, by decide +kernel⟩
theorem sc_whole : FnScope ["_law_thing"] ["_law_thing"] (defScope s_whole) := ⟨rfl, rfl, rfl, by decide +kernel, rfl, by decide +kernel, by decide +kernel⟩
theorem sc_l_is_form : FnScope ["_law_many", "_law_thing", "_law_waiting", "_law_one"] ["_law_many", "_law_thing"] (defScope s_l_is_form) := ⟨rfl, rfl, rfl, by decide +kernel, rfl, by decide +kernel, by decide +kernel⟩
theorem sc_wide : FnScope ["_law_deck_here", "_law_many", "_law_forms", "_law_word", "_law_k"] ["_law_deck_here", "_law_many"] (defScope s_wide) := ⟨rfl, rfl, rfl, by decide +kernel, rfl, by decide +kernel, by decide +kernel⟩
theorem sc_nots : FnScope ["_law_deck_here", "_law_many", "_law_found", "_law_k"] ["_law_deck_here", "_law_many"] (defScope s_nots) := ⟨rfl, rfl, rfl, by decide +kernel, rfl, by decide +kernel, by decide +kernel⟩
theorem sc_right : FnScope ["_law_many", "_law_thing", "_law_kept", "_law_found"] ["_law_many", "_law_thing"] (defScope s_right) := ⟨rfl, rfl, rfl, by decide +kernel, rfl, by decide +kernel, by decide +kernel⟩
theorem sc_law : FnScope ["_law_script", "_law_deck_here", "_law_turn", "_law_twice", "_law_many", "_law_form_here", "_law_again", "_law_thing", "_law_great", "_law_one", "_law_some"] ["_law_script"] (defScope s_law) := ⟨rfl, rfl, rfl, by decide +kernel, rfl, by decide +kernel, by decide +kernel⟩
structure Tx (w : World) (K : PySem.W.Frag) (mg : Str → Option Value) where
  f_is_whole : Addr
  fd_is_whole : FuncData
  F_is_whole : Fun K "is_whole" "is_whole" s_is_whole f_is_whole fd_is_whole
  g_is_whole : mg "is_whole" = some (.ref f_is_whole)
  b_is_whole : Binds K fd_is_whole ["thing"] []
  f_is_form : Addr
  fd_is_form : FuncData
  F_is_form : Fun K "is_form" "is_form" s_is_form f_is_form fd_is_form
  g_is_form : mg "is_form" = some (.ref f_is_form)
  b_is_form : Binds K fd_is_form ["many", "thing"] []
  f_is_outside : Addr
  fd_is_outside : FuncData
  F_is_outside : Fun K "is_outside" "is_outside" s_is_outside f_is_outside fd_is_outside
  g_is_outside : mg "is_outside" = some (.ref f_is_outside)
  b_is_outside : Binds K fd_is_outside ["many", "thing"] []
  f_inner_of : Addr
  fd_inner_of : FuncData
  F_inner_of : Fun K "inner_of" "inner_of" s_inner_of f_inner_of fd_inner_of
  g_inner_of : mg "inner_of" = some (.ref f_inner_of)
  b_inner_of : Binds K fd_inner_of ["form"] []
  f_deck : Addr
  fd_deck : FuncData
  F_deck : Fun K "_law_deck" "_law_deck" s_deck f_deck fd_deck
  g_deck : mg "_law_deck" = some (.ref f_deck)
  b_deck : Binds K fd_deck ["_law_script"] []
  f_mixed : Addr
  fd_mixed : FuncData
  F_mixed : Fun K "_law_mixed" "_law_mixed" s_mixed f_mixed fd_mixed
  g_mixed : mg "_law_mixed" = some (.ref f_mixed)
  b_mixed : Binds K fd_mixed ["_law_cell", "_law_k"] []
  f_take : Addr
  fd_take : FuncData
  F_take : Fun K "_law_take" "_law_take" s_take f_take fd_take
  g_take : mg "_law_take" = some (.ref f_take)
  b_take : Binds K fd_take ["_law_deck_here", "_law_most"] []
  f_put : Addr
  fd_put : FuncData
  F_put : Fun K "_law_put" "_law_put" s_put f_put fd_put
  g_put : mg "_law_put" = some (.ref f_put)
  b_put : Binds K fd_put ["_law_row", "_law_at", "_law_part"] []
  f_other : Addr
  fd_other : FuncData
  F_other : Fun K "_law_other" "_law_other" s_other f_other fd_other
  g_other : mg "_law_other" = some (.ref f_other)
  b_other : Binds K fd_other ["_law_deck_here", "_law_thing"] []
  f_spoilt : Addr
  fd_spoilt : FuncData
  F_spoilt : Fun K "_law_spoilt" "_law_spoilt" s_spoilt f_spoilt fd_spoilt
  g_spoilt : mg "_law_spoilt" = some (.ref f_spoilt)
  b_spoilt : Binds K fd_spoilt ["_law_deck_here", "_law_thing", "_law_deep"] []
  f_form : Addr
  fd_form : FuncData
  F_form : Fun K "_law_form" "_law_form" s_form f_form fd_form
  g_form : mg "_law_form" = some (.ref f_form)
  b_form : Binds K fd_form ["_law_deck_here", "_law_many", "_law_deep", "_law_left"] []
  f_inner : Addr
  fd_inner : FuncData
  F_inner : Fun K "_law_inner" "_law_inner" s_inner f_inner fd_inner
  g_inner : mg "_law_inner" = some (.ref f_inner)
  b_inner : Binds K fd_inner ["_law_form_here"] []
  f_count : Addr
  fd_count : FuncData
  F_count : Fun K "_law_count" "_law_count" s_count f_count fd_count
  g_count : mg "_law_count" = some (.ref f_count)
  b_count : Binds K fd_count ["_law_form_here"] []
  f_some_form : Addr
  fd_some_form : FuncData
  F_some_form : Fun K "_law_some_form" "_law_some_form" s_some_form f_some_form fd_some_form
  g_some_form : mg "_law_some_form" = some (.ref f_some_form)
  b_some_form : Binds K fd_some_form ["_law_deck_here", "_law_many"] []
  f_tower : Addr
  fd_tower : FuncData
  F_tower : Fun K "_law_tower" "_law_tower" s_tower f_tower fd_tower
  g_tower : mg "_law_tower" = some (.ref f_tower)
  b_tower : Binds K fd_tower ["_law_deck_here", "_law_many"] []
  f_whole : Addr
  fd_whole : FuncData
  F_whole : Fun K "_law_whole" "_law_whole" s_whole f_whole fd_whole
  g_whole : mg "_law_whole" = some (.ref f_whole)
  b_whole : Binds K fd_whole ["_law_thing"] []
  f_l_is_form : Addr
  fd_l_is_form : FuncData
  F_l_is_form : Fun K "_law_is_form" "_law_is_form" s_l_is_form f_l_is_form fd_l_is_form
  g_l_is_form : mg "_law_is_form" = some (.ref f_l_is_form)
  b_l_is_form : Binds K fd_l_is_form ["_law_many", "_law_thing"] []
  f_wide : Addr
  fd_wide : FuncData
  F_wide : Fun K "_law_wide" "_law_wide" s_wide f_wide fd_wide
  g_wide : mg "_law_wide" = some (.ref f_wide)
  b_wide : Binds K fd_wide ["_law_deck_here", "_law_many"] []
  f_nots : Addr
  fd_nots : FuncData
  F_nots : Fun K "_law_nots" "_law_nots" s_nots f_nots fd_nots
  g_nots : mg "_law_nots" = some (.ref f_nots)
  b_nots : Binds K fd_nots ["_law_deck_here", "_law_many"] []
  f_right : Addr
  fd_right : FuncData
  F_right : Fun K "_law_right" "_law_right" s_right f_right fd_right
  g_right : mg "_law_right" = some (.ref f_right)
  b_right : Binds K fd_right ["_law_many", "_law_thing"] []
  f_law : Addr
  fd_law : FuncData
  F_law : Fun K "law" "law" s_law f_law fd_law
  g_law : mg "law" = some (.ref f_law)
  b_law : Binds K fd_law ["_law_script"] []
  m_bool : mg "bool" = none
  m_int : mg "int" = none
  m_isinstance : mg "isinstance" = none
  m_len : mg "len" = none
  m_list : mg "list" = none
  m_range : mg "range" = none
  m_repr : mg "repr" = none
  m_reversed : mg "reversed" = none
  m_str : mg "str" = none
  m_sum : mg "sum" = none
  m_tuple : mg "tuple" = none
  k_LEAST_PARTS : ∃ t, mg "LEAST_PARTS" = some (.int 2 t)
  k_MOST_PARTS : ∃ t, mg "MOST_PARTS" = some (.int 4 t)
  A_STILL : Addr
  gA_STILL : mg "STILL" = some (.ref A_STILL)
  kd_STILL : ∃ es n, KDict K w A_STILL es n
  kv_STILL : ∀ z : PySem.Str, KdS.At K A_STILL [(("one" : PySem.Str), KdS.Kv.i 1), (("nought" : PySem.Str), KdS.Kv.i 0)] z
structure Tb (base : Heap) {w : World} {K : PySem.W.Frag} {mg : Str → Option Value} (T : Tx w K mg) : Prop where
def Tx.tabs {w : World} {K : PySem.W.Frag} {mg : Str → Option Value} (T : Tx w K mg) : List Addr := []
/-! ### generator expressions whose elements may call -/
theorem inv_moved {X : Cx} {cp : List (Addr × Obj)} {σ : L2.St} {H : Hp} {s s' : Shared} (I : Inv X cp σ H s) (os : s'.os = s.os) (bare : AllBare s'.gens) (k : ∀ b o, s.heap.get? b = some o → s'.heap.get? b = some o) : Inv X cp σ H s' :=
  I.call' (ch := []) os (Un.kept k) (I.hok.kept k) bare fun b hb => absurd hb (by simp)
/-- the context of a generator expression's frame: C its frame, s, H the entry, fp its iterator's objects -/
abbrev gblk (X : Cx) (A : Around) (s : Shared) (H : Hp) (cenv : Env) (fp : List Addr) : Cx :=
  { X with A := A, s_0 := s, H_0 := H, env := cenv, outer := X.stack, stack := cenv :: X.stack, ex := fp, fn := fun _ => false, pn := [], xe := fun _ _ => False }
section
variable {X : Cx} {pins : List (Addr × Obj)} {σ : L2.St} {H : Hp} {s : Shared}
theorem gen_start {scope : Scope} {own : List (Str × Nat)} {fp : List Addr} {A : Around} {code it : Value} {s5 : Shared} {cp : List (Addr × Obj)}
    (I : Inv X pins σ H s) (ok : BlkOk X.N X.env.scope scope own) (nocell : ∀ y ∈ scope.names, y.2 ≠ .cell) (hN : X.N.Nodup) (hfp : ∀ b ∈ fp, FpOk X pins H b ∧ b < s.heap.objs.size)
    (hh : A.handled = none) (hfr : A.frames = some (genEnv scope (cloFrom X.env.cells scope.names []) s.heap.objs.size code builtinsNs X.env :: X.stack))
    (os : s5.os = s.os) (bare : AllBare s5.gens) (kp : ∀ b o, s.heap.get? b = some o → s5.heap.get? b = some o)
    (hns : s5.heap.Ns s.heap.objs.size fun y => if y = ".0" then some it else none)
    (hcp : ∀ p ∈ cp, s.heap.objs.size < p.1 ∧ s5.heap.get? p.1 = some p.2 ∧ ∀ v, p.2.data ≠ .cell v) :
    Inv (gblk X A s H (genEnv scope (cloFrom X.env.cells scope.names []) s.heap.objs.size code builtinsNs X.env) fp) cp (wipe σ (own.map (·.2))) H s5 := by
  have hfree : ∀ y ∈ scope.names, y.2 = .free → ∃ c, X.env.cells.lookup y.1 = some c := fun y hy e => by
    rcases ok.free y hy e with k | k
    · exact I.ok.has _ (.inl k)
    · exact I.ok.has _ (.inr k)
  generalize hcenv : genEnv scope (cloFrom X.env.cells scope.names []) s.heap.objs.size code builtinsNs X.env = cenv at hfr ⊢
  have hL : cenv.locals = s.heap.objs.size := by rw [← hcenv]; rfl
  have hcl : cenv.cells = cloFrom X.env.cells scope.names [] := by rw [← hcenv]; rfl
  have hsc : cenv.scope = scope := by rw [← hcenv]; rfl
  have cm : ∀ {y c}, (y, c) ∈ cloFrom X.env.cells scope.names [] → X.env.cells.lookup y = some c ∧ c < s.heap.objs.size := fun {y c} hm => by
    rcases cloFrom_mem hm with hm | ⟨h1, rfl⟩
    · cases hm
    · obtain ⟨c, hc⟩ := hfree _ h1 rfl
      rw [hc]
      obtain ⟨w, z⟩ := I.cell _ _ hc
      exact ⟨rfl, z.lt⟩
  have mem : ∀ {y c}, cenv.cells.lookup y = some c → X.env.cells.lookup y = some c ∧ c < s.heap.objs.size := fun {y c} e => by
    rw [hcl] at e
    exact cm (PySem.mem_of_lookup e)
  have look : ∀ {y}, scope.names.lookup y = some .free → ∃ c, cenv.cells.lookup y = some c ∧ X.env.cells.lookup y = some c := fun {y} hl => by
    have hy : (y, NameKind.free) ∈ scope.names := PySem.mem_of_lookup hl
    obtain ⟨c', e'⟩ := mem_lookup (cloFrom_has (cells := X.env.cells) (acc := []) hy)
    rw [← hcl] at e'
    exact ⟨c', e', (mem e').1⟩
  have okB : (gblk X A s H cenv fp).Ok := by
    refine ⟨I.ok.mod, by show cenv.scope.kind = _; rw [hsc]; exact ok.kind, by show cenv.globals = _; rw [← hcenv]; exact I.ok.glob, by show cenv.builtins = _; rw [← hcenv]; rfl, by show s.heap.objs.size ≤ cenv.locals; rw [hL]; exact Nat.le_refl _,
      fun y z c e1 e2 => I.ok.inj y z c (mem e1).1 (mem e2).1, fun y hy => ?_, fun y c z e => (by cases z), fun _ => hh, hfr, .inr ⟨rfl, by show cenv.frame = some cenv.locals; rw [← hcenv]; rfl⟩, fun b hb => ⟨?_, fun y c e z => ?_⟩, I.bs, Nat.le_trans I.ok.bsz I.sz, fun b o e hb => ?_, fun b hb z => ?_, I.stack, I.stkFree⟩
    · have hy' : scope.names.lookup y = some .cell ∨ scope.names.lookup y = some .free := by
        rw [← hsc]
        exact hy
      rcases hy' with e | e
      · exact absurd rfl (nocell _ (PySem.mem_of_lookup e))
      · obtain ⟨c, h1, _⟩ := look e
        exact ⟨c, h1⟩
    · show b ≠ cenv.locals
      rw [hL]; exact Nat.ne_of_lt (hfp b hb).2
    · exact (hfp b hb).1.2.2.2.2.1 y c (mem e).1 z
    · rcases (hfp b hb).1.2.2.2.1 with z | z
      · exact I.ok.noex b o e z
      · exact absurd (Nat.lt_of_lt_of_le (Heap.lt_size e) (Nat.le_trans I.ok.bsz z)) (Nat.lt_irrefl _)
    · rcases List.mem_cons.mp (I.stkSub b z) with z | z
      · exact (hfp b hb).1.2.1 z
      · exact (hfp b hb).1.2.2.1 z
  refine ⟨okB, os, bare, Un.kept kp, ⟨_, (by show s5.heap.Ns cenv.locals _; rw [hL]; exact hns), fun i y av e1 e2 e3 => ?_⟩, fun y c e => ?_, ?_, fun y c e => I.freeC y c (mem e).1, fun p hp => ?_, I.hok.kept kp, by rw [wipe_length]; exact I.len⟩
  · obtain ⟨e2, hne⟩ := wipe_some e2
    have e3 : Vis scope y := by rw [← hsc]; exact e3
    have no : ∀ k, scope.names.lookup y = some k → ¬ (k = .local ∨ k = .cell) := fun k e hh => by
      rcases ok.own _ (PySem.mem_of_lookup e) hh with e' | e'
      · obtain ⟨p, hp, hpy⟩ := List.mem_map.mp e'
        have e3 := ok.ix p hp
        have : p.1 = y := hpy
        rw [this] at e3
        exact hne (List.mem_map.mpr ⟨p, hp, nodup_ix hN e3 e1⟩)
      · exact e' (List.mem_of_getElem? e1)
    have hfr2 : scope.names.lookup y = some .free := by
      rcases e3 with e | e | e
      · exact absurd (.inl rfl) (no _ e)
      · exact absurd (.inr rfl) (no _ e)
      · exact e
    obtain ⟨m, hn, hl⟩ := I.loc
    have hvis : Vis X.env.scope y := (ok.free _ (PySem.mem_of_lookup hfr2) rfl).elim (fun k => .inr (.inl k)) (fun k => .inr (.inr k))
    obtain ⟨w, r, q⟩ := hl i y av e1 e2 hvis
    refine ⟨w, r, .inr ⟨.inr (by show cenv.scope.names.lookup y = some .free; rw [hsc]; exact hfr2), ?_⟩⟩
    obtain ⟨c, h1, h2⟩ := look hfr2
    rcases q with ⟨k, _⟩ | ⟨_, c', e', z⟩
    · have k : X.env.scope.names.lookup y = some .local := k
      rcases ok.free _ (PySem.mem_of_lookup hfr2) rfl with k' | k' <;> rw [show X.env.scope.names.lookup y = _ from k'] at k <;> cases k
    · rw [h2] at e'; cases e'
      exact ⟨c, h1, z.keeps kp⟩
  · obtain ⟨w, z⟩ := I.cell y c (mem e).1
    exact ⟨w, z.keeps kp⟩
  · show H cenv.locals = none
    rw [hL]; exact I.hok.fresh (Nat.le_refl _)
  · have hp : p ∈ cp := by simpa using hp
    obtain ⟨h1, h2, h3⟩ := hcp p hp
    refine ⟨h2, I.hok.fresh (Nat.le_of_lt h1), by show p.1 ≠ cenv.locals; rw [hL]; exact Nat.ne_of_gt h1, fun z => ?_, h3⟩
    rcases List.mem_cons.mp (I.stkSub _ z) with z | z
    · exact absurd (Nat.lt_trans I.lt h1) (by rw [z]; exact Nat.lt_irrefl _)
    · exact I.nofs (Nat.le_of_lt h1) z
end
/-! ### the talk of a generator and who asks it -/
section
variable {α : Type}
/-- handed out: x; the asker's state a (laid down in the pins cp) goes to one with Nx -/
def YG (Xg : Cx) (fp : List Addr) (tn : Nat → Heap → Prop) (AC : α → List (Addr × Obj) → Prop) (Yd : α → V → Hp → (α → Hp → Prop) → Prop) : Protocol := fun _ s0 v s kap =>
  ∃ (a : α) (x : V) (σ : L2.St) (H : Hp) (i : Nat) (cp : List (Addr × Obj)) (Nx : α → Hp → Prop), RelV x v ∧ AC a cp ∧ (∀ p ∈ cp, s0.heap.get? p.1 = some p.2) ∧ Inv Xg cp σ H s ∧ tn i s.heap ∧ (∀ b ∈ fp, H b = none) ∧ Yd a x H Nx ∧
    ∀ a' cp' s', Nx a' H → AC a' cp' → Inv Xg cp' σ H s' → tn i s'.heap → kap (.send .none) s'
def RG (Xg : Cx) (AC : α → List (Addr × Obj) → Prop) (End : α → Hp → Prop) : GenEnd := fun _ s0 r s =>
  ((r = .ok (.ret .none) ∨ r = .ok .next) ∧ ∃ (a : α) (σ : L2.St) (H : Hp) (cp : List (Addr × Obj)), AC a cp ∧ (∀ p ∈ cp, s0.heap.get? p.1 = some p.2) ∧ Inv Xg cp σ H s ∧ End a H) ∨ ∃ e, r = .error e ∧ False
/-- a generator's turns -/
def tGx (J : It) (g : TG) (tt : TT) (te : TE) (σ0 : L2.St) (vs : List Nat) (End : α → Hp → Prop) (Yd : α → V → Hp → (α → Hp → Prop) → Prop) (W : Nat → Nat → α → Hp → Prop) : Prop :=
  ∀ i m a H, W i m a H → (J.stop i H ∧ End a H) ∨ (J.go i H ∧ ∃ Nx : α → Hp → Prop, (∀ a' H', Nx a' H' → ∃ m', m' < m ∧ W (i + 1) m' a' H') ∧
    ∀ x H', J.yld i H x H' → g x σ0 H' fun σ2 H2 => wipe σ2 vs = σ0 ∧ tt σ2 H2 fun b H3 => if b = true then te σ2 H3 fun y H4 => Yd a y H4 Nx else Nx a H3)
theorem wipe_wipe_some {σ σ2 : L2.St} {vs : List Nat} (h : wipe σ2 vs = σ) : ∀ (j : Nat) v, σ[j]? = some (some v) → σ2[j]? = some (some v) := fun j v e => by
  rw [← h] at e
  exact (wipe_some e).1
theorem seg_gx {X : Cx} {A A' : Around} {s_0 : Shared} {H_0 : Hp} {elt tg iter : Expr} {ifs : List Expr} {scope : Scope} {pos : Pos} {it : Addr} {fp : List Addr} {tn : Nat → Heap → Prop} {J : It} {cenv : Env} {g : TG} {tt : TT} {te : TE} {σ0 : L2.St} {vs : List Nat}
    {AC : α → List (Addr × Obj) → Prop} {End : α → Hp → Prop} {Yd : α → V → Hp → (α → Hp → Prop) → Prop} {W : Nat → Nat → α → Hp → Prop}
    (hA : A.over (.compLoop (.GeneratorExp elt [⟨tg, iter, ifs, 0⟩] scope pos) 0 (.ref it) .none cenv) [] = A') (hc : X.calm = true) (hco : cenv.scope.isCoroutine = false)
    (T : Turn X.prog X.w X.K tg J fp it tn) (pg : PG (gblk X A' s_0 H_0 cenv fp) tg g) (pt : PTs (gblk X A' s_0 H_0 cenv fp) ifs tt) (pe : PE (gblk X A' s_0 H_0 cenv fp) elt te)
    (hAC : ∀ a cp, AC a cp → ∀ p ∈ cp, ∀ b ∈ fp, p.1 ≠ b) (turn : tGx J g tt te σ0 vs End Yd W) :
    ∀ (m n i : Nat) (a : α) (H : Hp) (s₀ s : Shared) (cp : List (Addr × Obj)), m < n → W i m a H → AC a cp → (∀ p ∈ cp, s₀.heap.get? p.1 = some p.2) → Inv (gblk X A' s_0 H_0 cenv fp) cp σ0 H s → tn i s.heap → (∀ b ∈ fp, H b = none) →
      Seg (model X.prog X.w) A (RG (gblk X A' s_0 H_0 cenv fp) AC End) (YG (gblk X A' s_0 H_0 cenv fp) fp tn AC Yd) n s₀
        (.compLoop (.GeneratorExp elt [⟨tg, iter, ifs, 0⟩] scope pos) 0 (.ref it) .none cenv)
        ((model X.prog X.w).den (.compLoop (.GeneratorExp elt [⟨tg, iter, ifs, 0⟩] scope pos) 0 (.ref it) .none cenv)) [] s := by
  have stat : ∀ {a : α} {cp : List (Addr × Obj)} {σ' : L2.St} {H' : Hp} {s' : Shared}, AC a cp → Inv (gblk X A' s_0 H_0 cenv fp) cp σ' H' s' → (∀ b ∈ fp, H' b = none) → ∀ b ∈ fp, FpOk (gblk X A' s_0 H_0 cenv fp) cp H' b := fun {a cp σ' H' s'} hac I' hn b hb =>
    ⟨hn b hb, (I'.ok.exf b hb).1, I'.ok.exfs b hb, .inl hb, fun x c e => (I'.ok.exf b hb).2 x c e, fun p hp => hAC a cp hac p (by simpa using hp) b hb⟩
  intro m
  induction m using Nat.strongRecOn with
  | ind m ih =>
    intro n i a H s₀ s cp hmn w hac tie I st nf
    show Seg _ A _ _ _ s₀ _ ((compTurn (.GeneratorExp elt [⟨tg, iter, ifs, 0⟩] scope pos) 0 (.ref it) .none cenv).onRaise (leaving cenv)) [] s
    rw [compTurn_gen, Sem.onRaise_eq_wrap]
    refine seg_bind_wrap (wpAny_standAt ?_)
    rcases turn i m a H w with ⟨stop, hend⟩ | ⟨go, Nx, hNx, step⟩
    · refine seg_bind_wrap ?_
      rw [hA]
      refine thnF (T.done (gblk X A' s_0 H_0 cenv fp) rfl rfl rfl hc i cp s σ0 H (fun _ _ => False) I (stat hac I nf) st stop) fun r s1 ⟨hr, I1⟩ => ?_
      subst hr
      exact seg_end (.ok .next) (.inl ⟨.inr rfl, a, _, H, cp, hac, tie, I1, hend⟩)
    · refine seg_bind_wrap ?_
      rw [hA]
      refine thnF (T.item (gblk X A' s_0 H_0 cenv fp) rfl rfl rfl hc i cp s σ0 H (fun _ _ => False) I (stat hac I nf) st go) fun r s1 ⟨u, hr, h1⟩ => ?_
      subst hr
      refine seg_bind_wrap ?_
      rw [hA]
      refine thnF h1 fun _ s2 ⟨x, H2, I2, r2, y2, st2, n2⟩ => ?_
      have I2' := I2.pinned (stat hac I2 n2) (T.obj _ _ st2)
      refine seg_bind_wrap ?_
      rw [hA]
      refine thnF (pg.run _ s2 _ H2 x u _ I2' r2 (step x H2 y2)) fun _ s3 ⟨σ3, H3, I3, hw3, q3⟩ => ?_
      refine seg_bind_wrap ?_
      rw [hA]
      refine thnF (pt.run _ s3 σ3 H3 _ I3 q3) fun b s4 ⟨H4, I4, q4⟩ => ?_
      have hl : σ0.length = σ3.length := by rw [← hw3, wipe_length]
      have fin : ∀ {s' : Shared} {H' : Hp}, Inv (gblk X A' s_0 H_0 cenv fp) (cp ++ pinsAt fp s2.heap) σ3 H' s' → Inv (gblk X A' s_0 H_0 cenv fp) cp σ0 H' s' ∧ tn (i + 1) s'.heap ∧ ∀ b ∈ fp, H' b = none := fun {s' H'} I' => by
        have pin' : ∀ b ∈ fp, ∀ o, s2.heap.get? b = some o → s'.heap.get? b = some o ∧ H' b = none := fun b hb o e =>
          let z := I'.pin (b, o) (List.mem_append_right _ (List.mem_append_right _ (mem_pinsAt hb e)))
          ⟨z.1, z.2.1⟩
        refine ⟨(I'.unpinned (pins := cp)).weak hl (wipe_wipe_some hw3), T.keep _ _ _ st2 fun b hb o e => (pin' b hb o e).1, fun b hb => ?_⟩
        obtain ⟨o, e, _⟩ := T.obj _ _ st2 b hb
        exact (pin' b hb o e).2
      cases b with
      | false =>
        simp only [Bool.false_eq_true, if_false] at q4 ⊢
        obtain ⟨m', hm, w'⟩ := hNx a H4 q4
        obtain ⟨J1, J2, J3⟩ := fin I4
        exact seg_again rfl (ih m' hm n (i + 1) a H4 s₀ s4 cp (by omega) w' hac tie J1 J2 J3)
      | true =>
        simp only [if_true] at q4 ⊢
        have hy : ∀ v, yieldOut cenv v = yieldValue v := fun v => by simp only [yieldOut, hco, Bool.false_eq_true, if_false]
        simp only [hy]
        rw [Sem.bind_eq_wrap', Sem.bind_eq_wrap', Sem.wrap_wrap, Sem.wrap_wrap]
        refine seg_wrap ?_
        rw [hA]
        refine thnF (pe.run _ s4 σ3 H4 _ I4 q4) fun yv s5 ⟨y, H5, I5, r5, q5⟩ => ?_
        obtain ⟨J1, J2, J3⟩ := fin I5
        -- at least one more
        cases n with
        | zero => exact absurd hmn (Nat.not_lt_zero _)
        | succ n =>
          refine seg_at (seg_yield rfl rfl rfl ⟨a, y, σ0, H5, i + 1, cp, Nx, r5, hac, tie, J1, J2, J3, q5, fun a' cp' s' nx hac' I' st' => ?_⟩)
          obtain ⟨m', hm, w'⟩ := hNx a' H5 nx
          exact seg_again rfl (ih m' hm n (i + 1) a' H5 s' s' cp' (by omega) w' hac' (fun p hp => (I'.pin p (List.mem_append_right _ hp)).1) I' st' J3)
end
/-! ### a generator that is made -/
section
variable {X : Cx} {pins : List (Addr × Obj)} {σ : L2.St} {H : Hp} {s : Shared}
def GenObj (o : Obj) (g : Nat) : Prop := ∃ nm qn, o.cls = .type "generator" ∧ o.data = .fields #[.int g 0, nm, qn] ∧ o.slots = #[]
theorem GenObj.isGen {o : Obj} {g : Nat} (h : GenObj o g) {a : Addr} {hp : Heap} (e : hp.get? a = some o) : hp.IsGen a g := by
  obtain ⟨nm, qn, h1, h2, h3⟩ := h
  exact ⟨o, nm, qn, e, h1, h2, h3⟩
/-- the generator u, made and not begun, in the state s5 -/
def Gx (X : Cx) (pins : List (Addr × Obj)) (σ : L2.St) (A : Around) (J : It) (g : TG) (tt : TT) (te : TE) (vs : List Nat) (H4 : Hp) (u : Value) (s5 : Shared) : Prop :=
  ∃ (A' : Around) (s_0 : Shared) (H_0 : Hp) (cenv : Env) (fp : List Addr) (ga : Addr) (gn : Nat) (go : Obj) (tn : Nat → Heap → Prop) (gs : GenState),
    u = .ref ga ∧ GenObj go gn ∧ s5.gens[gn]? = some gs ∧ gs.bare = true ∧ Inv (gblk X A' s_0 H_0 cenv fp) [(ga, go)] (wipe σ vs) H4 s5 ∧ tn 0 s5.heap ∧ (∀ b ∈ fp, H4 b = none) ∧ (∀ b ∈ fp, b < ga) ∧
    (∀ i h h', tn i h → (∀ b ∈ fp, ∀ o, h.get? b = some o → h'.get? b = some o) → tn i h') ∧ (∀ cp σ' H' s', Inv (gblk X A' s_0 H_0 cenv fp) cp σ' H' s' → Inv X pins σ H' s') ∧
    ∀ (α : Type) (AC : α → List (Addr × Obj) → Prop) (End : α → Hp → Prop) (Yd : α → V → Hp → (α → Hp → Prop) → Prop) (W : Nat → Nat → α → Hp → Prop) (m n : Nat) (a : α) (cp : List (Addr × Obj)) (s' : Shared),
      tGx J g tt te (wipe σ vs) vs End Yd W → W 0 m a H4 → m < n → (∀ a cp, AC a cp → ∀ p ∈ cp, ∀ b ∈ fp, p.1 ≠ b) → AC a cp → Inv (gblk X A' s_0 H_0 cenv fp) cp (wipe σ vs) H4 s' → tn 0 s'.heap →
      gs.Goes (model X.prog X.w) A (RG (gblk X A' s_0 H_0 cenv fp) AC End) (YG (gblk X A' s_0 H_0 cenv fp) fp tn AC Yd) n (.send .none) s'
/-- what stands about an asker -/
structure Near (A B : Around) : Prop where
  hd : B.handled = A.handled
  fr : B.frames = A.frames
  gd : B.guards = A.guards
  dp : B.depth = A.depth
  un : B.units ≤ A.units + 8
theorem gx_make {c P : Addr} {elt tg iter : Expr} {ifs : List Expr} {gpos : Pos} {scope : Scope} {own : List (Str × Nat)} {wi : TI} {g : TG} {tt : TT} {te : TE} {k : Nat} {Q' : Value → Shared → Prop} {R : It → Hp → Prop} {A : Around}
    (hr : Room (k + 1) X.A) (near : Near X.A A) (hc : X.calm = true) (hN : X.N.Nodup) (TB : GxR.TabB X.base X.mg c P) (hcode : X.env.code = .ref c) (hco : scope.isCoroutine = false) (hdot : scope.names.lookup (".0" : Str) = some NameKind.local)
    (nocell : ∀ y ∈ scope.names, y.2 ≠ .cell) (ok : BlkOk X.N X.env.scope scope own) (hi : PI X tg iter wi)
    (hg : ∀ (A' : Around) (s : Shared) (H : Hp) (C : Addr) (cl : List (Str × Addr)) (code : Value) (fp : List Addr), Room k A' → A'.guards = X.A.guards → PG (gblk X A' s H (genEnv scope cl C code builtinsNs X.env) fp) tg g)
    (ht : ∀ (A' : Around) (s : Shared) (H : Hp) (C : Addr) (cl : List (Str × Addr)) (code : Value) (fp : List Addr), Room k A' → A'.guards = X.A.guards → PTs (gblk X A' s H (genEnv scope cl C code builtinsNs X.env) fp) ifs tt)
    (he : ∀ (A' : Around) (s : Shared) (H : Hp) (C : Addr) (cl : List (Str × Addr)) (code : Value) (fp : List Addr), Room k A' → A'.guards = X.A.guards → PE (gblk X A' s H (genEnv scope cl C code builtinsNs X.env) fp) elt te)
    (hs : ∀ v, genFold iter X.env v = pure v) (I : Inv X pins σ H s) (h : wi σ H fun J H1 => GxR.TabG H1 P ∧ R J H1)
    (hQ : ∀ J H1 H2 u s5, R J H1 → GxR.Tabbed P H1 H2 → Gx X pins σ A J g tt te (own.map (·.2)) H2 u s5 → Q' u s5) :
    wpAny (model X.prog X.w) X.A (eval (.GeneratorExp elt [⟨tg, iter, ifs, 0⟩] scope gpos) X.env) Q' X.xe s := by
  have hfree : ∀ y ∈ scope.names, y.2 = .free → ∃ c, X.env.cells.lookup y.1 = some c := fun y hy e => by
    rcases ok.free y hy e with k | k
    · exact I.ok.has _ (.inl k)
    · exact I.ok.has _ (.inr k)
  refine wpAny_GeneratorExp_make hco (closure_ok hfree) nocell hdot ok.kind (by have := hr.dp; omega) ?_ hs
  refine thn (hi.run pins s σ H _ I h) fun xv s1 hx => thn hx fun itv s2 h2 => ?_
  obtain ⟨it, fp, tn, J, H2, rfl, I2, T, st2, f2, ⟨ps, hP, ht3⟩, q⟩ := h2
  refine ⟨I2.nolimit, ?_⟩
  have hPs : s2.heap.get? P = some { cls := .none, data := .fields ps } := I2.hok P _ hP
  have cd : PySem.W.CodeHd s2.heap c P := TB.code.keeps fun b u e => I2.bk b u e
  have nP : ∀ b, H2 b = none → b ≠ P := fun b e z => by
    rw [z, hP] at e
    cases e
  have cont : ∀ (code : Value) (h3 : Heap) (tk : Nat) (ps' : Array Value), Heap.ExtBut P s2.heap h3 → s2.heap.objs.size ≤ h3.objs.size → h3.get? P = some { cls := .none, data := .fields ps' } → (∃ more, ps' = ps ++ more) → TriplesOk ps'.toList →
      wpAny (model X.prog X.w) X.A (builtinsFor X.env.globals X.env.builtins) (fun bi s₄ =>
        ∀ h', h'.Ns s₄.heap.objs.size (fun y => if y = ".0" then some (Value.ref it) else none) → Heap.SameBut s₄.heap.objs.size (s₄.heap.push { cls := .type "frame", data := .dict #[] }) h' →
          Q' (.ref h'.objs.size) { s₄ with
            gens := s₄.gens.push (.fresh (.compStart (.GeneratorExp elt [⟨tg, iter, ifs, 0⟩] scope gpos) 0 (.ref it) .none (genEnv scope (cloFrom X.env.cells scope.names []) s₄.heap.objs.size code bi X.env))),
            toks := s₄.toks + 1 + 1 + 1,
            heap := h'.push { cls := .type "generator", data := .fields #[.int s₄.gens.size 0, .str "<genexpr>" (s₄.toks + 1), .str (X.env.qual ++ "<genexpr>") (s₄.toks + 1 + 1)] } }) X.xe { s2 with heap := h3, toks := tk } := by
    rintro code h3 tk ps' hx hsz hP3 ⟨more, rfl⟩ ht4
    obtain ⟨bm, ob, e1, e2, e3, e4, e5, e6, e7, e8⟩ := TB.bm
    refine wpAny_builtinsFor (m := X.mg) (by rw [I2.ok.glob]; exact (I2.mod.glob.keeps I2.bk).extBut hx TB.gP) e1 e2 (hx _ _ e4 (I2.bk _ _ e5)) e6 e7 e8 ?_
    intro h' hns hsb
    have I3 : Inv X pins σ (upd H2 P (.tbl (ps ++ more))) { s2 with heap := h3, toks := tk } := GxR.inv_tab (g' := s2.gens) (d' := s2.drawn) I2 hP (fun b o hb e => hx b o hb e) hP3 I2.bare
    have lt2 : ∀ b ∈ fp, b < s2.heap.objs.size := fun b hb => by
      obtain ⟨o, e, _⟩ := T.obj _ _ st2 b hb
      exact Heap.lt_size e
    have f3 : ∀ b ∈ fp, FpOk X pins (upd H2 P (.tbl (ps ++ more))) b ∧ b < ({ s2 with heap := h3, toks := tk } : Shared).heap.objs.size := fun b hb => by
      refine ⟨⟨?_, (f2 b hb).2⟩, Nat.lt_of_lt_of_le (lt2 b hb) hsz⟩
      rw [upd_ne (nP b (f2 b hb).1)]
      exact (f2 b hb).1
    have st3 : tn 0 h3 := T.keep _ _ _ st2 fun b hb o e => hx b o (nP b (f2 b hb).1) e
    generalize hs4 : ({ s2 with heap := h3, toks := tk } : Shared) = s4 at I3 f3 hns hsb ⊢
    have h4 : s4.heap = h3 := by rw [← hs4]
    have hsz4 : h'.objs.size = s4.heap.objs.size + 1 := by rw [hsb.1, Heap.size_push]
    have keep' : ∀ b o, s4.heap.get? b = some o → h'.get? b = some o := fun b o e => hsb.extBut b o (Nat.ne_of_lt (Heap.lt_size e)) (Heap.get?_push_of_some _ e)
    generalize hgo : ({ cls := .type "generator", data := .fields #[.int s4.gens.size 0, .str "<genexpr>" (s4.toks + 1), .str (X.env.qual ++ "<genexpr>") (s4.toks + 1 + 1)] } : Obj) = go
    have hGO : GenObj go s4.gens.size := by rw [← hgo]; exact ⟨_, _, rfl, rfl, rfl⟩
    have k5 : ∀ b o, s4.heap.get? b = some o → (h'.push go).get? b = some o := fun b o e => Heap.get?_push_of_some _ (keep' b o e)
    have pg := fun A' => hg A' s4 (upd H2 P (.tbl (ps ++ more))) s4.heap.objs.size (cloFrom X.env.cells scope.names []) code fp
    have pt := fun A' => ht A' s4 (upd H2 P (.tbl (ps ++ more))) s4.heap.objs.size (cloFrom X.env.cells scope.names []) code fp
    have pe := fun A' => he A' s4 (upd H2 P (.tbl (ps ++ more))) s4.heap.objs.size (cloFrom X.env.cells scope.names []) code fp
    generalize hce : genEnv scope (cloFrom X.env.cells scope.names []) s4.heap.objs.size code builtinsNs X.env = cenv at pg pt pe ⊢
    have hscn : cenv.scope = scope := by rw [← hce]; rfl
    generalize hA' : A.over (.compLoop (.GeneratorExp elt [⟨tg, iter, ifs, 0⟩] scope gpos) 0 (.ref it) .none cenv) [] = A'
    have hfrA : A'.frames = some (cenv :: X.stack) := by
      rw [← hA']
      show pushEnvs [cenv] A.frames = _
      rw [near.fr, I2.ok.frames]
      rfl
    have hhd : A'.handled = none := by
      rw [← hA']
      show A.handled = none
      rw [near.hd]
      exact hr.hd
    have rm : Room k A' := by
      refine ⟨hhd, ?_, ?_⟩
      · have := hr.dp
        have := near.dp
        rw [← hA']
        show A.depth + 0 + 1 + 3 * k + 5 < _
        omega
      · have := hr.un
        have := near.un
        rw [← hA']
        show A.units + 0 + 3 + 16 * k + 200 < _
        omega
    have gdA : A'.guards = X.A.guards := by
      rw [← hA']
      show pushGuards [] A.guards = _
      rw [near.gd]
      rfl
    have I5 : Inv (gblk X A' s4 (upd H2 P (.tbl (ps ++ more))) cenv fp) [(h'.objs.size, go)] (wipe σ (own.map (·.2))) (upd H2 P (.tbl (ps ++ more)))
        { s4 with gens := s4.gens.push (.fresh (.compStart (.GeneratorExp elt [⟨tg, iter, ifs, 0⟩] scope gpos) 0 (.ref it) .none cenv)), toks := s4.toks + 1 + 1 + 1, heap := h'.push go } := by
      subst hce
      refine gen_start (it := .ref it) I3 ok nocell hN f3 hhd hfrA rfl (I3.bare.push rfl) k5 (hns.push _) fun p hp => ?_
      have e : p = (h'.objs.size, go) := by simpa using hp
      subst e
      refine ⟨by show s4.heap.objs.size < h'.objs.size; omega, Heap.get?_push_size _ (by rw [← hgo]; rfl), fun v z => ?_⟩
      rw [← hgo] at z
      cases z
    refine hQ J H2 _ _ _ q ⟨⟨_, upd_same, ht4⟩, fun b hb => upd_ne hb⟩ ⟨A', s4, _, cenv, fp, h'.objs.size, s4.gens.size, go, tn, _, rfl, hGO, Array.getElem?_push_size .., rfl, I5, ?_, fun b hb => (f3 b hb).1.1, fun b hb => ?_, T.keep, fun cp σ' H' s' I' => ?_, ?_⟩
    · exact T.keep _ _ _ st3 fun b _ o e => k5 b o (by rw [h4]; exact e)
    · have := (f3 b hb).2
      rw [hsz4]
      exact Nat.lt_succ_of_lt this
    · exact I3.call' (ch := fp) I'.os I'.base I'.hok I'.bare fun b hb => ⟨(f3 b hb).1.2.2.2.1, (f3 b hb).1.2.1, (f3 b hb).1.2.2.2.2.1, (f3 b hb).1.2.2.2.2.2⟩
    · intro α AC End Yd W m n a cp s' turn w hmn hAC hac I' st'
      refine ⟨rfl, ?_⟩
      have loop := seg_gx (A := A) (pos := gpos) (iter := iter) (scope := scope) hA' hc (by rw [hscn]; exact hco) T (pg A' rm gdA) (pt A' rm gdA) (pe A' rm gdA) hAC turn m n 0 a _ s' s' cp hmn w hac (fun p hp => (I'.pin p (List.mem_append_right _ hp)).1) I' st' fun b hb => (f3 b hb).1.1
      show Seg _ A _ _ _ s' _ ((compStart (.GeneratorExp elt [⟨tg, iter, ifs, 0⟩] scope gpos) 0 (.ref it) .none cenv).onRaise (leaving cenv)) [] s'
      unfold compStart
      rw [Sem.onRaise_eq_wrap]
      show Seg _ A _ _ _ s' _ ((ask >>= _).wrap _ _ _ _) [] s'
      refine seg_bind_wrap (wpAny_askSetting ?_)
      split
      · exact seg_again rfl loop
      · first
          | exact seg_bind_wrap (wpAny_rule (seg_bind_wrap (wpAny_standAt (seg_bind_wrap (T.self _ 0 s' _ _ st' (seg_again rfl loop))))))
          | (refine seg_bind_wrap (wpAny_rule ?_); show Seg _ A _ _ _ s' _ ((standAt iter.pos >>= _).wrap _ _ _ _) [] s'; exact seg_bind_wrap (wpAny_standAt (seg_bind_wrap (T.self _ 0 s' _ _ st' (seg_again rfl loop)))))
  cases hf : codeAmong gpos ps.toList with
  | none =>
    refine wpAny_genexprCodeX hcode (cd.code hPs ht3) (cd.tab hPs) hf fun c' h' tk hx hge hlt hco' _ htab' _ => ?_
    obtain ⟨o1, vs, f1, tf, fl, tg, inF, tx, tt, op, _, _, _, _, _, _, _, _, _, htr, _⟩ := hco'
    exact cont _ h' tk _ hx (Nat.le_trans hge (Nat.le_of_lt hlt)) htab'.2 ⟨_, rfl⟩ htr
  | some cv =>
    refine wpAny_genexprCode_hit hcode (cd.code hPs ht3) hf ?_
    exact cont cv s2.heap s2.toks ps (Heap.ExtBut.refl _ _) (Nat.le_refl _) hPs ⟨#[], by simp⟩ ht3
end
/-! ### asking -/
section
variable {α : Type} {X : Cx} {A A' : Around} {s_0 : Shared} {H_0 : Hp} {cenv : Env} {fp : List Addr} {tn : Nat → Heap → Prop} {AC : α → List (Addr × Obj) → Prop} {End : α → Hp → Prop} {Yd : α → V → Hp → (α → Hp → Prop) → Prop} {ga : Addr} {gn n : Nat} {go : Obj}
theorem next_gx2 {gs : GenState} {s : Shared} {Q : Option Value → Shared → Prop} {E : Value → Shared → Prop} (hh : A.handled = none) (hroom : A.depth < recursionLimit) (hl : s.heap.NoLimit) (hG : GenObj go gn) (e : s.heap.get? ga = some go) (hgs : s.gens[gn]? = some gs)
    (hgo : gs.Goes (model X.prog X.w) A.in1 (RG (gblk X A' s_0 H_0 cenv fp) AC End) (YG (gblk X A' s_0 H_0 cenv fp) fp tn AC Yd) n (.send .none) (s.setGen gn .running))
    (item : ∀ (a : α) (x : V) (σ : L2.St) (H : Hp) (i : Nat) (cp : List (Addr × Obj)) (Nx : α → Hp → Prop) (v : Value) (s1 : Shared) (gs' : GenState), RelV x v → AC a cp → (∀ p ∈ cp, s.heap.get? p.1 = some p.2) → Inv (gblk X A' s_0 H_0 cenv fp) cp σ H s1 → tn i s1.heap → Yd a x H Nx → s1.gens[gn]? = some gs' →
      (∀ a' cp' s', Nx a' H → AC a' cp' → Inv (gblk X A' s_0 H_0 cenv fp) cp' σ H s' → tn i s'.heap → ∃ m, n = m + 1 ∧ gs'.Goes (model X.prog X.w) A.in1 (RG (gblk X A' s_0 H_0 cenv fp) AC End) (YG (gblk X A' s_0 H_0 cenv fp) fp tn AC Yd) m (.send .none) s') → Q (some v) s1)
    (done : ∀ (a : α) (σ : L2.St) (H : Hp) (cp : List (Addr × Obj)) (s1 : Shared), AC a cp → (∀ p ∈ cp, s.heap.get? p.1 = some p.2) → Inv (gblk X A' s_0 H_0 cenv fp) cp σ H s1 → End a H → Q none s1) :
    wpAny (model X.prog X.w) A (pyNext (.ref ga)) Q E s := by
  have hgl : gn < s.gens.size := (Array.getElem?_eq_some_iff.mp hgs).1
  refine GenW.wpAny_gsz (n := gn + 1) hgl (next_genG (Er := fun _ _ => False) hh hl hroom (hG.isGen e) hgs hgo (fun v s₁ gs' hbare hv => ?_) (fun s₁ hp h' hk => ?_) fun e s₁ he => he.elim)
  · intro hsz
    obtain ⟨a, x, σ, H, i, cp, Nx, r, hac, tie, I, st, nf, hy, kap⟩ := hv
    have hsz1 : gn < s₁.gens.size := by
      have q : (s₁.setGen gn gs').gens.size = s₁.gens.size := GenW.setGen_size _ _ _
      have hsz' : gn + 1 ≤ (s₁.setGen gn gs').gens.size := hsz
      omega
    refine item a x σ H i cp Nx v (s₁.setGen gn gs') gs' r hac tie (inv_moved I rfl (allBare_setGen I.bare hbare) fun _ _ q => q) st hy (setGen_at hsz1) fun a' cp' s' nx hac' I' st' => ?_
    have z := kap a' cp' s' nx hac' I' st'
    cases n with
    | zero => exact z.elim
    | succ m => exact ⟨m, rfl, z⟩
  · intro _
    obtain ⟨a, σ, H, cp, hac, tie, I, q⟩ := hp
    exact done a σ H cp _ hac tie (inv_moved I rfl (allBare_setGen I.bare rfl) hk) q
theorem next_gx {gs : GenState} {s : Shared} {Q : Option Value → Shared → Prop} {E : Value → Shared → Prop} (hh : A.handled = none) (hroom : A.depth < recursionLimit) (hl : s.heap.NoLimit) (hG : GenObj go gn) (e : s.heap.get? ga = some go) (hgs : s.gens[gn]? = some gs)
    (hgo : gs.Goes (model X.prog X.w) A.in1 (RG (gblk X A' s_0 H_0 cenv fp) AC End) (YG (gblk X A' s_0 H_0 cenv fp) fp tn AC Yd) n (.send .none) (s.setGen gn .running))
    (item : ∀ (a : α) (x : V) (σ : L2.St) (H : Hp) (i : Nat) (cp : List (Addr × Obj)) (Nx : α → Hp → Prop) (v : Value) (s1 : Shared) (gs' : GenState), RelV x v → AC a cp → Inv (gblk X A' s_0 H_0 cenv fp) cp σ H s1 → tn i s1.heap → Yd a x H Nx → s1.gens[gn]? = some gs' →
      (∀ a' cp' s', Nx a' H → AC a' cp' → Inv (gblk X A' s_0 H_0 cenv fp) cp' σ H s' → tn i s'.heap → ∃ m, n = m + 1 ∧ gs'.Goes (model X.prog X.w) A.in1 (RG (gblk X A' s_0 H_0 cenv fp) AC End) (YG (gblk X A' s_0 H_0 cenv fp) fp tn AC Yd) m (.send .none) s') → Q (some v) s1)
    (done : ∀ (a : α) (σ : L2.St) (H : Hp) (cp : List (Addr × Obj)) (s1 : Shared), AC a cp → Inv (gblk X A' s_0 H_0 cenv fp) cp σ H s1 → End a H → Q none s1) :
    wpAny (model X.prog X.w) A (pyNext (.ref ga)) Q E s :=
  next_gx2 hh hroom hl hG e hgs hgo (fun a x σ H i cp Nx v s1 gs' r hac _ I st hy at_ kap => item a x σ H i cp Nx v s1 gs' r hac I st hy at_ kap) fun a σ H cp s1 hac _ I q => done a σ H cp s1 hac I q
/-- all(..) asks on -/
theorem all_gx {R : Result → Shared → Prop} {Stop : Hp → Prop} {End : Unit → Hp → Prop} (hh : A.handled = none) (hroom : A.depth < recursionLimit) (hG : GenObj go gn)
    (yes : ∀ (σ : L2.St) (H : Hp) (cp : List (Addr × Obj)) (s1 : Shared), Inv (gblk X A' s_0 H_0 cenv fp) cp σ H s1 → End () H → R (.ok (.ret (.bool true))) s1)
    (no : ∀ (σ : L2.St) (H : Hp) (cp : List (Addr × Obj)) (s1 : Shared), Inv (gblk X A' s_0 H_0 cenv fp) cp σ H s1 → Stop H → R (.ok (.ret (.bool false))) s1) :
    ∀ (n : Nat) (s : Shared), s.heap.NoLimit → s.heap.get? ga = some go → (∃ gs, s.gens[gn]? = some gs ∧ gs.Goes (model X.prog X.w) A.in1.in1 (RG (gblk X A' s_0 H_0 cenv fp) (fun _ cp => cp = [(ga, go)]) End)
      (YG (gblk X A' s_0 H_0 cenv fp) fp tn (fun _ cp => cp = [(ga, go)]) (fun _ y H Nx => ∃ b : Bool, y = .bl b ∧ if b = true then Nx () H else Stop H)) n (.send .none) (s.setGen gn .running)) →
      codeAny (model X.prog X.w) A (.builtin "all.loop" ⟨[.ref ga], []⟩) R s := by
  intro n
  induction n with
  | zero =>
    rintro s hl e ⟨gs, hgs, hgo⟩
    refine codeAny_builtin F.entry_all_loop ?_
    rw [Around.under_plainId F.plain_all_loop _]
    show wpAny _ A.in1 (pyNext (.ref ga) >>= _) _ _ s
    refine wpAny_bind (next_gx (A := A.in1) hh hroom hl hG e hgs hgo (fun a x σ H i cp Nx v s1 gs' r hac I st hy at_ kap => ?_) fun a σ H cp s1 hac I q => ?_)
    · obtain ⟨b, rfl, hb⟩ := hy
      cases (show v = Value.bool b from r)
      refine wpAny_bind (wpAny_holding (wpAny_truthy_bool ?_))
      refine wpAny_bind (wpAny_letGo ?_)
      cases b with
      | true =>
        obtain ⟨m, hm, _⟩ := kap () cp s1 hb hac I st
        cases hm
      | false =>
        simp only [Bool.false_eq_true, if_false] at hb ⊢
        exact wpAny_bind (wpAny_rule (wpAny_pure (no σ H cp s1 I hb)))
    · exact wpAny_bind (wpAny_rule (wpAny_pure (yes σ H cp s1 I q)))
  | succ n ih =>
    rintro s hl e ⟨gs, hgs, hgo⟩
    refine codeAny_builtin F.entry_all_loop ?_
    rw [Around.under_plainId F.plain_all_loop _]
    show wpAny _ A.in1 (pyNext (.ref ga) >>= _) _ _ s
    refine wpAny_bind (next_gx (A := A.in1) hh hroom hl hG e hgs hgo (fun a x σ H i cp Nx v s1 gs' r hac I st hy at_ kap => ?_) fun a σ H cp s1 hac I q => ?_)
    · obtain ⟨b, rfl, hb⟩ := hy
      cases (show v = Value.bool b from r)
      refine wpAny_bind (wpAny_holding (wpAny_truthy_bool ?_))
      refine wpAny_bind (wpAny_letGo ?_)
      cases b with
      | true =>
        simp only [if_true] at hb ⊢
        subst hac
        refine wpAny_pure ⟨plainId_quiet F.plain_all_loop _, ih s1 I.nolimit (I.pin (ga, go) (List.mem_append_right _ List.mem_cons_self)).1 ⟨gs', at_, ?_⟩⟩
        obtain ⟨m, hm, z⟩ := kap () [(ga, go)] (s1.setGen gn .running) hb rfl (inv_moved I rfl (allBare_setGen I.bare rfl) fun _ _ q => q) st
        cases hm
        exact z
      | false =>
        simp only [Bool.false_eq_true, if_false] at hb ⊢
        exact wpAny_bind (wpAny_rule (wpAny_pure (no σ H cp s1 I hb)))
    · exact wpAny_bind (wpAny_rule (wpAny_pure (yes σ H cp s1 I q)))
end
section
variable {X : Cx}
/-- all(elt for tg in iter ..) -/
def tAllX (P : Addr) (wi : TI) (g : TG) (tt : TT) (te : TE) (vs : List Nat) : TE := fun σ H Q => wi σ H fun J H1 => GxR.TabG H1 P ∧ ∀ H2, GxR.Tabbed P H1 H2 → ∃ W : Nat → Nat → Unit → Hp → Prop, (∃ m, W 0 m () H2) ∧
  tGx J g tt te (wipe σ vs) vs (fun _ H => Q (.bl true) H) (fun _ y H Nx => ∃ b : Bool, y = .bl b ∧ if b = true then Nx () H else Q (.bl false) H) W
theorem pe_allX {c P : Addr} {elt tg iter : Expr} {ifs : List Expr} {p pos gpos : Pos} {scope : Scope} {own : List (Str × Nat)} {wi : TI} {g : TG} {tt : TT} {te : TE} {k : Nat}
    (hr : Room (k + 1) X.A) (hc : X.calm = true) (hN : X.N.Nodup) (hgl : Gl X "all") (hm : X.mg "all" = none) (hb : bootBuiltins "all" = some (.builtin "all")) (TB : GxR.TabB X.base X.mg c P) (hcode : X.env.code = .ref c)
    (hco : scope.isCoroutine = false) (hdot : scope.names.lookup (".0" : Str) = some NameKind.local) (nocell : ∀ y ∈ scope.names, y.2 ≠ .cell) (ok : BlkOk X.N X.env.scope scope own) (hi : PI X tg iter wi)
    (hg : ∀ (A' : Around) (s : Shared) (H : Hp) (C : Addr) (cl : List (Str × Addr)) (code : Value) (fp : List Addr), Room k A' → A'.guards = X.A.guards → PG (gblk X A' s H (genEnv scope cl C code builtinsNs X.env) fp) tg g)
    (ht : ∀ (A' : Around) (s : Shared) (H : Hp) (C : Addr) (cl : List (Str × Addr)) (code : Value) (fp : List Addr), Room k A' → A'.guards = X.A.guards → PTs (gblk X A' s H (genEnv scope cl C code builtinsNs X.env) fp) ifs tt)
    (he : ∀ (A' : Around) (s : Shared) (H : Hp) (C : Addr) (cl : List (Str × Addr)) (code : Value) (fp : List Addr), Room k A' → A'.guards = X.A.guards → PE (gblk X A' s H (genEnv scope cl C code builtinsNs X.env) fp) elt te)
    (hs : ∀ v, genFold iter X.env v = pure v)
    (hst : starEach [.GeneratorExp elt [⟨tg, iter, ifs, 0⟩] scope gpos] X.env = (false, eval (.GeneratorExp elt [⟨tg, iter, ifs, 0⟩] scope gpos) X.env) :: starEach [] X.env := by rfl) :
    PE X (.Call (.Name "all" p) [.GeneratorExp elt [⟨tg, iter, ifs, 0⟩] scope gpos] [] pos) (tAllX P wi g tt te (own.map (·.2))) := by
  refine ⟨fun pins s σ H Q I h => ?_⟩
  refine wpAny_Call_Name_kw (ld_blt I hgl hm hb ?_)
  refine PyProof.Rows.callWith_builtin1 ?_ hst (by rfl)
  rw [hst]
  show wpAny _ _ (spliced ((false, eval (.GeneratorExp elt [⟨tg, iter, ifs, 0⟩] scope gpos) X.env) :: backTo pos (starEach [] X.env))) _ _ s
  refine Calls.spliced_cons (gx_make (A := X.A.in1.in1) hr ⟨rfl, rfl, rfl, rfl, (by show X.A.units + 1 + 1 ≤ _; omega)⟩ hc hN TB hcode hco hdot nocell ok hi hg ht he hs I h fun J H1 H2 u s5 hR hT hG => ?_)
  obtain ⟨A', s_0, H_0, cenv, fp, ga, gn, go, tn, gs, rfl, hGO, hgs, hbare, I5, st5, nf, hlt, keep, back, goes⟩ := hG
  obtain ⟨W, ⟨m, w0⟩, turn⟩ := hR H2 hT
  refine Calls.spliced_nil ?_
  have pin5 := (I5.pin (ga, go) (List.mem_append_right _ List.mem_cons_self)).1
  refine call_function_tree F.kind_all F.plain_all F.entry_all (F.args_all1 _) ?_
  unfold Builtin.«all»
  refine wpAny_bind (m := oneArg "all" _) (wpAny_pure ?_)
  refine wpAny_bind (wpAny_pyIter_gen (hGO.isGen pin5) ?_)
  refine wpAny_pure ⟨plainId_quiet F.plain_all_loop _, all_gx (A' := A') (s_0 := s_0) (H_0 := H_0) (cenv := cenv) (fp := fp) (tn := tn) (go := go) (gn := gn) (Stop := fun H => Q (.bl false) H) (End := fun _ H => Q (.bl true) H) hr.hd hr.depth hGO
    (fun σ' H' cp s1 I1 q => ⟨.bl true, H', back _ _ _ _ I1, rfl, q⟩) (fun σ' H' cp s1 I1 q => ⟨.bl false, H', back _ _ _ _ I1, rfl, q⟩) (m + 1) s5 I5.nolimit pin5 ⟨gs, hgs, ?_⟩⟩
  refine goes Unit _ _ _ W m (m + 1) () [(ga, go)] _ turn w0 (Nat.lt_succ_self _) (fun a cp hac p hp b hb z => ?_) rfl (inv_moved I5 rfl (allBare_setGen I5.bare rfl) fun _ _ q => q) st5
  subst hac
  have e : p = (ga, go) := by simpa using hp
  subst e
  exact absurd (hlt b hb) (by rw [← z]; exact Nat.lt_irrefl _)
end
/-! ### tuple(..) -/
section
variable {X : Cx} {A A' : Around} {s_0 : Shared} {H_0 : Hp} {cenv : Env} {fp : List Addr} {tn : Nat → Heap → Prop} {ga S : Addr} {gn n : Nat} {go : Obj}
/-- the asker's list S holds what is out -/
def ACl (ga : Addr) (go : Obj) (S : Addr) (ys : List V) (cp : List (Addr × Obj)) : Prop := ∃ (acc : Array Value) (c : Nat), cp = [(ga, go), (S, lstObj acc c)] ∧ Vals ys acc.toList
def YdL (ys : List V) (y : V) (H : Hp) (Nx : List V → Hp → Prop) : Prop := ys.length < sizeLine ∧ Nx (ys ++ [y]) H
theorem ext_gx {R : Result → Shared → Prop} {End : List V → Hp → Prop} {res : Value} (hh : A.handled = none) (hroom : A.depth < recursionLimit) (hG : GenObj go gn) (hSa : S ≠ ga) (far : (gblk X A' s_0 H_0 cenv fp).s_0.heap.objs.size ≤ S) (hSc : ∀ x c, cenv.cells.lookup x = some c → c ≠ S)
    (keep : ∀ i h h', tn i h → (∀ b ∈ fp, ∀ o, h.get? b = some o → h'.get? b = some o) → tn i h') (hSf : ∀ b ∈ fp, b ≠ S)
    (yes : ∀ (σ : L2.St) (H : Hp) (ys : List V) (acc : Array Value) (c : Nat) (s1 : Shared), Inv (gblk X A' s_0 H_0 cenv fp) [(ga, go), (S, lstObj acc c)] σ H s1 → Vals ys acc.toList → End ys H → R (.ok (.ret res)) s1) :
    ∀ (n : Nat) (s : Shared), s.heap.NoLimit → s.heap.get? ga = some go → (∃ gs, s.gens[gn]? = some gs ∧ gs.Goes (model X.prog X.w) A.in1.in1 (RG (gblk X A' s_0 H_0 cenv fp) (ACl ga go S) End)
      (YG (gblk X A' s_0 H_0 cenv fp) fp tn (ACl ga go S) YdL) n (.send .none) (s.setGen gn .running)) →
      codeAny (model X.prog X.w) A (.builtin "list.extend.loop" ⟨[.ref S, .ref ga, res], []⟩) R s := by
  intro n
  induction n with
  | zero =>
    rintro s hl e ⟨gs, hgs, hgo⟩
    refine codeAny_builtin F.entry_extend_loop ?_
    rw [Around.under_plainId F.plain_extend_loop _]
    show wpAny _ A.in1 (pyNext (.ref ga) >>= _) _ _ s
    refine wpAny_bind (next_gx (A := A.in1) hh hroom hl hG e hgs hgo (fun ys x σ H i cp Nx v s1 gs' r hac I st hy at_ kap => ?_) fun ys σ H cp s1 hac I q => ?_)
    · obtain ⟨acc, c, rfl, rv⟩ := hac
      have pS := I.pin (S, lstObj acc c) (List.mem_append_right _ (List.mem_cons_of_mem _ List.mem_cons_self))
      have I0 : Inv (gblk X A' s_0 H_0 cenv fp) [(ga, go)] σ H s1 := I.pins_of fun p hp => I.pin p (List.mem_append_right _ (by rw [List.mem_singleton.mp hp]; exact List.mem_cons_self))
      have I1 := I0.turned (t' := s1.toks) (h' := s1.heap.update S (Obj.mapSeq (·.push v))) (it := S) (fun b o hb q => (Heap.get?_update_other _ _ (Ne.symm hb)).trans q) pS.2.1 pS.2.2.1 (.inr far) hSc (fun p hp => by rw [List.mem_singleton.mp (show p ∈ [(ga, go)] by simpa using hp)]; exact Ne.symm hSa)
      have e2 := Heap.get?_update_self (Obj.mapSeq (·.push v)) pS.1 rfl
      obtain ⟨m, hm, _⟩ := kap (ys ++ [x]) [(ga, go), (S, _)] _ hy.2 ⟨acc.push v, _, rfl, by rw [Array.toList_push]; exact rv.append (.cons r .nil)⟩ (I1.pins_of fun p hp => by
        rcases List.mem_cons.mp hp with z | z
        · rw [z]; exact I1.pin (ga, go) (List.mem_append_right _ List.mem_cons_self)
        · rw [List.mem_singleton.mp z]; exact ⟨e2, pS.2.1, pS.2.2.1, pS.2.2.2.1, fun v q => by cases q⟩) (keep _ _ _ st fun b hb o q => (Heap.get?_update_other _ _ (Ne.symm (hSf b hb))).trans q)
      cases hm
    · obtain ⟨acc, c, rfl, rv⟩ := hac
      exact wpAny_pure (yes σ H ys acc c s1 I rv q)
  | succ n ih =>
    rintro s hl e ⟨gs, hgs, hgo⟩
    refine codeAny_builtin F.entry_extend_loop ?_
    rw [Around.under_plainId F.plain_extend_loop _]
    show wpAny _ A.in1 (pyNext (.ref ga) >>= _) _ _ s
    refine wpAny_bind (next_gx (A := A.in1) hh hroom hl hG e hgs hgo (fun ys x σ H i cp Nx v s1 gs' r hac I st hy at_ kap => ?_) fun ys σ H cp s1 hac I q => ?_)
    · obtain ⟨acc, c, rfl, rv⟩ := hac
      have pS := I.pin (S, lstObj acc c) (List.mem_append_right _ (List.mem_cons_of_mem _ List.mem_cons_self))
      have I0 : Inv (gblk X A' s_0 H_0 cenv fp) [(ga, go)] σ H s1 := I.pins_of fun p hp => I.pin p (List.mem_append_right _ (by rw [List.mem_singleton.mp hp]; exact List.mem_cons_self))
      have I1 := I0.turned (t' := s1.toks) (h' := s1.heap.update S (Obj.mapSeq (·.push v))) (it := S) (fun b o hb q => (Heap.get?_update_other _ _ (Ne.symm hb)).trans q) pS.2.1 pS.2.2.1 (.inr far) hSc (fun p hp => by rw [List.mem_singleton.mp (show p ∈ [(ga, go)] by simpa using hp)]; exact Ne.symm hSa)
      have e2 := Heap.get?_update_self (Obj.mapSeq (·.push v)) pS.1 rfl
      have hln := rv.length
      have hlt : acc.size < sizeLine := by
        have := hy.1
        rw [hln] at this
        simpa using this
      have pG := I1.pin (ga, go) (List.mem_append_right _ List.mem_cons_self)
      show wpAny _ A.in1 (updateSeq S (·.push v) >>= _) _ _ _
      refine wpAny_bind ?_
      refine wpAny_updateSeq pS.1 rfl (wpAny_pure ⟨plainId_quiet F.plain_extend_loop _, ih _ I1.nolimit pG.1 ⟨gs', at_, ?_⟩⟩) (Nat.le_of_lt hlt) (by show (acc.push v).size ≤ sizeLine + 1; rw [Array.size_push]; omega)
      obtain ⟨m, hm, z⟩ := kap (ys ++ [x]) [(ga, go), (S, _)] (({ s1 with heap := s1.heap.update S (Obj.mapSeq (·.push v)) } : Shared).setGen gn .running) hy.2 ⟨acc.push v, _, rfl, by rw [Array.toList_push]; exact rv.append (.cons r .nil)⟩ (inv_moved (I1.pins_of fun p hp => by
        rcases List.mem_cons.mp hp with z | z
        · rw [z]; exact pG
        · rw [List.mem_singleton.mp z]; exact ⟨e2, pS.2.1, pS.2.2.1, pS.2.2.2.1, fun v q => by cases q⟩) rfl (allBare_setGen (s := { s1 with heap := s1.heap.update S (Obj.mapSeq (·.push v)) }) I1.bare rfl) fun _ _ q => q) (keep _ _ _ st fun b hb o q => (Heap.get?_update_other _ _ (Ne.symm (hSf b hb))).trans q)
      cases hm
      exact z
    · obtain ⟨acc, c, rfl, rv⟩ := hac
      exact wpAny_pure (yes σ H ys acc c s1 I rv q)
end
section
variable {X : Cx} {pins : List (Addr × Obj)} {σ : L2.St} {s5 : Shared} {J : It} {g : TG} {tt : TT} {te : TE} {vs : List Nat} {H4 : Hp} {u : Value}
/-- all that a generator hands out, in a list of the asker's own -/
theorem collect_gx {A : Around} {E : Value → Shared → Prop} {Q : List Value → Shared → Prop} {End : List V → Hp → Prop} {W : Nat → Nat → List V → Hp → Prop} {m : Nat} (hh : A.handled = none) (hroom : A.depth < recursionLimit) (G : Gx X pins σ A.in1.in1 J g tt te vs H4 u s5)
    (w0 : W 0 m [] H4) (turn : tGx J g tt te (wipe σ vs) vs End YdL W)
    (hQ : ∀ (s' : Shared) (acc : Array Value) (ys : List V) (H' : Hp), Inv X pins σ H' s' → Vals ys acc.toList → End ys H' → Q acc.toList s') : wpAny (model X.prog X.w) A (collect u) Q E s5 := by
  obtain ⟨A', s_0, H_0, cenv, fp, ga, gn, go, tn, gs, rfl, hGO, hgs, hbare, I5, st5, nf, hlt, keep, back, goes⟩ := G
  have pin5 := I5.pin (ga, go) (List.mem_append_right _ List.mem_cons_self)
  have glt : ga < s5.heap.objs.size := Heap.lt_size pin5.1
  have hSI : s5.heap.objs.size ≠ ga := Nat.ne_of_gt glt
  unfold collect
  refine wpAny_bind (wpAny_runValue (codeAny_builtin F.entry_proto_collect ?_))
  rw [Around.under_plainId F.plain_proto_collect _]
  show wpAny _ A.in1 (newList [] >>= fun l => again (.builtin "list.__iadd__" ⟨[l, .ref ga], []⟩)) _ _ s5
  refine wpAny_bind (wpAny_newObj_type ?_)
  refine wpAny_pure ⟨plainId_quiet F.plain_list_iadd _, codeAny_builtin F.entry_list_iadd ?_⟩
  rw [Around.under_plainId F.plain_list_iadd _]
  show wpAny _ A.in1 (Builtin.List.listExtendWith (.ref s5.heap.objs.size) (.ref ga) (.ref s5.heap.objs.size)) _ _ _
  unfold Builtin.List.listExtendWith
  have k1 : ∀ b o, s5.heap.get? b = some o → (s5.heap.push { cls := .type "list", data := .seq ([] : List Value).toArray }).get? b = some o := fun b o e => Heap.get?_push_of_some _ e
  have hT : Shared.TypeIs { s5 with heap := s5.heap.push { cls := .type "list", data := .seq ([] : List Value).toArray } } (.ref ga) "generator" := Heap.IsGen.typeIs (s := { s5 with heap := _ }) (hGO.isGen (k1 _ _ pin5.1))
  refine wpAny_bind (wpAny_typeOf hT ?_)
  have h1 : Builtin.List.listSameRef (.ref s5.heap.objs.size) (.ref ga) = false := by simp [Builtin.List.listSameRef, hSI]
  have h2 : (Value.type "generator" == Value.type "list") = false := by decide
  have h3 : (Value.type "generator" == Value.type "tuple") = false := by decide
  simp only [h1, h2, h3, Bool.or_false, Bool.false_eq_true, if_false]
  refine wpAny_bind (wpAny_pyIter_gen (s := { s5 with heap := _ }) (hGO.isGen (k1 _ _ pin5.1)) ?_)
  refine wpAny_bind (wpAny_holding ?_)
  unfold Builtin.List.listLengthHint
  refine wpAny_bind (wpAny_specialOf hT F.gen_no_len ?_)
  show wpAny _ A.in1 (specialOf (Value.ref ga) (Str.ofString "__length_hint__") >>= _) _ _ _
  refine wpAny_bind (wpAny_specialOf hT F.gen_no_hint ?_)
  refine wpAny_pure ?_
  show wpAny _ A.in1 (rule "list.extend.makes-room" >>= fun _ => Builtin.List.listTouch (.ref s5.heap.objs.size) >>= fun _ =>
    again (.builtin "list.extend.loop" ⟨[.ref s5.heap.objs.size, .ref ga, .ref s5.heap.objs.size], []⟩)) _ _ _
  refine wpAny_bind (wpAny_rule ?_)
  have hS₁ : (s5.heap.push { cls := .type "list", data := .seq ([] : List Value).toArray }).get? s5.heap.objs.size = some { cls := .type "list", data := .seq ([] : List Value).toArray } := Heap.get?_push_size _ rfl
  refine wpAny_bind ?_
  show wpAny _ A.in1 (updateSeq s5.heap.objs.size (·.push .none) >>= fun _ => updateSeq s5.heap.objs.size (·.pop)) _ _ _
  refine wpAny_bind (wpAny_updateSeq hS₁ rfl ?_)
  have hS₂ := Heap.get?_update_self (Obj.mapSeq (·.push Value.none)) hS₁ rfl
  refine wpAny_updateSeq hS₂ rfl ?_
  have hS₃ := Heap.get?_update_self (Obj.mapSeq (·.pop)) hS₂ rfl
  obtain ⟨c3, hS₄⟩ : ∃ c, (((s5.heap.push { cls := .type "list", data := .seq ([] : List Value).toArray }).update s5.heap.objs.size (Obj.mapSeq (·.push Value.none))).update s5.heap.objs.size (Obj.mapSeq (·.pop))).get? s5.heap.objs.size = some (lstObj #[] c) := ⟨_, hS₃⟩
  have k3 : ∀ b o, s5.heap.get? b = some o → (((s5.heap.push { cls := .type "list", data := .seq ([] : List Value).toArray }).update s5.heap.objs.size (Obj.mapSeq (·.push Value.none))).update s5.heap.objs.size (Obj.mapSeq (·.pop))).get? b = some o :=
    fun b o e => (Heap.get?_update_other _ _ (Ne.symm (Nat.ne_of_lt (Heap.lt_size e)))).trans ((Heap.get?_update_other _ _ (Ne.symm (Nat.ne_of_lt (Heap.lt_size e)))).trans (k1 b o e))
  have fS : FpOk (gblk X A' s_0 H_0 cenv fp) [(ga, go)] H4 s5.heap.objs.size := I5.fpOk (Nat.le_refl _) (I5.hok.fresh (Nat.le_refl _))
  have hfS : ∀ b ∈ fp, b ≠ s5.heap.objs.size := fun b hb => Nat.ne_of_lt (Nat.lt_trans (hlt b hb) glt)
  have I6 := inv_moved (s' := { s5 with heap := ((s5.heap.push { cls := .type "list", data := .seq ([] : List Value).toArray }).update s5.heap.objs.size (Obj.mapSeq (·.push Value.none))).update s5.heap.objs.size (Obj.mapSeq (·.pop)) }) I5 rfl I5.bare k3
  refine wpAny_pure ⟨plainId_quiet F.plain_extend_loop _, ext_gx (A := A) (A' := A') (s_0 := s_0) (H_0 := H_0) (cenv := cenv) (fp := fp) (tn := tn) (go := go) (gn := gn) (End := End) hh hroom hGO hSI ?_ fS.2.2.2.2.1 keep hfS
    (fun σ' H' ys acc c s1 I1 rv q => ?_) (m + 1) _ I6.nolimit (k3 _ _ pin5.1) ⟨gs, hgs, ?_⟩⟩
  · exact Nat.le_trans I5.sz (Nat.le_refl _)
  · show wpAny _ A (load s5.heap.objs.size >>= _) _ _ s1
    have pS := (I1.pin (s5.heap.objs.size, lstObj acc c) (List.mem_append_right _ (List.mem_cons_of_mem _ List.mem_cons_self))).1
    refine wpAny_bind (wpAny_load pS ?_)
    exact wpAny_pure (hQ s1 acc ys H' (back _ _ _ _ I1) rv q)
  · refine goes (List V) (ACl ga go s5.heap.objs.size) End YdL W m (m + 1) [] [(ga, go), (s5.heap.objs.size, lstObj #[] c3)] _ turn w0 (Nat.lt_succ_self _) (fun ys cp hac p hp b hb z => ?_) ⟨#[], c3, rfl, .nil⟩
      (inv_moved (I6.pins_of fun p hp => ?_) rfl (allBare_setGen (s := { s5 with heap := _ }) I5.bare rfl) fun _ _ q => q) (keep _ _ _ st5 fun b hb o q => k3 b o q)
    · obtain ⟨acc, c, rfl, _⟩ := hac
      rcases List.mem_cons.mp hp with e | e
      · rw [e] at z
        exact absurd (hlt b hb) (by rw [← z]; exact Nat.lt_irrefl _)
      · rw [List.mem_singleton.mp e] at z
        exact hfS b hb z.symm
    · rcases List.mem_cons.mp hp with e | e
      · rw [e]
        exact I6.pin (ga, go) (List.mem_append_right _ List.mem_cons_self)
      · rw [List.mem_singleton.mp e]
        exact ⟨hS₄, fS.1, fS.2.1, fS.2.2.1, fun v q => by cases q⟩
end
section
variable {X : Cx}
/-- tuple(elt for tg in iter ..) -/
def tTupX (P : Addr) (wi : TI) (g : TG) (tt : TT) (te : TE) (vs : List Nat) : TE := fun σ H Q => wi σ H fun J H1 => GxR.TabG H1 P ∧ ∀ H2, GxR.Tabbed P H1 H2 → ∃ W : Nat → Nat → List V → Hp → Prop, (∃ m, W 0 m [] H2) ∧
  tGx J g tt te (wipe σ vs) vs (fun ys H => ys.length ≤ sizeLine ∧ ∀ p, H p = none → Q (.ref p) (upd H p (.tup ys))) YdL W
theorem pe_tupX {c P : Addr} {elt tg iter : Expr} {ifs : List Expr} {p pos gpos : Pos} {scope : Scope} {own : List (Str × Nat)} {wi : TI} {g : TG} {tt : TT} {te : TE} {k : Nat}
    (hr : Room (k + 1) X.A) (hc : X.calm = true) (hN : X.N.Nodup) (hgl : Gl X "tuple") (hm : X.mg "tuple" = none) (hb : bootBuiltins "tuple" = some (.type "tuple")) (TB : GxR.TabB X.base X.mg c P) (hcode : X.env.code = .ref c)
    (hco : scope.isCoroutine = false) (hdot : scope.names.lookup (".0" : Str) = some NameKind.local) (nocell : ∀ y ∈ scope.names, y.2 ≠ .cell) (ok : BlkOk X.N X.env.scope scope own) (hi : PI X tg iter wi)
    (hg : ∀ (A' : Around) (s : Shared) (H : Hp) (C : Addr) (cl : List (Str × Addr)) (code : Value) (fp : List Addr), Room k A' → A'.guards = X.A.guards → PG (gblk X A' s H (genEnv scope cl C code builtinsNs X.env) fp) tg g)
    (ht : ∀ (A' : Around) (s : Shared) (H : Hp) (C : Addr) (cl : List (Str × Addr)) (code : Value) (fp : List Addr), Room k A' → A'.guards = X.A.guards → PTs (gblk X A' s H (genEnv scope cl C code builtinsNs X.env) fp) ifs tt)
    (he : ∀ (A' : Around) (s : Shared) (H : Hp) (C : Addr) (cl : List (Str × Addr)) (code : Value) (fp : List Addr), Room k A' → A'.guards = X.A.guards → PE (gblk X A' s H (genEnv scope cl C code builtinsNs X.env) fp) elt te)
    (hs : ∀ v, genFold iter X.env v = pure v)
    (hst : starEach [.GeneratorExp elt [⟨tg, iter, ifs, 0⟩] scope gpos] X.env = (false, eval (.GeneratorExp elt [⟨tg, iter, ifs, 0⟩] scope gpos) X.env) :: starEach [] X.env := by rfl) :
    PE X (.Call (.Name "tuple" p) [.GeneratorExp elt [⟨tg, iter, ifs, 0⟩] scope gpos] [] pos) (tTupX P wi g tt te (own.map (·.2))) := by
  refine ⟨fun pins s σ H Q I h => ?_⟩
  refine wpAny_Call_Name_kw (ld_blt I hgl hm hb ?_)
  refine PyProof.Rows.callWith_type1 ?_ hst (by rfl)
  rw [hst]
  show wpAny _ _ (spliced ((false, eval (.GeneratorExp elt [⟨tg, iter, ifs, 0⟩] scope gpos) X.env) :: backTo pos (starEach [] X.env))) _ _ s
  refine Calls.spliced_cons (gx_make (A := X.A.in1.in1.in1.in1) hr ⟨rfl, rfl, rfl, rfl, (by show X.A.units + 1 + 1 + 1 + 1 ≤ _; omega)⟩ hc hN TB hcode hco hdot nocell ok hi hg ht he hs I h fun J H1 H2 u s5 hR hT hG => ?_)
  obtain ⟨W, ⟨m, w0⟩, turn⟩ := hR H2 hT
  refine Calls.spliced_nil ?_
  have ⟨A', s_0, H_0, cenv, fp, ga, gn, go, tn, gs, eu, hGO, hgs, hbare, I5, st5, nf, hlt, keep, back, goes⟩ := hG
  have pin5 := (I5.pin (ga, go) (List.mem_append_right _ List.mem_cons_self)).1
  rw [eu] at hG ⊢
  refine callType_codes (Q₁ := fun obj s₁ => s₁.TypeIs obj "tuple" ∧ EP X pins σ Q obj s₁) F.called_tuple (F.typeCall_tuple_1 _) F.entry_object_init ?_ fun obj s₁ h₁ =>
    ⟨h₁.1, F.args_object_init_2 obj _, object_init_meets F.called_tuple.init.lookup F.called_tuple.made (by decide) X.prog X.w X.A.in1 _ s₁ ⟨h₁.1, rfl, h₁.2⟩⟩
  refine codeAny_of_tree ?_
  show wpAny _ X.A.in1.in1 (do checkBuiltinCall "tuple.__new__" ⟨[.type "tuple", .ref ga], []⟩; again (.builtin "tuple.__new__" ⟨[.type "tuple", .ref ga], []⟩)) _ _ s5
  refine wpAny_bind (wpAny_of_eq (F.newCall_tuple_1 _) (wpAny_pure ⟨plainId_quiet F.plain_tuple_new _, codeAny_builtin F.entry_tuple_new ?_⟩))
  rw [Around.under_plainId F.plain_tuple_new _]
  have hsub := sub_tuple_self
  have hinit := init_tuple_lookup
  have hmh := madeHere_tuple
  have hTI : s5.TypeIs (.ref ga) "generator" := (hGO.isGen pin5).typeIs
  have col : ∀ {Q0 : List Value → Shared → Prop} {E0 : Value → Shared → Prop}, (∀ (s' : Shared) (acc : Array Value), (∃ (ys : List V) (H' : Hp), Inv X pins σ H' s' ∧ Vals ys acc.toList ∧ ys.length ≤ sizeLine ∧ ∀ p, H' p = none → Q (.ref p) (upd H' p (.tup ys))) → Q0 acc.toList s') →
      wpAny (model X.prog X.w) X.A.in1.in1 (collect (.ref ga)) Q0 E0 s5 := fun hq => collect_gx hr.hd hr.depth hG w0 turn (fun s' acc ys H' I' rv q => hq s' acc ⟨ys, H', I', rv, q.1, q.2⟩)
  wp_walk using wpAny_typeOf hTI, col
  rintro s' acc ⟨ys, H', I', rv, small, q⟩
  show wpAny _ _ (Builtin.Tuple.tupleExact acc.toList.toArray >>= fun v => ret v) _ _ _
  unfold Builtin.Tuple.tupleExact
  refine wpAny_bind (wpAny_newObj_type ?_ (by show acc.toList.toArray.size ≤ sizeLine; rw [List.size_toArray, ← rv.length]; exact small))
  refine wpAny_pure ?_
  have free : H' s'.heap.objs.size = none := I'.hok.fresh (Nat.le_refl _)
  refine ⟨⟨_, Heap.get?_push_size _ rfl, rfl⟩, .ref s'.heap.objs.size, upd H' s'.heap.objs.size (.tup ys), I'.laid (t' := s'.toks) (fun b u z => Heap.get?_push_of_some _ z) (Nat.le_refl _) ⟨small, acc.toList, rv, ?_⟩, rfl, q _ free⟩
  exact ⟨_, Heap.get?_push_size _ rfl, rfl, 0, rfl⟩
end
/-! ### a def by its body, its code object known -/
theorem okC {P : Program} {w : World} {K : PySem.W.Frag} {mg : Str → Option Value} {base : Heap} {x qual : Str} {st : Stmt} {f : Addr} {fd : FuncData} {N ps : List Str} {k : Nat} {sp : Sp} (F : Fun K x qual st f fd) (S : FnScope N ps (defScope st)) (len : ∀ vs H Q E, sp vs H Q E → vs.length = ps.length)
    (body : ∀ (A : Around) (outer : List Env) (s : Shared) (H : Hp) (vs : List V) (Q : VK) (E : XK), Room k (A.deeper (envOfC qual (defScope st) s.heap.objs.size f fd.code)) → sp vs H Q E →
      ∃ t, PSs (cxOf CX0 P w K mg base N qual (defScope st) f fd.code A outer s H E).nox (defBody st) t ∧ t { nx := fun _ H' => Q .non H', rt := Q } (start N vs) H) : FnOk P w K mg base CX0 (k + 1) f fd ps sp := by
  obtain ⟨oc, od, kV, doc, pm, an, cdv, ct, osl, rfl, lk, hcd⟩ := F.ex
  refine fn_of lk hcd S len fun A outer s H vs Q E hr hsp => ?_
  obtain ⟨t, h, q⟩ := body A outer s H vs Q E hr hsp
  exact ⟨t, h.nox, q⟩
/-! ### from the head's facts -/
theorem fun_of {K : PySem.W.Frag} {x qual : Str} {st : Stmt} {f : Addr} {fd : FuncData} (F : FunD K x qual (defArgs st) (defBody st) (defScope st) [] [] f fd) : Fun K x qual st f fd := by
  obtain ⟨oc, od, dV, kV, doc, pm, an, cdv, ct, osl, rfl, lk, hcd, hd, _⟩ := F.ex
  rcases hd with ⟨_, rfl⟩ | ⟨z, _⟩
  · exact ⟨⟨oc, od, kV, doc, pm, an, cdv, ct, osl, rfl, lk, hcd⟩, F.kp⟩
  · exact absurd rfl z
theorem code_of {K : PySem.W.Frag} {x qual : Str} {st : Stmt} {p : He.Defn} {fd : FuncData} (F : Fun K x qual st (He.fAd K p) fd) : fd.code = .ref (He.cT K p).1 := by
  obtain ⟨oc, od, kV, doc, pm, an, cdv, ct, osl, rfl, lk, hcd⟩ := F.ex
  obtain ⟨c, rfl⟩ := He.codeIn_ref hcd
  show Value.ref c = Value.ref (He.codeOf K p)
  rw [He.codeOf_eq lk rfl]
theorem tab_of {base : Heap} {mg : Str → Option Value} {c P : Addr} (h : LamX.TabB base mg c P) : GxR.TabB base mg c P := ⟨h.code, h.bm, h.gP⟩
/-! ### heaps whose tables grow -/
def Tabs (H : Hp) (Ps : List Addr) : Prop := ∀ P ∈ Ps, GxR.TabG H P
/-- what is no table stays; tables stay tables -/
def Gr (H H' : Hp) : Prop := (∀ b o, (∀ ps, o ≠ HO.tbl ps) → H b = some o → H' b = some o) ∧ ∀ b, GxR.TabG H b → GxR.TabG H' b
theorem Gr.refl {H : Hp} : Gr H H := ⟨fun _ _ _ e => e, fun _ e => e⟩
theorem Gr.trans {H H1 H2 : Hp} (a : Gr H H1) (b : Gr H1 H2) : Gr H H2 := ⟨fun c o n e => b.1 c o n (a.1 c o n e), fun c e => b.2 c (a.2 c e)⟩
theorem Gr.of {H H' : Hp} (h : ∀ b o, H b = some o → H' b = some o) : Gr H H' := ⟨fun b o _ e => h b o e, fun b ⟨ps, e, t⟩ => ⟨ps, h _ _ e, t⟩⟩
theorem Gr.tab {P : Addr} {H H' : Hp} (t : GxR.TabG H P) (h : GxR.Tabbed P H H') : Gr H H' := by
  obtain ⟨ps, e, _⟩ := t
  refine ⟨fun b o n q => ?_, fun b q => ?_⟩
  · by_cases hb : b = P
    · rw [hb, e] at q
      exact absurd (Option.some.inj q).symm (n ps)
    · rw [h.2 b hb]; exact q
  · by_cases hb : b = P
    · rw [hb]; exact h.1
    · obtain ⟨ps', e', t'⟩ := q
      exact ⟨ps', by rw [h.2 b hb]; exact e', t'⟩
theorem Gr.tup {H H' : Hp} (g : Gr H H') {a : Addr} {xs : List V} (h : H a = some (.tup xs)) : H' a = some (.tup xs) := g.1 a _ (fun _ z => by cases z) h
theorem Gr.lst {H H' : Hp} (g : Gr H H') {a : Addr} {xs : List V} (h : H a = some (.lst xs)) : H' a = some (.lst xs) := g.1 a _ (fun _ z => by cases z) h
theorem Gr.tabs {H H' : Hp} (g : Gr H H') {Ps : List Addr} (h : Tabs H Ps) : Tabs H' Ps := fun P hP => g.2 P (h P hP)
theorem Gr.none {H : Hp} {a : Addr} {o : HO} (n : H a = Option.none) : Gr H (upd H a o) := Gr.of fun b u e => by
  rw [upd_ne (ne_of_none e n)]
  exact e
namespace CwR
/-- behind it a token is out -/
def PEp (X : Cx) (e : Expr) (t : TE) : Prop := ∀ (pins : List (Addr × Obj)) (s : Shared) (σ : L2.St) (H : Hp) (Q : VK), Inv X pins σ H s → t σ H Q → wpAny (model X.prog X.w) X.A (eval e X.env) (fun u s' => 1 ≤ s'.toks ∧ EP X pins σ Q u s') X.xe s
theorem pep_ix {X : Cx} {a : Expr} {i : Int} {j : Nat} {p pos : Pos} {ta : TE} {r : R2} (hr : IxR X r) (ha : PE X a ta) (hs : PlainIx (.Constant (.int i) j p)) : PEp X (.Subscript a (.Constant (.int i) j p) pos) (tOp r ta (tC (.int i))) := by
  intro pins s σ H Q I h
  refine Subscript_ (thn (ha.run pins s σ H _ I h) fun v s1 ⟨x, H1, I1, r1, q1⟩ => wpAny_Constant_int ?_)
  refine wpAny_mono (PySem.wpAny_toks (hr a _ pins { s1 with toks := s1.toks + 1 } σ H1 x (.int i) v (.int i s1.toks) Q (I1.tok _) r1 ⟨_, rfl⟩ q1 (hs _ _))) (fun u s2 q => ⟨?_, q.2⟩) fun _ _ z => z.2
  have h1 : s1.toks + 1 ≤ s2.toks := q.1
  omega
theorem pep_repl {X : Cx} {o : Expr} {to : TE} {y z : Str} {j k : Nat} {c0 c1 apos pos : Pos} (ho : PEp X o to) (hyz : (y == z) = false := by decide)
    (hst : starEach [.Constant (.str y) j c0, .Constant (.str z) k c1] X.env = [(false, eval (.Constant (.str y) j c0) X.env), (false, eval (.Constant (.str z) k c1) X.env)] := by rfl)
    (hbase : attributeBase o "replace" X.env (eval o X.env) = eval o X.env := by rfl) (hline : (apos.endLine == pos.line) = true := by rfl) :
    PEp X (.Call (.Attribute o "replace" apos) [.Constant (.str y) j c0, .Constant (.str z) k c1] [] pos) (CwR.tReplC to y z) := by
  intro pins s σ H Q I h
  refine PySem.Call_method2 hbase hst hline (wpAny_mono (ho pins s σ H _ I h) (fun v s1 q => ?_) fun _ _ z => z)
  obtain ⟨hk, v', H1, I1, r1, x, e1, hb, q⟩ := q
  subst e1
  obtain ⟨tx, e2⟩ := r1
  subst e2
  refine ⟨"str", _, PySem.F.plainAttrs_str, PySem.F.slot_str_replace, PySem.F.type_str_replace, typeIs_str _ _ _, (fun _ e => nomatch e), Calls.callWith_builtin rfl (Calls.evalArgs_plain (Calls.spliced_cons ?_))⟩
  refine Calls.Constant_str (Calls.spliced_cons (Calls.Constant_str (Calls.spliced_nil ?_)))
  refine wpAny_mono (PySem.wpAny_toks (PySem.SC.replace (Q := fun u s' => EP X pins σ Q u s') (by show s1.toks ≠ 0; omega) (by show s1.toks + 1 ≠ 0; omega) (by show s1.toks ≠ s1.toks + 1; omega) hyz hb fun t' k => ⟨.str (Txt.replace x y z), H1, I1.tok k, ⟨t', rfl⟩, q⟩)) (fun u s2 q => ⟨?_, q.2⟩) fun _ _ z => z.2
  have h1 : s1.toks + 1 + 1 ≤ s2.toks := q.1
  omega
theorem pe_replP {X : Cx} {e : Expr} {t : TE} (h : PEp X e t) : PE X e t := ⟨fun pins s σ H Q I q => wpAny_mono (h pins s σ H Q I q) (fun _ _ z => z.2) fun _ _ z => z⟩
end CwR

/-! ### list(reversed(a list)) -/
namespace RevL
open RT PySem.Calls
section
variable {prog : Program} {w : World} {A : Around} {E : Value → Shared → Prop} {s : Shared}
theorem grows_rev {it l S : Addr} {c0 : Nat} {xs : Array Value} {R : Result → Shared → Prop} {res : Value} (quiet : A.handled = none) (rev : s.heap.IsRevIter it l ((xs.size : Int) - 1)) (src : s.heap.IsList l xs) (apart : l ≠ it) (few : xs.size ≤ sizeLine)
    (tgt : s.heap.get? S = some { cls := .type "list", data := .seq #[] c0 }) (n1 : S ≠ it) (n2 : S ≠ l)
    (fin : ∀ (hp : Heap) (tk : Nat) (acc : Array Value) (c : Nat), (∀ b o, b ≠ it → b ≠ S → s.heap.get? b = some o → hp.get? b = some o) → hp.get? S = some { cls := .type "list", dict := none, data := .seq acc c, slots := #[] } → ItemsOf (fun i v => xs[xs.size - 1 - i]? = some v) acc xs.size → R (.ok (.ret res)) { s with heap := hp, toks := tk }) :
    wpAny (model prog w) A.in1 (Builtin.List.listExtendWith (.ref S) (.ref it) res)
      (fun f st => match f with | .done g => R (.ok g) st | .again c => c.quiet = true ∧ codeAny (model prog w) A c R st) (fun e st => R (.error e) st) s := by
  have walk := (Walks.listRev (prog := prog) (w := w) (A := A.in1) quiet it l apart xs).toS
  have notIn : S ∉ [it, l] := by
    intro h
    rcases List.mem_cons.mp h with h | h
    · exact n1 h
    · exact n2 (List.mem_singleton.mp h)
  have ty : s.TypeIs (.ref it) "list_reverseiterator" := rev.typeIs
  have unlike : Builtin.List.listSameRef (.ref S) (.ref it) = false := by simp [Builtin.List.listSameRef, n1]
  unfold Builtin.List.listExtendWith
  refine wpAny_bind (wpAny_typeOf ty (?_))
  rw [if_neg (show ¬ _ by rw [unlike]; decide)]
  refine wpAny_bind (wpAny_pyIter_revIter rev (wpAny_bind (wpAny_holding ?_)))
  unfold Builtin.List.listLengthHint
  refine wpAny_bind (wpAny_specialOf ty nolen_lri (?_))
  show wpAny _ _ (specialOf (Value.ref it) (Str.ofString "__length_hint__") >>= _) _ _ _
  refine wpAny_bind (wpAny_specialOf ty hint_lri (?_))
  generalize name : ("list_reverseiterator.__length_hint__" : String) = nm
  wp_delta
  rw [show splitId nm = some ("list_reverseiterator", "__length_hint__") by rw [← name]; decide +kernel]
  rw [← name]
  refine wpAny_bind (wpAny_isInstance (b := true) ty (by rw [isSubtype_type]; kernel_rfl) (wpAny_pure ?_))
  rw [if_neg (show ¬ _ by decide)]
  have first : ((xs.size : Nat) : Int) - 1 - ((0 : Nat) : Int) = (xs.size : Int) - 1 := by omega
  refine wpAny_pure ⟨plainId_quiet F.plain_extend_loop _, codeAny_extend_loopS walk few _ notIn _ xs.size 0 _ _ _ rfl (Nat.zero_le _) ⟨Nat.zero_le _, by rw [first]; exact rev, src⟩ tgt (ItemsOf.nil _) fun st acc c moved hS got => ?_⟩
  rw [Moved.eq_with moved]
  refine fin st.heap st.toks acc c (fun b o b1 b2 e => moved.heap b o (fun h => ?_) e) hS got
  rcases List.mem_cons.mp h with h | h
  · exact b2 h
  · exact b1 (List.mem_singleton.mp h)
theorem call_list_rev {it l : Addr} {xs : Array Value} {Q : Value → Shared → Prop} (quiet : A.handled = none) (rev : s.heap.IsRevIter it l ((xs.size : Int) - 1)) (src : s.heap.IsList l xs) (apart : l ≠ it) (few : xs.size ≤ sizeLine)
    (fin : ∀ (hp : Heap) (tk : Nat) (acc : Array Value) (c : Nat), (∀ b o, b ≠ it → s.heap.get? b = some o → hp.get? b = some o) → hp.get? s.heap.objs.size = some { cls := .type "list", dict := none, data := .seq acc c, slots := #[] } → ItemsOf (fun i v => xs[xs.size - 1 - i]? = some v) acc xs.size → Q (.ref s.heap.objs.size) { s with heap := hp, toks := tk }) :
    wpAny (model prog w) A (call (.type "list") [.ref it]) Q E s := by
  have newAt : ∀ {b : Addr} {o : Obj}, s.heap.get? b = some o → b ≠ s.heap.objs.size := fun e => Nat.ne_of_lt (Heap.lt_size e)
  have itNew : s.heap.objs.size ≠ it := by
    obtain ⟨o, e, _⟩ := id rev
    exact (newAt e).symm
  have lNew : s.heap.objs.size ≠ l := by
    obtain ⟨o, e, _⟩ := id src
    exact (newAt e).symm
  refine callType_codes (Q₁ := fun v st => v = .ref s.heap.objs.size ∧ st = { s with heap := s.heap.push { cls := .type "list", data := .seq #[] } }) F.called_list (F.typeCall_list_1 _) F.entry_list_init (code_list_new _ ⟨rfl, rfl⟩) ?_
  rintro v st ⟨rfl, rfl⟩
  have made : (s.heap.push { cls := .type "list", data := .seq #[] }).get? s.heap.objs.size = some { cls := .type "list", data := .seq #[] } := Heap.get?_push_size _ rfl
  refine ⟨⟨_, made, rfl⟩, F.args_list_init_2 _ _, ?_⟩
  show wpAny _ A.in1.in1 (do let was ← Builtin.List.listItems (.ref s.heap.objs.size); Builtin.List.listUpdate (.ref s.heap.objs.size) (fun _ => #[]); letGo was.toList.reverse; Builtin.List.listExtendWith (.ref s.heap.objs.size) (.ref it) .none) _ _ _
  refine wpAny_bind ?_
  unfold Builtin.List.listItems
  refine wpAny_bind (wpAny_seqItems made rfl (wpAny_pure (wpAny_bind ?_)))
  show wpAny _ _ (updateSeq s.heap.objs.size (fun _ => (#[] : Array Value))) _ _ _
  refine wpAny_updateSeq made rfl (wpAny_bind (wpAny_letGo ?_))
  have emptied := Heap.get?_update_self (Obj.mapSeq (fun _ => (#[] : Array Value))) made rfl
  have stays : ∀ b o, s.heap.get? b = some o → ((s.heap.push { cls := .type "list", data := .seq #[] }).update s.heap.objs.size (Obj.mapSeq (fun _ => (#[] : Array Value)))).get? b = some o := fun b o e =>
    (Heap.get?_update_other _ _ (newAt e).symm).trans (Heap.get?_push_of_some _ e)
  refine grows_rev (A := A.in1) quiet (rev.at fun o e => stays _ _ e) (by obtain ⟨o, e, r⟩ := id src; exact ⟨o, stays _ _ e, r⟩) apart few emptied itNew lNew fun hp tk acc c keep hS got => ?_
  exact ⟨rfl, fin hp tk acc c (fun b o b1 e => keep b o b1 (newAt e) (stays b o e)) hS got⟩
def tLstRev (K : PySem.W.Frag) (te : TE) : TE := fun σ H Q => te σ H fun v H1 => ∃ (a : Addr) (xs : List V), v = .ref a ∧ SqL K H1 a xs ∧ ∀ q, H1 q = none → Q (.ref q) (upd H1 q (.lst xs.reverse))
theorem pe_lstRev {X : Cx} {e : Expr} {te : TE} {p1 p2 pos pos2 : Pos} (calm : X.calm = true) (g1 : Gl X "list") (m1 : X.mg "list" = none) (g2 : Gl X "reversed") (m2 : X.mg "reversed" = none) (he : PE X e te)
    (st1 : starEach [e] X.env = (false, eval e X.env) :: starEach [] X.env := by rfl)
    (st2 : starEach [.Call (.Name "reversed" p2) [e] [] pos2] X.env = (false, eval (.Call (.Name "reversed" p2) [e] [] pos2) X.env) :: starEach [] X.env := by rfl) :
    PE X (.Call (.Name "list" p1) [.Call (.Name "reversed" p2) [e] [] pos2] [] pos) (tLstRev X.K te) := by
  refine ⟨fun pins s σ H Q I told => ?_⟩
  refine Call_ (ld_blt I g1 m1 boot_list (PyProof.Rows.callWith_type1 (args_cons (Call_ (ld_blt I g2 m2 PyProof.Rows.boot_reversed (PyProof.Rows.callWith_type1 (args_cons (thn (he.run pins s σ H _ I told) ?_) st1) st1 rfl))) st2) st2 rfl))
  rintro u s1 ⟨v, H1, I1, r1, a, xs, rfl, list, q⟩
  refine args_nil ?_
  cases (show u = Value.ref a from r1)
  obtain ⟨us, rv, plain, few⟩ := I1.list list
  have src := plain.isList
  refine call_reversed_list src (args_nil ?_)
  have apart : a ≠ s1.heap.objs.size := by
    obtain ⟨o, e, _⟩ := id src
    exact Nat.ne_of_lt (Heap.lt_size e)
  have few2 : us.toArray.size ≤ sizeLine := by
    rw [List.size_toArray, ← rv.length]
    exact few
  refine call_list_rev (s := { s1 with heap := s1.heap.push (revObj a ((us.toArray.size : Int) - 1)) }) (I1.ok.hd calm) ⟨_, Heap.get?_push_size _ rfl, rfl, rfl⟩ (src.push _) apart few2 fun hp tk acc c keep hS got => ?_
  have size2 : s1.heap.objs.size ≤ (s1.heap.push (revObj a ((us.toArray.size : Int) - 1))).objs.size := by
    rw [Heap.size_push]
    exact Nat.le_succ _
  refine ⟨.ref _, upd H1 _ (.lst xs.reverse), I1.laid (t' := tk) (fun b o e => keep b o (Nat.ne_of_lt (Heap.lt_size e)) (Heap.get?_push_of_some _ e)) size2 ⟨by rw [List.length_reverse]; exact few, acc.toList, c, vals_rev rv got, ?_⟩, rfl, q _ (I1.hok.fresh size2)⟩
  rw [Array.toArray_toList]
  exact hS
end
end RevL

/-! ### heaps -/
theorem same_upd {H : Hp} {p : Addr} {o : HO} (h : H p = none) : Same H (upd H p o) := fun b x e => by
  rw [upd_ne (ne_of_none e h)]
  exact e
def Fr (d l : Addr) (H H' : Hp) : Prop := ∀ b o, b ≠ d → b ≠ l → H b = some o → H' b = some o
theorem Fr.trans {d l : Addr} {H H1 H2 : Hp} (a : Fr d l H H1) (b : Fr d l H1 H2) : Fr d l H H2 := fun c o h1 h2 h => b c o h1 h2 (a c o h1 h2 h)
theorem Fr.refl {d l : Addr} {H : Hp} : Fr d l H H := fun _ _ _ _ h => h
theorem Fr.new {d l p : Addr} {H : Hp} {o : HO} (h : H p = none) : Fr d l H (upd H p o) := fun b x _ _ e => same_upd h b x e
theorem Fr.of {d l : Addr} {H H' : Hp} (h : Same H H') : Fr d l H H' := fun b x _ _ e => h b x e
theorem Fr.d {d l : Addr} {H : Hp} {o : HO} : Fr d l H (upd H d o) := fun b x h1 _ e => by rw [upd_ne h1]; exact e
theorem Fr.l {d l : Addr} {H : Hp} {o : HO} : Fr d l H (upd H l o) := fun b x _ h2 e => by rw [upd_ne h2]; exact e
def Deck (H : Hp) (d l : Addr) : Prop := d ≠ l ∧ ∃ (cs : List Int) (z : Int), H d = some (.lst [.ref l, .int z]) ∧ H l = some (.lst (cs.map V.int)) ∧ cs.length ≤ 63 ∧ 0 ≤ z ∧ z < 4294967296
theorem Deck.same {H H' : Hp} {d l : Addr} (D : Deck H d l) (s : Same H H') : Deck H' d l := by
  obtain ⟨ne, cs, z, hd, hl, r⟩ := D
  exact ⟨ne, cs, z, s _ _ hd, s _ _ hl, r⟩
theorem Deck.new {H : Hp} {d l p : Addr} {o : HO} (D : Deck H d l) (h : H p = none) : Deck (upd H p o) d l := D.same (same_upd h)
theorem Deck.ne_new {H : Hp} {d l p : Addr} (D : Deck H d l) (h : H p = none) : p ≠ d ∧ p ≠ l := by
  obtain ⟨ne, cs, z, hd, hl, r⟩ := D
  exact ⟨(ne_of_none hd h).symm, (ne_of_none hl h).symm⟩
theorem p29 : (0 : Int) < 2147483629 := by decide
theorem p47 : (0 : Int) < 2147483647 := by decide
theorem p87 : (0 : Int) < 2147483587 := by decide
theorem sl1 : 1 ≤ sizeLine := by decide
theorem sl2 : 2 ≤ sizeLine := by decide
theorem sl3 : 3 ≤ sizeLine := by decide
theorem sl4 : 4 ≤ sizeLine := by decide
theorem seqIx0 {α : Type} (x : α) (xs : List α) : seqIndex? 0 (x :: xs).length = some 0 := by
  refine (ixN_seq (n := (x :: xs).length) (i := 0) (j := 0) ?_).1
  unfold ixN
  rw [if_pos (by decide), if_pos (by rw [List.length_cons]; omega)]
  rfl
theorem dpInts {K : PySem.W.Frag} {H : Hp} : ∀ cs : List Int, DpAll K H (cs.map V.int) (cs.map PyData.int)
  | [] => .nil
  | c :: r => .cons (.int c) (dpInts r)
theorem shInts (ns : List Int) : SeqAt.shaped (.list (ns.map PyData.int)) = true := by
  unfold SeqAt.shaped
  rw [Bool.and_eq_true]
  refine ⟨?_, ?_⟩
  · simp only [PyData.canLay0, canLayAll_ints]
  · simp only [PyData.depth, depthAll_ints]
    decide
theorem at_pick {xs : List V} {j : Int} (h0 : 0 ≤ j) (h1 : j < xs.length) : ∃ x, atI xs j = some x ∧ x ∈ xs := by
  obtain ⟨k, rfl⟩ : ∃ k : Nat, j = (k : Int) := ⟨j.toNat, (Int.toNat_of_nonneg h0).symm⟩
  have hk : k < xs.length := by omega
  exact ⟨xs[k], atI_nat (List.getElem?_eq_getElem hk), List.getElem_mem hk⟩
theorem units65 {k : Nat} {A : Around} (r : Room k A) : A.units + 65 < cLine := by have := r.un; omega
def rLenK (K : PySem.W.Frag) : List V → Hp → VK → Prop := fun xs H Q => ∃ p ys, xs = [.ref p] ∧ (SqL K H p ys ∨ SqT K H p ys) ∧ Q (.int ys.length) H
def rTupK (K : PySem.W.Frag) : List V → Hp → VK → Prop := fun xs H Q => ∃ p ys, xs = [.ref p] ∧ ((SqL K H p ys ∧ ∀ l, H l = none → Q (.ref l) (upd H l (.tup ys))) ∨ (SqT K H p ys ∧ Q (.ref p) H))
def rLstK (K : PySem.W.Frag) : List V → Hp → VK → Prop := fun xs H Q => ∃ p ys, xs = [.ref p] ∧ (SqL K H p ys ∨ SqT K H p ys) ∧ ∀ l, H l = none → Q (.ref l) (upd H l (.lst ys))
/-- joining ways behind a test, behind an expression -/
def tCutT (t : TT) : TT := fun σ H Q => ∃ Mid : Bool → Hp → Prop, t σ H Mid ∧ ∀ b H1, Mid b H1 → Q b H1
theorem pt_cut {X : Cx} {e : Expr} {t : TT} (h : PT X e t) : PT X e (tCutT t) := ⟨fun pins s σ H Q I hw => by
  obtain ⟨Mid, h1, q⟩ := hw
  exact thn (h.run pins s σ H _ I h1) fun c s1 ⟨H1, I1, m⟩ => ⟨H1, I1, q _ _ m⟩⟩
def tCutE (t : TE) : TE := fun σ H Q => ∃ Mid : VK, t σ H Mid ∧ ∀ v H1, Mid v H1 → Q v H1
theorem pe_cut {X : Cx} {e : Expr} {t : TE} (h : PE X e t) : PE X e (tCutE t) := ⟨fun pins s σ H Q I hw => by
  obtain ⟨Mid, h1, q⟩ := hw
  exact thn (h.run pins s σ H _ I h1) fun u s1 ⟨v, H1, I1, r, m⟩ => ⟨v, H1, I1, r, q _ _ m⟩⟩

/-! ### defs called where nothing is being shown (so that repr tells what stands there) -/
structure FnG (P : Program) (w : World) (K : PySem.W.Frag) (mg : Str → Option Value) (bs : Heap) (CX : CXT) (k : Nat) (f : Addr) (fd : FuncData) (ps : List Str) (sp : Sp) : Prop where
  many : ∀ vs H Q E, sp vs H Q E → vs.length = ps.length
  go : ∀ A : Around, A.guards = some [] → Room k A → ∀ (fr : List Env) (s : Shared) (H : Hp) (ar : Args) (us : List Value) (vs : List V) (Q : VK) (E : XK), Env0 P w K mg bs A fr s H → BindsTo s fd ar (ps.zip us) → Vals vs us → sp vs H Q E → codeAny (model P w) A (.call (.ref f) ar) (CR CX fr P w H s Q E) s
theorem FnG.of {P : Program} {w : World} {K : PySem.W.Frag} {mg : Str → Option Value} {bs : Heap} {CX : CXT} {k : Nat} {f : Addr} {fd : FuncData} {ps : List Str} {sp : Sp} (F : FnOk P w K mg bs CX k f fd ps sp) : FnG P w K mg bs CX k f fd ps sp :=
  ⟨F.len, fun A _ room fr s H ar us vs Q E e0 b r h => F.run A fr s H ar us vs Q E room e0 b r h⟩
theorem okG {CX : CXT} {P : Program} {w : World} {K : PySem.W.Frag} {mg : Str → Option Value} {bs : Heap} {x qual : Str} {st : Stmt} {f : Addr} {fd : FuncData} {N ps : List Str} {k : Nat} {sp : Sp} (F : Fun K x qual st f fd) (S : FnScope N ps (defScope st))
    (many : ∀ vs H Q E, sp vs H Q E → vs.length = ps.length)
    (body : ∀ (cdv : Value) (A : Around) (fr : List Env) (s : Shared) (H : Hp) (vs : List V) (Q : VK) (E : XK), A.guards = some [] → Room k (A.deeper (envOfC qual (defScope st) s.heap.objs.size f cdv)) → sp vs H Q E →
      ∃ t, PSs (cxOf CX P w K mg bs N qual (defScope st) f cdv A fr s H E) (defBody st) t ∧ t ⟨fun _ H' => Q .non H', Q, fun _ _ => False, fun _ _ => False⟩ (start N vs) H) : FnG P w K mg bs CX (k + 1) f fd ps sp := by
  obtain ⟨oc, od, kV, doc, pm, an, cdv, ct, osl, rfl, lk, code⟩ := F.ex
  refine ⟨many, fun A nothing room fr s H ar us vs Q E e0 bound rel told => ?_⟩
  have stays : ∀ b o, bs.get? b = some o → s.heap.get? b = some o := fun b o z => (e0.bs b o z).1
  have inK : K.In s.heap := e0.mod.kin.keeps stays
  have places : ∀ y ∈ ps.zip us, (defScope st).names.lookup y.1 = some .local ∨ ((defScope st).names.lookup y.1 = some .cell ∧ ((cellsFrom (s.heap.objs.size + 1) (defScope st).names []).lookup y.1).isSome = true) := by
    rintro ⟨n, v⟩ hy
    exact (S.par n (List.of_mem_zip hy).1).imp id fun c => ⟨c, PySem.W.cellsFrom_some _ _ _ (Or.inl c)⟩
  refine codeAny_call_function room.depth (inK _ _ lk) rfl S.co S.gen rfl (PySem.W.codeRec_of inK code) (bound _ _ _ _
    (wpAny_newFunctionEnv_cells S.kind places fun env he s1 made => ?_))
  subst he
  obtain ⟨t, runs, holds⟩ := body cdv A fr s H vs Q E nothing (room.deeper _) told
  refine ⟨(e0.mod.nolimit.keeps stays).keeps made.toInCall.keep, codeAny_func (wpAny_mono (runs.run [] s1 (start N vs) H _ (inv_start S room.hd e0 (many _ _ _ _ told) rel made) holds) (fun fl s2 z => ?_) fun _ _ z => z)⟩
  match fl, z with
  | .ret _, ⟨v, _, H', J, rv, q⟩ => exact ⟨v, H', J.os, J.bare, J.base, J.hok, rv, q⟩
  | .next, ⟨_, H', J, q⟩ => exact ⟨V.non, H', J.os, J.bare, J.base, J.hok, rfl, q⟩
  | .brk, ⟨_, _, _, q⟩ => exact q.elim
  | .cont, ⟨_, _, _, q⟩ => exact q.elim
theorem okG0 {P : Program} {w : World} {K : PySem.W.Frag} {mg : Str → Option Value} {bs : Heap} {x qual : Str} {st : Stmt} {f : Addr} {fd : FuncData} {N ps : List Str} {k : Nat} {sp : Sp} (F : Fun K x qual st f fd) (S : FnScope N ps (defScope st))
    (many : ∀ vs H Q E, sp vs H Q E → vs.length = ps.length)
    (body : ∀ (cdv : Value) (A : Around) (fr : List Env) (s : Shared) (H : Hp) (vs : List V) (Q : VK) (E : XK), A.guards = some [] → Room k (A.deeper (envOfC qual (defScope st) s.heap.objs.size f cdv)) → sp vs H Q E →
      ∃ t, PSs (cxOf CX0 P w K mg bs N qual (defScope st) f cdv A fr s H E).nox (defBody st) t ∧ t ⟨fun _ H' => Q .non H', Q, fun _ _ => False, fun _ _ => False⟩ (start N vs) H) : FnG P w K mg bs CX0 (k + 1) f fd ps sp :=
  okG F S many fun cdv A fr s H vs Q E g r h => by
    obtain ⟨t, p, q⟩ := body cdv A fr s H vs Q E g r h
    exact ⟨t, p.nox, q⟩
section
variable {X : Cx} {CX : CXT} {k : Nat} {f : Addr} {fd : FuncData} {ps : List Str} {sp : Sp} {ds : List Value} {dvs : List V} {E : XK}
theorem runG {pins : List (Addr × Obj)} {σ : L2.St} {H : Hp} {s : Shared} {Q : VK} {us : List Value} {vs : List V} (F : FnG X.prog X.w X.K X.mg X.base CX k f fd ps sp) (nothing : X.A.guards = some []) (room : Room k X.A) (hb : Binds X.K fd ps ds)
    (hd : Vals dvs ds) (out : Passes CX X E) (I : Inv X pins σ H s) (r : Vals vs us) (told : sp (vs ++ dvs) H Q E) : wpAny (model X.prog X.w) X.A (call (.ref f) us) (EP X pins σ Q) X.xe s := by
  have rel : Vals (vs ++ dvs) (us ++ ds) := r.append hd
  have size : (us ++ ds).length = ps.length := rel.length ▸ F.many _ _ _ _ told
  refine wpAny_call (codeAny_mono (F.go X.A nothing room X.stack s H _ _ _ Q E I.env0 (hb s us I.kIn size) rel told) fun res s2 z => ?_)
  match res, z with
  | .error e, z => exact out pins σ H s e s2 I z
  | .ok (.ret u), z => exact I.after z
  | .ok .next, z => exact z.elim
  | .ok .brk, z => exact z.elim
  | .ok .cont, z => exact z.elim
theorem pe_callG {x : Str} {p pos : Pos} {e : Expr} {es : List Expr} {t : TA} (F : FnG X.prog X.w X.K X.mg X.base CX k f fd ps sp) (nothing : X.A.guards = some []) (room : Room k X.A) (hg : Gl X x) (hm : X.mg x = some (.ref f)) (kp : PySem.W.keepIn X.K (.ref f) = true)
    (hb : Binds X.K fd ps ds) (hd : Vals dvs ds) (out : Passes CX X E) (ha : PA X (e :: es) t) (nd : (x == ("__debug__" : Str)) = false := by decide) (he : starEach (e :: es) X.env = (false, eval e X.env) :: starEach es X.env := by rfl)
    (hpl : (backTo pos (starEach es X.env)).any (·.1) = false := by rfl) : PE X (.Call (.Name x p) (e :: es) [] pos) (tCall sp dvs E t) := by
  refine ⟨fun pins s σ H Q I told => wpAny_Call_Name_kw (ld_glob I hg hm ?_ nd)⟩
  refine PySem.W.callWith_K (h₀ := X.base) I.ok.mod.kin kp (thn (ha.run pos pins s σ H _ I told) ?_) he hpl
  rintro us s1 ⟨vs, H1, J, r, q⟩
  exact ⟨J.kIn, runG F nothing room hb hd out J r q⟩
end
/-! ### what is shown by repr: plain data, whose lists and dicts were made by the law -/
def kD : Key → PyData
  | .inl i => .int i
  | .inr x => .str x
mutual
inductive Sh (H : Hp) : V → PyData → Prop
  | non : Sh H .non .none
  | bl (b : Bool) : Sh H (.bl b) (.bool b)
  | int (i : Int) : Sh H (.int i) (.int i)
  | str (x : Str) : Sh H (.str x) (.str x)
  | lst {a : Addr} {xs : List V} {ds : List PyData} : H a = some (.lst xs) → a ≠ sysModules → ShAll H xs ds → Sh H (.ref a) (.list ds)
  | tup {a : Addr} {xs : List V} {ds : List PyData} : H a = some (.tup xs) → ShAll H xs ds → Sh H (.ref a) (.tuple ds)
  | dic {a : Addr} {kvs : List (Key × V)} {ds : List PyData} : H a = some (.dK kvs) → ShAll H (kvs.map (·.2)) ds → Sh H (.ref a) (.dict ((kvs.map fun kv => kD kv.1).zip ds))
inductive ShAll (H : Hp) : List V → List PyData → Prop
  | nil : ShAll H [] []
  | cons {v : V} {vs : List V} {d : PyData} {ds : List PyData} : Sh H v d → ShAll H vs ds → ShAll H (v :: vs) (d :: ds)
end
theorem ShAll.length {H : Hp} : ∀ {vs : List V} {ds : List PyData}, ShAll H vs ds → vs.length = ds.length
  | _, _, .nil => rfl
  | _, _, .cons _ t => by rw [List.length_cons, List.length_cons, t.length]
mutual
theorem Sh.same {H H' : Hp} (s : Same H H') : ∀ {v : V} {d : PyData}, Sh H v d → Sh H' v d
  | _, _, .non => .non
  | _, _, .bl b => .bl b
  | _, _, .int i => .int i
  | _, _, .str x => .str x
  | _, _, .lst h n t => .lst (s _ _ h) n (t.same s)
  | _, _, .tup h t => .tup (s _ _ h) (t.same s)
  | _, _, .dic h t => .dic (s _ _ h) (t.same s)
theorem ShAll.same {H H' : Hp} (s : Same H H') : ∀ {vs : List V} {ds : List PyData}, ShAll H vs ds → ShAll H' vs ds
  | _, _, .nil => .nil
  | _, _, .cons h t => .cons (h.same s) (t.same s)
end
/-- the name of the class of such data -/
def tyD : PyData → String
  | .none => "NoneType"
  | .bool _ => "bool"
  | .int _ => "int"
  | .str _ => "str"
  | .list _ => "list"
  | .tuple _ => "tuple"
  | .dict _ => "dict"
theorem Sh.ty {K : PySem.W.Frag} {H : Hp} {v : V} {d : PyData} (h : Sh H v d) : TyX K H v (.type (tyD d)) := by
  cases h with
  | non => exact .base .non
  | bl b => exact .base (.bl b)
  | int i => exact .base (.int i)
  | str x => exact .base (.str x)
  | lst h _ _ => exact .base (.lst h)
  | tup h _ => exact .base (.tup h)
  | dic h _ => exact .base (.dK h)
section
variable {X : Cx} {pins : List (Addr × Obj)} {σ : L2.St} {H : Hp} {s : Shared}
theorem pairs_keys {P : Program} {w : World} {h : Heap} : ∀ {es : List DictEntry} {kvs : List (Key × Value)}, Pairs (mixKind P w) es kvs → ReadsAll h (es.map (·.key)) (kvs.map fun kv => kD kv.1) []
  | _, _, .nil => .nil
  | _, _, .cons (kv := kv) hk _ t => by
    have r := pairs_keys (h := h) t
    rcases keyIs_shape (k := kv.1) hk with ⟨i, u, e1, e2⟩ | ⟨x, u, e1, e2⟩
    · rw [List.map_cons, List.map_cons, e1, e2]
      exact ReadsAll.cons (as := []) (.int i u) r
    · rw [List.map_cons, List.map_cons, e1, e2]
      exact ReadsAll.cons (as := []) (.str x u) r
theorem pairs_vals {P : Program} {w : World} : ∀ {es : List DictEntry} {kvs : List (Key × Value)}, Pairs (mixKind P w) es kvs → es.map (·.val) = kvs.map (·.2)
  | _, _, .nil => rfl
  | _, _, .cons _ hv t => by rw [List.map_cons, List.map_cons, hv, pairs_vals t]
theorem kv_rel : ∀ {kvs : List (Key × V)} {vs : List (Key × Value)}, KV kvs vs → kvs.map (·.1) = vs.map (·.1) ∧ Vals (kvs.map (·.2)) (vs.map (·.2))
  | _, _, .nil => ⟨rfl, .nil⟩
  | _, _, .cons h t => by
    obtain ⟨a, b⟩ := kv_rel t
    exact ⟨by rw [List.map_cons, List.map_cons, a, h.1], .cons h.2 b⟩
mutual
theorem Sh.reads (I : Inv X pins σ H s) : ∀ (v : V) (d : PyData) (u : Value), Sh H v d → RelV v u → ∃ as, Reads s.heap u d as ∧ sysModules ∉ as
  | _, _, _, .non, r => by cases r; exact ⟨_, .none, List.not_mem_nil⟩
  | _, _, _, .bl b, r => by cases r; exact ⟨_, .bool b, List.not_mem_nil⟩
  | _, _, _, .int i, r => by obtain ⟨t, rfl⟩ := r; exact ⟨_, .int i t, List.not_mem_nil⟩
  | _, _, _, .str x, r => by obtain ⟨t, rfl⟩ := r; exact ⟨_, .str x t, List.not_mem_nil⟩
  | _, _, _, .lst (a := a) (xs := xs) h n t, r => by
    cases r
    obtain ⟨_, its, c, rv, ho⟩ := (show ObjOk X.prog X.w H s.heap a (.lst xs) from I.hok a _ h)
    obtain ⟨as, q, m⟩ := ShAll.reads I _ _ its t rv
    exact ⟨_, .list ho rfl rfl (by simpa using q), fun z => (List.mem_cons.mp z).elim (fun e => n e.symm) m⟩
  | _, _, _, .tup (a := a) (xs := xs) h t, r => by
    cases r
    obtain ⟨_, its, rv, o, ho, hc, c, hd⟩ := (show ObjOk X.prog X.w H s.heap a (.tup xs) from I.hok a _ h)
    obtain ⟨as, q, m⟩ := ShAll.reads I _ _ its t rv
    exact ⟨_, .tuple ho hc hd (by simpa using q), m⟩
  | _, _, _, .dic (a := a) (kvs := kvs) (ds := ds) h t, r => by
    cases r
    obtain ⟨_, low, vs, rel, o, es, ep, ho, hx, hd, _, hp, _⟩ := (show ObjOk X.prog X.w H s.heap a (.dK kvs) from I.hok a _ h)
    obtain ⟨rk, rv⟩ := kv_rel rel
    obtain ⟨as, q, m⟩ := ShAll.reads I _ _ (vs.map (·.2)) t rv
    have k1 : (kvs.map fun kv => kD kv.1) = vs.map fun kv => kD kv.1 := by
      have := congrArg (List.map kD) rk
      rw [List.map_map, List.map_map] at this
      exact this
    have ln : (kvs.map fun kv => kD kv.1).length = ds.length := by
      have := t.length
      rw [List.length_map] at this
      rw [List.length_map, this]
    refine ⟨_, .dict (as := []) (bs := as) ho hx.1 hd ?_ ?_, ?_⟩
    · rw [List.map_fst_zip (Nat.le_of_eq ln), k1]
      exact pairs_keys hp
    · rw [List.map_snd_zip (Nat.le_of_eq ln.symm), pairs_vals hp]
      exact q
    · intro z
      rcases List.mem_cons.mp z with e | e
      · exact absurd low (by rw [← e]; simp)
      · exact m e
theorem ShAll.reads (I : Inv X pins σ H s) : ∀ (vs : List V) (ds : List PyData) (us : List Value), ShAll H vs ds → Vals vs us → ∃ as, ReadsAll s.heap us ds as ∧ sysModules ∉ as
  | _, _, _, .nil, r => by cases r; exact ⟨_, .nil, List.not_mem_nil⟩
  | _, _, _, .cons h t, r => by
    cases r with
    | cons r1 r2 =>
      obtain ⟨as, q1, m1⟩ := Sh.reads I _ _ _ h r1
      obtain ⟨bs, q2, m2⟩ := ShAll.reads I _ _ _ t r2
      exact ⟨_, .cons q1 q2, fun z => (List.mem_append.mp z).elim m1 m2⟩
end
end
def rRepr : List V → Hp → VK → Prop := fun xs H Q => ∃ x d, xs = [x] ∧ Sh H x d ∧ d.showable = true ∧ d.shown.length ≤ sizeLine ∧ d.depth ≤ 50 ∧ Q (.str d.shown) H
theorem call_repr {X : Cx} (nothing : X.A.guards = some []) (hu : X.A.units + 64 < cLine) : CallR X (.builtin "repr") rRepr := by
  intro pins s σ H xs us Q I r h
  obtain ⟨x, d, rfl, sh, able, fits, deep, q⟩ := h
  cases r with
  | @cons _ u _ _ r1 r2 =>
    cases r2
    obtain ⟨as, rd, low⟩ := Sh.reads I _ _ _ sh r1
    have fin : ∀ h' t tk, (∀ b o, s.heap.get? b = some o → h'.get? b = some o) → EP X pins σ Q (.str d.shown t) { s with heap := h', toks := tk } := fun h' t tk kept => ⟨.str d.shown, H, I.kept kept, ⟨t, rfl⟩, q⟩
    cases sh with
    | non => cases r1; exact PySem.P.repr_of_none (fin _ _ _ fun _ _ z => z)
    | bl b => cases r1; exact PySem.P.repr_of_bool (fin _ _ _ fun _ _ z => z)
    | int i => obtain ⟨t, rfl⟩ := r1; exact PySem.P.repr_of_int (of_decide_eq_true able) (fin _ _ _ fun _ _ z => z)
    | str x => obtain ⟨t, rfl⟩ := r1; exact PySem.P.repr_of_str (fin _ _ _ fun _ _ z => z) fits
    | lst _ _ _ => cases r1; exact repr_of_reads' rd able (fun _ => low) nothing (by omega) (fun _ _ z => z) fin fits
    | tup _ _ => cases r1; exact repr_of_reads' rd able (fun _ => low) nothing (by omega) (fun _ _ z => z) fin fits
    | dic _ _ => cases r1; exact repr_of_reads' rd able (fun _ => low) nothing (by omega) (fun _ _ z => z) fin fits
/-- a display's list is none of the interpreter's own -/
def tLstN (t : TA) : TE := fun σ H Q => t σ H fun xs H1 => xs.length ≤ sizeLine ∧ ∀ p, H1 p = none → p ≠ sysModules → Q (.ref p) (upd H1 p (.lst xs))
theorem pe_lstN {X : Cx} {es : List Expr} {t : TA} {pos : Pos} (h : PA X es t) : PE X (.List es pos) (tLstN t) := by
  refine ⟨fun pins s σ H Q I told => wpAny_List_spliced (thn (h.run pos pins s σ H _ I told) ?_)⟩
  rintro us s1 ⟨xs, H1, J, r, small, q⟩
  have free : H1 s1.heap.objs.size = none := J.hok.fresh (Nat.le_refl _)
  refine ⟨by rw [← r.length]; exact small, .ref s1.heap.objs.size, upd H1 s1.heap.objs.size (.lst xs), J.laid (t' := s1.toks) (fun b u z => Heap.get?_push_of_some _ z) (Nat.le_refl _) ⟨small, us, 0, r, Heap.get?_push_size _ rfl⟩, rfl, q _ free (Nat.ne_of_gt J.big)⟩
/-! ### the end of a law whose defs are called where nothing is being shown -/
theorem law_G {P : Program} {w : World} {K : PySem.W.Frag} {mg mb : Str → Option Value} {CX : CXT} {k : Nat} {fa a : Addr} {fd : FuncData} {x : Str} {sp : Sp} {s : Shared} {vs : List Value} {ns : List Int}
    (inK : K.In s.heap) (gl : s.heap.Ns mainGlobals mg) (bl : s.heap.Ns builtinsNs mb) (boot : ∀ y : Str, y ≠ "__name__" → mb y = bootBuiltins y) (lim : s.heap.NoLimit) (ng : s.gens = #[])
    (at_ : s.heap.get? a = some { cls := .type "list", data := .seq vs.toArray }) (are : IntsAre vs ns) (small : ns.length ≤ sizeLine) (room : Room k callerA)
    (F : ∀ bs : Heap, K.In bs → bs.Ns mainGlobals mg → FnG P w K mg bs CX k fa fd [x] sp) (bound : ∀ (s : Shared) (u : Value), BindsTo s fd ⟨[u], []⟩ [(x, u)])
    (told : ∀ H : Hp, Only H → SqL K H a (ns.map V.int) → sp [.ref a] H (fun v _ => v = .bl true) fun _ _ _ => False)
    (noX : ∀ H e s', CX [] H s (fun _ _ _ => False) e s' → False) :
    codeAny (model P w) callerA (.call (.ref fa) ⟨[.ref a], []⟩) (fun r s' => r = .ok (.ret (.bool true)) ∧ OldK s.heap s'.heap ∧ s'.os = s.os ∧ AllBare s'.gens) s := by
  have main : ∀ H : Hp, Only H → SqL K H a (ns.map V.int) → HOk P w H s.heap → (∀ b, H b ≠ none → b = a) → (H a ≠ none → K.lookup a = none) →
      codeAny (model P w) callerA (.call (.ref fa) ⟨[.ref a], []⟩) (fun r s' => r = .ok (.ret (.bool true)) ∧ OldK s.heap s'.heap ∧ s'.os = s.os ∧ AllBare s'.gens) s := by
    intro H only list ok alone out
    have seen : ∀ {b : Addr} {o : Obj}, s.heap.get? b = some o → H b = none → (hidT s.heap H).get? b = some o := fun z n => hidT_get z n
    have dict : ∀ {b : Addr} {o : Obj} {es : Array DictEntry} {ep : Nat}, s.heap.get? b = some o → o.data = .dict es ep → H b = none := by
      intro b o es ep z dz
      refine Classical.byContradiction fun some_ => ?_
      have eb := alone b some_
      rw [eb, at_] at z
      cases z
      cases (show Data.seq vs.toArray _ = Data.dict es ep from dz)
    have names : ∀ {b : Addr} {m : Str → Option Value}, s.heap.Ns b m → (hidT s.heap H).Ns b m := by
      rintro b m ⟨o, es, ep, z, dz, rest⟩
      exact ⟨o, es, ep, seen z (dict z dz), dz, rest⟩
    have inB : K.In (hidT s.heap H) := by
      intro b o z
      refine seen (inK b o z) (Classical.byContradiction fun some_ => ?_)
      have eb := alone b some_
      subst eb
      rw [out some_] at z
      cases z
    obtain ⟨ml, l1, l2⟩ := lim
    have mod : Mod K mg (hidT s.heap H) := ⟨inB, names gl, ⟨mb, names bl, boot⟩, ⟨ml, names l1, l2⟩⟩
    have env : Env0 P w K mg (hidT s.heap H) callerA [] s H := { frames := rfl, mod := mod, bs := fun b o z => of_hidT z, bsz := Nat.le_of_eq (hidT_size _ _), funs := trivial, frf := (fun b hb => by cases (show b ∈ ([] : List Addr) from hb)), hok := ok, bare := .of_eq ng }
    refine codeAny_mono ((F _ inB (names gl)).go callerA rfl room [] s H _ [.ref a] [.ref a] _ _ env (bound s (.ref a)) (.cons rfl .nil) (told H only list)) fun r s2 z => ?_
    match r, z with
    | .error e, z => exact (noX H e s2 z).elim
    | .ok .next, z => exact z.elim
    | .ok .brk, z => exact z.elim
    | .ok .cont, z => exact z.elim
    | .ok (.ret u), ⟨v, H2, os, bare, un, ok2, rel, q⟩ =>
      cases (show v = V.bl true from q)
      cases (show u = Value.bool true from rel)
      refine ⟨rfl, OldK.of_keep fun b o z => ?_, os, bare⟩
      by_cases hb : H b = none
      · exact un.keep b o z hb (fun m => by cases (show b ∈ ([] : List Addr) from m)) (fun m => by cases m)
      · rcases only b with n | ⟨ob, xs, f⟩
        · exact absurd n hb
        · have o1 := (ok b _ f).1
          have o2 := (ok2 b _ (un.frzs b ob _ f)).1
          rw [z] at o1
          rw [Option.some.inj o1]
          exact o2
  have rel := vals_ints are
  cases hk : K.lookup a with
  | some o =>
    have z := inK a o hk
    rw [at_] at z
    cases z
    exact main (fun _ => none) (fun _ => .inl rfl) (.inr ⟨_, vs.toArray, _, hk, rfl, rfl, rfl, by rw [List.size_toArray, are.length]; exact small, by simpa using rel⟩) (fun b u z => by cases z) (fun b z => absurd rfl z) fun z => absurd rfl z
  | none =>
    have on : ∀ b : Addr, b = a → (if b = a then some (HO.frz { cls := .type "list", data := .seq vs.toArray } (.lst (ns.map V.int))) else none) = some (HO.frz { cls := .type "list", data := .seq vs.toArray } (.lst (ns.map V.int))) := fun b e => if_pos e
    refine main (fun b => if b = a then some (.frz { cls := .type "list", data := .seq vs.toArray } (.lst (ns.map V.int))) else none) (fun b => ?_) (.inl (.inr ⟨_, on a rfl⟩)) (fun b u z => ?_) (fun b z => ?_) fun _ => hk
    · rcases Classical.em (b = a) with e | e
      · exact .inr ⟨_, _, on b e⟩
      · exact .inl (if_neg e)
    · rcases Classical.em (b = a) with e | e
      · have := (on b e).symm.trans z
        cases this
        subst e
        exact ⟨at_, by rw [List.length_map]; exact small, vs, _, rel, at_⟩
      · have := (if_neg e).symm.trans z
        cases this
    · exact Classical.byContradiction fun e => z (if_neg e)
theorem walk_G {l : PySem.W.OpenLaw} {n k : Nat} {q : Program} {loose : List Str} {XP : (Str → Option Value) → Heap → Prop} {YP : World → Heap → Prop} {d : DefRec} {K : Params → PySem.W.Frag} {CX : World → CXT} {sp : World → Sp} {x : Str}
    (most : l.most = some n) (small : n ≤ sizeLine) (nodef : d.params.defaults = []) (room : Room k callerA) (inK : ∀ (w : World) (h : Heap), YP w h → (K w.params).In h)
    (F : ∀ (w : World) (mg : Str → Option Value) (fa : Addr) (h : Heap), (K w.params).In h → h.Ns mainGlobals mg → mg d.name = some (.ref fa) →
      ∃ fd : FuncData, (∀ (s : Shared) (u : Value), BindsTo s fd ⟨[u], []⟩ [(x, u)]) ∧ ∀ bs : Heap, (K w.params).In bs → bs.Ns mainGlobals mg → FnG l.prog w (K w.params) mg bs (CX w) k fa fd [x] (sp w))
    (told : ∀ (w : World) (H : Hp) (a : Addr) (ns : List Int), ns.length ≤ n → Only H → SqL (K w.params) H a (ns.map V.int) → sp w [.ref a] H (fun v _ => v = .bl true) fun _ _ _ => False)
    (noX : ∀ (w : World) (H : Hp) (s : Shared) (e : Value) (s' : Shared), CX w [] H s (fun _ _ _ => False) e s' → False) :
    PySem.W.WalkO q loose XP YP l.row.toRowW d [] (fun f vs => PySem.call f vs) := by
  refine Att.attach_call most nodef fun w s₀ s₁ mg mb fa o pm cd doc a vs ns G Y ho hd hcd hmg hobj hints hlen hg => ?_
  obtain ⟨fd, bound, FG⟩ := F w mg fa _ (inK w _ Y) G.T.g hmg
  exact law_G (inK w _ Y) G.T.g G.T.b G.T.builtins G.T.nolimit hg hobj hints (Nat.le_trans hlen small) room FG bound (fun H only list => told w H a ns hlen only list) fun H e s2 => noX w H s₁ e s2

/-! ### the end of a law whose defs are called where nothing is being shown, with tables of code objects -/
def LawAtG (l : PySem.W.OpenLaw) (w : World) (K : PySem.W.Frag) (CX : CXT) (k n : Nat) (x : Str) (mg : Str → Option Value) (f : Addr) (top : Heap) : Prop :=
  ∃ (fd : FuncData) (ts : List (Addr × Addr)) (sp : Sp), (∀ t ∈ ts, top.get? t.2 = some { cls := .none, data := .fields #[] }) ∧ (∀ t ∈ ts, K.lookup t.2 = none) ∧ (∀ t ∈ ts, PySem.W.CodeHd top t.1 t.2) ∧ (∀ (st : Shared) (v : Value), BindsTo st fd ⟨[v], []⟩ [(x, v)]) ∧
    (∀ (H : Hp) (p : Addr) (zs : List Int), zs.length ≤ n → (∀ z ∈ zs, Builtin.Int.intBits z ≤ 1048576) → (∀ t ∈ ts, H t.2 = some (.tbl #[])) → SqL K H p (zs.map V.int) → sp [.ref p] H (fun v _ => v = .bl true) fun _ _ _ => False) ∧
    ∀ under : Heap, K.In under → under.Ns mainGlobals mg → (∀ t ∈ ts, LamX.TabB under mg t.1 t.2) → FnG l.prog w K mg under CX k f fd [x] sp
theorem law_GT {P : Program} {w : World} {K : PySem.W.Frag} {mg mb : Str → Option Value} {CX : CXT} {k : Nat} {f p : Addr} {ts : List (Addr × Addr)} {fd : FuncData} {x : Str} {sp : Sp} {s : Shared} {us : List Value} {zs : List Int}
    (inK : K.In s.heap) (gl : s.heap.Ns mainGlobals mg) (bl : s.heap.Ns builtinsNs mb) (boot : ∀ y : Str, y ≠ "__name__" → mb y = bootBuiltins y) (lim : s.heap.NoLimit) (ng : s.gens = #[])
    (bare : ∀ t ∈ ts, s.heap.get? t.2 = some { cls := .none, data := .fields #[] }) (out : ∀ t ∈ ts, K.lookup t.2 = none) (code : ∀ t ∈ ts, PySem.W.CodeHd s.heap t.1 t.2)
    (bmod : ∃ (m : Addr) (o : Obj), mg "__builtins__" = some (.ref m) ∧ m ≠ builtinsNs ∧ s.heap.get? m = some o ∧ o.cls = .type "module" ∧ o.dict = some builtinsNs ∧ o.data = .plain)
    (script : s.heap.get? p = some { cls := .type "list", data := .seq us.toArray }) (are : IntsAre us zs) (small : zs.length ≤ sizeLine) (room : Room k callerA)
    (F : ∀ under : Heap, K.In under → under.Ns mainGlobals mg → (∀ t ∈ ts, LamX.TabB under mg t.1 t.2) → FnG P w K mg under CX k f fd [x] sp) (bound : ∀ (st : Shared) (v : Value), BindsTo st fd ⟨[v], []⟩ [(x, v)])
    (told : ∀ H : Hp, (∀ t ∈ ts, H t.2 = some (.tbl #[])) → SqL K H p (zs.map V.int) → sp [.ref p] H (fun v _ => v = .bl true) fun _ _ _ => False)
    (noX : ∀ H e st, CX [] H s (fun _ _ _ => False) e st → False) :
    codeAny (model P w) callerA (.call (.ref f) ⟨[.ref p], []⟩) (fun r st => r = .ok (.ret (.bool true)) ∧ OldK s.heap st.heap ∧ st.os = s.os ∧ AllBare st.gens) s := by
  have tabAt : ∀ c ∈ ts.map Prod.snd, s.heap.get? c = some { cls := .none, data := .fields #[] } := by
    intro c hc
    obtain ⟨t, ht, rfl⟩ := List.mem_map.mp hc
    exact bare t ht
  have inTs : ∀ {t : Addr × Addr}, t ∈ ts → t.2 ∈ ts.map Prod.snd := fun ht => List.mem_map_of_mem ht
  have pNo : ¬ p ∈ ts.map Prod.snd := by
    intro hp
    have both := (tabAt p hp).symm.trans script
    have kinds := congrArg (fun o : Option Obj => o.map Obj.cls) both
    simp at kinds
  have main : ∀ H : Hp, (∀ t ∈ ts, H t.2 = some (.tbl #[])) → (∀ c, H c = none ∨ c ∈ ts.map Prod.snd ∨ ∃ o ys, H c = some (.frz o (.lst ys))) → SqL K H p (zs.map V.int) → HOk P w H s.heap → (∀ c, H c ≠ none → c = p ∨ c ∈ ts.map Prod.snd) → (H p ≠ none → K.lookup p = none) →
      codeAny (model P w) callerA (.call (.ref f) ⟨[.ref p], []⟩) (fun r st => r = .ok (.ret (.bool true)) ∧ OldK s.heap st.heap ∧ st.os = s.os ∧ AllBare st.gens) s := by
    intro H tabs kinds list ok alone off
    have free : ∀ {c : Addr} {o : Obj}, s.heap.get? c = some o → (∀ ys m, ¬ o.data = .seq ys m) → ¬ o.data = .fields #[] → H c = none := by
      intro c o ho n1 n2
      refine Classical.byContradiction fun some_ => ?_
      rcases alone c some_ with rfl | hc
      · cases Option.some.inj (ho.symm.trans script)
        exact n1 _ _ rfl
      · cases Option.some.inj (ho.symm.trans (tabAt c hc))
        exact n2 rfl
    have names : ∀ {c : Addr} {m : Str → Option Value}, s.heap.Ns c m → (hidT s.heap H).Ns c m := by
      rintro c m ⟨o, es, ep, ho, dz, more⟩
      refine ⟨o, es, ep, hidT_get ho (free ho (fun ys j z => ?_) fun z => ?_), dz, more⟩ <;> exact Data.noConfusion (dz.symm.trans z)
    have inB : K.In (hidT s.heap H) := by
      intro c o ho
      refine hidT_get (inK c o ho) (Classical.byContradiction fun some_ => ?_)
      rcases alone c some_ with rfl | hc
      · exact absurd (ho.symm.trans (off some_)) (by simp)
      · obtain ⟨t, ht, rfl⟩ := List.mem_map.mp hc
        exact absurd (ho.symm.trans (out t ht)) (by simp)
    obtain ⟨ml, l1, l2⟩ := lim
    have mod : L2.Mod K mg (hidT s.heap H) := ⟨inB, names gl, ⟨mb, names bl, boot⟩, ⟨ml, names l1, l2⟩⟩
    have tables : ∀ t ∈ ts, LamX.TabB (hidT s.heap H) mg t.1 t.2 := by
      intro t ht
      constructor
      · obtain ⟨o, ys, file, tf, flags, tg, inF, text, tt, c1, c2, c3, c4, c5, c6, c7, c8, c9, c10⟩ := code t ht
        refine ⟨o, ys, file, tf, flags, tg, inF, text, tt, hidT_get c1 (free c1 (fun us j z => Data.noConfusion (c3.symm.trans z)) fun z => ?_), c2, c3, c4, c5, c6, c7, c8, c9, c10⟩
        have z2 := c3.symm.trans z
        cases z2
        simp at c4
      · obtain ⟨m, o, b1, b2, b3, b4, b5, b6⟩ := bmod
        refine ⟨m, o, b1, b2, fun z => ?_, fun z => ?_, hidT_get b3 (free b3 (fun us j z => Data.noConfusion (b6.symm.trans z)) fun z => Data.noConfusion (b6.symm.trans z)), b4, b5, b6⟩
        · obtain ⟨o', es, ep, ho, dz, _⟩ := gl
          subst z
          cases Option.some.inj (b3.symm.trans ho)
          exact Data.noConfusion (b6.symm.trans dz)
        · subst z
          cases Option.some.inj (b3.symm.trans (bare t ht))
          exact Data.noConfusion b6
      · intro z
        obtain ⟨o', es, ep, ho, dz, _⟩ := gl
        rw [z] at ho
        cases Option.some.inj (ho.symm.trans (bare t ht))
        exact Data.noConfusion dz
    have env : Env0 P w K mg (hidT s.heap H) callerA [] s H := { frames := rfl, mod := mod, bs := fun c o z => of_hidT z, bsz := Nat.le_of_eq (hidT_size _ _), funs := trivial, frf := (fun c hc => by cases (show c ∈ ([] : List Addr) from hc)), hok := ok, bare := .of_eq ng }
    refine codeAny_mono ((F _ inB (names gl) tables).go callerA rfl room [] s H _ [.ref p] [.ref p] _ _ env (bound s (.ref p)) (.cons rfl .nil) (told H tabs list)) fun r st z => ?_
    match r, z with
    | .error e, z => exact (noX H e st z).elim
    | .ok .next, z => exact z.elim
    | .ok .brk, z => exact z.elim
    | .ok .cont, z => exact z.elim
    | .ok (.ret u), ⟨v, H2, os, bg, un, ok2, rel, q⟩ =>
      cases (show v = V.bl true from q)
      cases (show u = Value.bool true from rel)
      have old : ∀ c o, ¬ c ∈ ts.map Prod.snd → s.heap.get? c = some o → st.heap.get? c = some o := by
        intro c o nc ho
        by_cases hc : H c = none
        · exact un.keep c o ho hc (fun m => by cases (show c ∈ ([] : List Addr) from m)) (fun m => by cases m)
        · rcases kinds c with n | n | ⟨ob, ys, fz⟩
          · exact absurd n hc
          · exact absurd n nc
          · have o1 := (ok c _ fz).1
            have o2 := (ok2 c _ (un.frzs c ob _ fz)).1
            rw [ho] at o1
            rw [Option.some.inj o1]
            exact o2
      have grown : ∀ c ∈ ts.map Prod.snd, ∃ more : Array Value, st.heap.get? c = some { cls := .none, data := .fields more } := by
        intro c hc
        obtain ⟨t, ht, rfl⟩ := List.mem_map.mp hc
        obtain ⟨more, hm⟩ := un.tbls t.2 #[] (tabs t ht)
        exact ⟨_, ok2 t.2 _ hm⟩
      refine ⟨rfl, ⟨fun c o ho => ?_, fun c o ho => ?_⟩, os, bg⟩
      · by_cases hc : c ∈ ts.map Prod.snd
        · obtain ⟨more, hm⟩ := grown c hc
          obtain ⟨t, ht, rfl⟩ := List.mem_map.mp hc
          cases Option.some.inj (ho.symm.trans (bare t ht))
          exact .inr (.inl ⟨((code t ht).tab (bare t ht)).isCodeTable, rfl, #[], more, rfl, by rw [Array.empty_append]; exact hm⟩)
        · exact .inl (old c o hc ho)
      · by_cases hc : c ∈ ts.map Prod.snd
        · obtain ⟨more, hm⟩ := grown c hc
          exact ⟨_, hm⟩
        · exact ⟨o, old c o hc ho⟩
  have rel := vals_ints are
  let base : Hp := fun c => if c ∈ ts.map Prod.snd then some (.tbl #[]) else none
  have onT : ∀ {c : Addr}, c ∈ ts.map Prod.snd → base c = some (.tbl #[]) := fun hc => if_pos hc
  have offT : ∀ {c : Addr}, ¬ c ∈ ts.map Prod.snd → base c = none := fun hc => if_neg hc
  cases hk : K.lookup p with
  | some o =>
    cases Option.some.inj ((inK p o hk).symm.trans script)
    refine main base (fun t ht => onT (inTs ht)) (fun c => ?_) (.inr ⟨_, us.toArray, _, hk, rfl, rfl, rfl, by rw [List.size_toArray, are.length]; exact small, by simpa using rel⟩) (fun c u z => ?_) (fun c z => ?_) fun z => absurd (offT pNo) z
    · rcases Classical.em (c ∈ ts.map Prod.snd) with hc | hc
      · exact .inr (.inl hc)
      · exact .inl (offT hc)
    · rcases Classical.em (c ∈ ts.map Prod.snd) with hc | hc
      · cases Option.some.inj ((onT hc).symm.trans z)
        exact tabAt c hc
      · exact absurd ((offT hc).symm.trans z) (by simp)
    · exact .inr (Classical.byContradiction fun hc => z (offT hc))
  | none =>
    let frz : HO := .frz { cls := .type "list", data := .seq us.toArray } (.lst (zs.map V.int))
    have onP : (fun c => if c = p then some frz else base c) p = some frz := if_pos rfl
    have offP : ∀ {c : Addr}, ¬ c = p → (fun c => if c = p then some frz else base c) c = base c := fun hc => if_neg hc
    refine main (fun c => if c = p then some frz else base c) (fun t ht => ?_) (fun c => ?_) (.inl (.inr ⟨_, onP⟩)) (fun c u z => ?_) (fun c z => ?_) fun _ => hk
    · refine (offP fun e => pNo ?_).trans (onT (inTs ht))
      rw [← e]
      exact inTs ht
    · rcases Classical.em (c = p) with rfl | e
      · exact .inr (.inr ⟨_, _, onP⟩)
      · rcases Classical.em (c ∈ ts.map Prod.snd) with hc | hc
        · exact .inr (.inl hc)
        · exact .inl ((offP e).trans (offT hc))
    · rcases Classical.em (c = p) with rfl | e
      · cases Option.some.inj (onP.symm.trans z)
        exact ⟨script, by rw [List.length_map]; exact small, us, _, rel, script⟩
      · have z := (offP e).symm.trans z
        rcases Classical.em (c ∈ ts.map Prod.snd) with hc | hc
        · cases Option.some.inj ((onT hc).symm.trans z)
          exact tabAt c hc
        · exact absurd ((offT hc).symm.trans z) (by simp)
    · rcases Classical.em (c = p) with e | e
      · exact .inl e
      · exact .inr (Classical.byContradiction fun hc => z ((offP e).trans (offT hc)))
theorem walk_GT {l : PySem.W.OpenLaw} {n k : Nat} {q : Program} {loose : List Str} {XP : (Str → Option Value) → Heap → Prop} {YP : World → Heap → Prop} {d : DefRec} {CX : World → CXT} {x : Str}
    (most : l.most = some n) (small : n ≤ sizeLine) (nodef : d.params.defaults = []) (room : Room k callerA)
    (F : ∀ (w : World) (mg : Str → Option Value) (f : Addr) (top : Heap), YP w top → top.Ns mainGlobals mg → mg d.name = some (.ref f) → ∃ K : PySem.W.Frag, K.In top ∧ LawAtG l w K (CX w) k n x mg f top)
    (noX : ∀ (w : World) (H : Hp) (s : Shared) (e : Value) (st : Shared), CX w [] H s (fun _ _ _ => False) e st → False) :
    PySem.W.WalkO q loose XP YP l.row.toRowW d [] (fun f vs => PySem.call f vs) := by
  refine Att.attach_callB most nodef fun w s0 s mg mb f o pm cd doc p us zs G Y ho hd hcd named script are few bits ng => ?_
  obtain ⟨K, inK, fd, ts, sp, bare, out, code, bound, told, FG⟩ := F w mg f _ Y G.T.g named
  exact law_GT inK G.T.g G.T.b G.T.builtins G.T.nolimit ng bare out code G.T.bmain script are (Nat.le_trans few small) room FG bound (fun H tabs list => told H p zs few bits tabs list) fun H e st => noX w H s e st

/-! ### data made by the law or the program: numbers, truths, texts, lists and tuples of these -/
mutual
inductive Tk (H : Hp) : V → PyData → Prop
  | bl (b : Bool) : Tk H (.bl b) (.bool b)
  | int (i : Int) : Tk H (.int i) (.int i)
  | str (x : Str) : Tk H (.str x) (.str x)
  | lst {a : Addr} {xs : List V} {ds : List PyData} : H a = some (.lst xs) → TkAll H xs ds → Tk H (.ref a) (.list ds)
  | tup {a : Addr} {xs : List V} {ds : List PyData} : H a = some (.tup xs) → TkAll H xs ds → Tk H (.ref a) (.tuple ds)
inductive TkAll (H : Hp) : List V → List PyData → Prop
  | nil : TkAll H [] []
  | cons {v : V} {vs : List V} {d : PyData} {ds : List PyData} : Tk H v d → TkAll H vs ds → TkAll H (v :: vs) (d :: ds)
end
theorem TkAll.length {H : Hp} : ∀ {vs : List V} {ds : List PyData}, TkAll H vs ds → vs.length = ds.length
  | _, _, .nil => rfl
  | _, _, .cons _ t => by rw [List.length_cons, List.length_cons, t.length]
mutual
theorem Tk.same {H H' : Hp} (s : Same H H') : ∀ {v : V} {d : PyData}, Tk H v d → Tk H' v d
  | _, _, .bl b => .bl b
  | _, _, .int i => .int i
  | _, _, .str x => .str x
  | _, _, .lst h t => .lst (s _ _ h) (t.same s)
  | _, _, .tup h t => .tup (s _ _ h) (t.same s)
theorem TkAll.same {H H' : Hp} (s : Same H H') : ∀ {vs : List V} {ds : List PyData}, TkAll H vs ds → TkAll H' vs ds
  | _, _, .nil => .nil
  | _, _, .cons h t => .cons (h.same s) (t.same s)
end
theorem TkAll.get {H : Hp} : ∀ {xs : List V} {ds : List PyData} {j : Nat} {x : V}, TkAll H xs ds → xs[j]? = some x → ∃ d, ds[j]? = some d ∧ Tk H x d
  | _, _, _, _, .nil, h => by simp at h
  | _, _, 0, _, .cons (d := d) a _, h => by
    cases (Option.some.inj h)
    exact ⟨d, rfl, a⟩
  | _, _, j + 1, _, .cons _ t, h => t.get h
theorem TkAll.append {H : Hp} : ∀ {xs ys : List V} {ds es : List PyData}, TkAll H xs ds → TkAll H ys es → TkAll H (xs ++ ys) (ds ++ es)
  | _, _, _, _, .nil, t => t
  | _, _, _, _, .cons a r, t => .cons a (r.append t)
theorem TkAll.ints {H : Hp} : ∀ ns : List Int, TkAll H (ns.map V.int) (ns.map PyData.int)
  | [] => .nil
  | n :: r => .cons (.int n) (TkAll.ints r)
theorem Tk.int_inv {H : Hp} {v : V} {i : Int} (h : Tk H v (.int i)) : v = .int i := by cases h; rfl
theorem Tk.tup_inv {H : Hp} {v : V} {ds : List PyData} (h : Tk H v (.tuple ds)) : ∃ a xs, v = .ref a ∧ H a = some (.tup xs) ∧ TkAll H xs ds := by
  cases h with
  | tup h t => exact ⟨_, _, rfl, h, t⟩
theorem Tk.lst_inv {H : Hp} {v : V} {ds : List PyData} (h : Tk H v (.list ds)) : ∃ a xs, v = .ref a ∧ H a = some (.lst xs) ∧ TkAll H xs ds := by
  cases h with
  | lst h t => exact ⟨_, _, rfl, h, t⟩
theorem TkAll.int_inv {H : Hp} : ∀ {vs : List V} {ns : List Int}, TkAll H vs (ns.map PyData.int) → vs = ns.map V.int
  | _, [], .nil => rfl
  | _, n :: r, .cons h t => by rw [List.map_cons, h.int_inv, t.int_inv]
/-- heaps without one place -/
def hd1 (p : Addr) (H : Hp) : Hp := fun b => if b = p then none else H b
theorem hd1_le {p : Addr} {H : Hp} : Same (hd1 p H) H := fun b o e => by
  unfold hd1 at e
  by_cases h : b = p
  · rw [if_pos h] at e; cases e
  · rw [if_neg h] at e; exact e
theorem hd1_same {p : Addr} {H H' : Hp} (s : Same H H') : Same (hd1 p H) (hd1 p H') := fun b o e => by
  unfold hd1 at e ⊢
  by_cases h : b = p
  · rw [if_pos h] at e; cases e
  · rw [if_neg h] at e ⊢; exact s _ _ e
theorem hd1_upd {p : Addr} {H : Hp} {o : HO} : Same (hd1 p H) (hd1 p (upd H p o)) := fun b x e => by
  unfold hd1 at e ⊢
  by_cases h : b = p
  · rw [if_pos h] at e; cases e
  · rw [if_neg h] at e ⊢; rw [upd_ne h]; exact e
theorem hd1_at {p b : Addr} {H : Hp} (h : b ≠ p) : hd1 p H b = H b := if_neg h
theorem hd1_of {p : Addr} {H H' : Hp} (s : Same H H') (n : H p = none) : Same H (hd1 p H') := fun b o e => by
  rw [hd1_at (ne_of_none e n)]
  exact s _ _ e
theorem same_of_hd1 {p : Addr} {H H' : Hp} {o : HO} (s : Same H (hd1 p H')) : Same H (upd H' p o) := fun b x e => by
  have z := s b x e
  unfold hd1 at z
  by_cases h : b = p
  · rw [if_pos h] at z; cases z
  · rw [if_neg h] at z; rw [upd_ne h]; exact z

/-! ### tables and gates -/
def tabOf (bs : List Bool) : Str := ⟨(bs.map fun b => if b = true then 49 else 48).toArray⟩
def plc (ws : List Int) : Int := ws.foldl (fun p w => 2 * p + w) 0
def gateM (bs : List Bool) (ws : List Int) : Int := if bs.getD (plc ws).toNat false = true then 1 else 0
theorem plc_snoc (ws : List Int) (w : Int) : plc (ws ++ [w]) = 2 * plc ws + w := by
  unfold plc
  rw [List.foldl_append]
  rfl
theorem plc_take {ws : List Int} {i : Nat} {u : Int} (h : ws[i]? = some u) : plc (ws.take (i + 1)) = 2 * plc (ws.take i) + u := by
  rw [List.take_add_one, h]
  exact plc_snoc _ _
theorem plc_bd : ∀ (n : Nat) (ws : List Int), ws.length = n → (∀ w ∈ ws, w = 0 ∨ w = 1) → 0 ≤ plc ws ∧ plc ws < 2 ^ n := by
  intro n
  induction n with
  | zero =>
    intro ws h _
    cases List.eq_nil_of_length_eq_zero h
    decide
  | succ n ih =>
    intro ws h hw
    have hne : ws ≠ [] := fun z => by rw [z] at h; cases h
    obtain ⟨r, x, rfl⟩ : ∃ r x, ws = r ++ [x] := ⟨ws.dropLast, ws.getLast hne, (List.dropLast_concat_getLast hne).symm⟩
    have hr := ih r (by rw [List.length_append] at h; simpa using h) fun w h' => hw w (List.mem_append_left _ h')
    have hx := hw x (by simp)
    rw [plc_snoc, Int.pow_succ]
    omega
theorem gate01 (bs : List Bool) (ws : List Int) : gateM bs ws = 0 ∨ gateM bs ws = 1 := by
  unfold gateM
  split
  · exact .inr rfl
  · exact .inl rfl
theorem int_sign (b : Bool) : PySem.intText? ⟨#[if b = true then 49 else 48]⟩ = some (if b = true then 1 else 0) := by
  cases b <;> decide +kernel
def spGate (K : PySem.W.Frag) : Sp := fun vs H Q _ => ∃ (bs : List Bool) (la : Addr) (ws : List Int), vs = [.str (tabOf bs), .ref la] ∧ SqL K H la (ws.map V.int) ∧ (∀ w ∈ ws, w = 0 ∨ w = 1) ∧ bs.length = 2 ^ ws.length ∧ ws.length ≤ 3 ∧ Q (.int (gateM bs ws)) H
theorem gate_read {bs : List Bool} {ws : List Int} (hw : ∀ w ∈ ws, w = 0 ∨ w = 1) (hb : bs.length = 2 ^ ws.length) (h3 : ws.length ≤ 3) : ∃ b : Bool, 0 ≤ plc ws ∧ plc ws < 2 ^ 63 ∧ plc ws < (tabOf bs).length ∧ (tabOf bs).cps[(plc ws).toNat]? = some (if b = true then 49 else 48) ∧ gateM bs ws = if b = true then 1 else 0 := by
  obtain ⟨p0, p1⟩ := plc_bd _ ws rfl hw
  have p8 : plc ws < 8 := by
    have : (2 : Int) ^ ws.length ≤ 8 := by
      have : ws.length = 0 ∨ ws.length = 1 ∨ ws.length = 2 ∨ ws.length = 3 := by omega
      rcases this with h | h | h | h <;> rw [h] <;> decide
    omega
  have hlt : (plc ws).toNat < bs.length := by
    have : ((2 ^ ws.length : Nat) : Int) = (2 : Int) ^ ws.length := by simp
    omega
  refine ⟨bs[(plc ws).toNat], p0, by omega, ?_, ?_, ?_⟩
  · have : (tabOf bs).length = bs.length := by simp [tabOf, Str.length]
    rw [this]
    omega
  · simp [tabOf, List.getElem?_eq_getElem hlt]
  · unfold gateM
    rw [List.getD_eq_getElem?_getD, List.getElem?_eq_getElem hlt]
    rfl

/-! ### walks -/
theorem gx_tup {α : Type} {K : PySem.W.Frag} {a : Addr} {xs : List V} {g : TG} {tt : TT} {te : TE} {vs : List Nat} {σ0 : L2.St} {End : α → Hp → Prop} {Yd : α → V → Hp → (α → Hp → Prop) → Prop} {a0 : α} {H0 : Hp} (Pv : Nat → α → Hp → Prop) (h0 : Pv 0 a0 H0)
    (hl : ∀ i c H, i ≤ xs.length → Pv i c H → SqT K H a xs)
    (hs : ∀ i x c H, xs[i]? = some x → Pv i c H → g x σ0 H fun σ2 H2 => wipe σ2 vs = σ0 ∧ tt σ2 H2 fun b H3 => if b = true then te σ2 H3 fun y H4 => Yd c y H4 (Pv (i + 1)) else Pv (i + 1) c H3) (hd : ∀ c H, Pv xs.length c H → End c H) :
    ∃ W : Nat → Nat → α → Hp → Prop, (∃ m, W 0 m a0 H0) ∧ tGx (Itt K a) g tt te σ0 vs End Yd W := by
  refine ⟨fun i m c H => m = xs.length - i ∧ i ≤ xs.length ∧ Pv i c H, ⟨xs.length, rfl, Nat.zero_le _, h0⟩, ?_⟩
  rintro i m c H ⟨rfl, hi, p⟩
  by_cases hlt : i < xs.length
  · have hx : xs[i]? = some xs[i] := List.getElem?_eq_getElem hlt
    refine .inr ⟨⟨xs, xs[i], hl i c H hi p, hx⟩, Pv (i + 1), fun c' H' p' => ⟨xs.length - (i + 1), by omega, rfl, hlt, p'⟩, fun x H' y => ?_⟩
    obtain ⟨rfl, y⟩ := y
    exact hs i x c _ (y xs (hl i c _ hi p)) p
  · have e : i = xs.length := by omega
    subst e
    exact .inl ⟨⟨xs, hl _ c H hi p, Nat.le_refl _⟩, hd c H p⟩
theorem lc_zipT {K : PySem.W.Frag} {a b : Addr} {xs ys : List V} {g : TG} {tt : TT} {te : TE} {vs : List Nat} {σ : L2.St} {H1 : Hp} {D : Addr} {Qd : Hp → Prop} (el : xs.length = ys.length) (Pv : Nat → Hp → Prop) (h0 : Pv 0 (upd H1 D (.lst []))) (hl : ∀ i H, i ≤ xs.length → Pv i H → SqT K H a xs ∧ SqT K H b ys)
    (hs : ∀ i x y T H, xs[i]? = some x → ys[i]? = some y → H T = none → Pv i H → g (.ref T) (wipe σ vs) (upd H T (.tup [x, y])) fun σ2 H2 => wipe σ2 vs = wipe σ vs ∧ tt σ2 H2 fun b H3 =>
      if b = true then te σ2 H3 fun y H4 => ∃ acc, H4 D = some (.lst acc) ∧ acc.length < sizeLine ∧ Pv (i + 1) (upd H4 D (.lst (acc ++ [y]))) else Pv (i + 1) H3) (hd : ∀ H, Pv xs.length H → Qd H) :
    ∃ W : Nat → Nat → Hp → Prop, (∃ m, W 0 m (upd H1 D (.lst []))) ∧ ∀ i m H, W i m H →
      ((RZ.ItzT K a b).stop i H ∧ Qd H) ∨ ((RZ.ItzT K a b).go i H ∧ ∃ Nx : Hp → Prop, (∀ H', Nx H' → ∃ m', m' < m ∧ W (i + 1) m' H') ∧ ∀ x H', (RZ.ItzT K a b).yld i H x H' → g x (wipe σ vs) H' fun σ2 H2 => wipe σ2 vs = wipe σ vs ∧ tt σ2 H2 fun b H3 =>
        if b = true then te σ2 H3 fun y H4 => ∃ acc, H4 D = some (.lst acc) ∧ acc.length < sizeLine ∧ Nx (upd H4 D (.lst (acc ++ [y]))) else Nx H3) := by
  refine ⟨fun i m H => m = xs.length - i ∧ i ≤ xs.length ∧ Pv i H, ⟨xs.length, by simp, Nat.zero_le _, h0⟩, ?_⟩
  rintro i m H ⟨rfl, hi, p⟩
  obtain ⟨qx, qy⟩ := hl i H hi p
  by_cases hlt : i < xs.length
  · have hx : xs[i]? = some xs[i] := List.getElem?_eq_getElem hlt
    have hy : ys[i]? = some (ys[i]'(by omega)) := List.getElem?_eq_getElem _
    refine .inr ⟨⟨xs, ys, _, _, qx, qy, hx, hy⟩, Pv (i + 1), fun H' p' => ⟨xs.length - (i + 1), by omega, rfl, hlt, p'⟩, fun x H' y => ?_⟩
    obtain ⟨T, x1, y1, rfl, nT, rfl, e1, e2⟩ := y
    exact hs i x1 y1 T H (e1 xs qx) (e2 ys qy) nT p
  · have e : i = xs.length := by omega
    subst e
    exact .inl ⟨⟨xs, ys, qx, qy, .inl (Nat.le_refl _)⟩, hd H p⟩

/-! ### enumerate(tuple) -/
theorem draws_tuple {P : Program} {w : World} {A : Around} (hA : A.handled = none) (it a : Addr) (items : Array Value) (hne : a ≠ it) : Draws P w A it [it, a] items.size (fun i v => items[i]? = some v) (fun i h => h.IsTupleIter it a i ∧ h.IsTuple a items) where
  live := fun _ _ st => let ⟨o, ho, _⟩ := st.1; ⟨o, ho⟩
  frame := fun _ _ _ st hk => ⟨st.1.at fun o e => hk it (by simp) o e, by
    obtain ⟨o, ho, r⟩ := st.2
    exact ⟨o, hk a (by simp) o ho, r⟩⟩
  item := fun i s Q E hi st hQ => by
    refine RZ.nextOf_tuple_item st.1 st.2 (x := items[i]) (by simp [hi]) fun h' hit' hs' => ?_
    refine hQ _ h' s.toks (by simp [hi]) ⟨hit', ?_⟩ hs'
    obtain ⟨o, ho, r⟩ := st.2
    exact ⟨o, hs'.extBut a o hne ho, r⟩
  done := fun s Q E st hE => RZ.nextOf_tuple_end hA st.1 st.2 (by simp) hE
open PySem.AutoSeq1 in
set_option maxHeartbeats 1000000 in
theorem meets_enumerate_newT (l : Addr) (items : Array Value) (o : Obj) (hc : o.cls = .type "tuple") (n : Nat) (hd : o.data = .seq items n) :
    Meets (Builtin.«enumerate.__new__» ⟨[.type "enumerate", .ref l], []⟩) (fun _ R s => s.heap.get? l = some o ∧
      R (.ok (.ret (.ref (s.heap.push { cls := .type "tuple_iterator", data := .fields #[.ref l, .int 0 0] }).objs.size)))
        { s with heap := (s.heap.push { cls := .type "tuple_iterator", data := .fields #[.ref l, .int 0 0] }).push { cls := .type "enumerate", data := .fields #[.none, .bool false, .ref s.heap.objs.size, rawInt 0, .none, .none] } }) :=
  .of_wp fun prog w A R s h => by
    obtain ⟨hp, g, d, tk, os⟩ := s; obtain ⟨hl, h⟩ := h
    have hsub := sub_enumerate
    have hL : Heap.IsTuple (Shared.heap ⟨hp, g, d, tk, os⟩) l items := ⟨_, hl, hc, n, hd⟩
    wp_walk using wpAny_loadPart' hl
    refine wpAny_stack_any fun st => wpAny_pure ?_
    split
    · rename_i c _ _ _ _ _
      cases (c == Value.type "enumerate")
      · wp_walk using wpAny_loadPart' hl, wpAny_pyIter_tuple hL
        exact ⟨_, rfl, h⟩
      · wp_walk using wpAny_loadPart' hl, wpAny_pyIter_tuple hL
        exact ⟨_, rfl, h⟩
    · wp_walk using wpAny_loadPart' hl, wpAny_pyIter_tuple hL
      exact ⟨_, rfl, h⟩
theorem call_enumerate_tuple {prog : Program} {w : World} {A : Around} {E : Value → Shared → Prop} {s : Shared} {l : Addr} {items : Array Value} {Q : Value → Shared → Prop} (hL : s.heap.IsTuple l items)
    (h : ∀ h', IsEnum h' (s.heap.objs.size + 1) s.heap.objs.size 0 .none → h'.IsTupleIter s.heap.objs.size l 0 → h'.objs.size = s.heap.objs.size + 2 →
      (∀ b o, s.heap.get? b = some o → h'.get? b = some o) → Q (.ref (s.heap.objs.size + 1)) { s with heap := h' }) :
    wpAny (model prog w) A (call (.type "enumerate") [.ref l]) Q E s := by
  obtain ⟨o, hl, hc, n, hd⟩ := hL
  refine callType_new F.called_enumerate (by decide) (F.typeCall_enumerate_1 _) (F.newCall_enumerate_1 _) (fun obj => F.args_object_init_2 obj _) F.entry_enumerate_new
    (meets_enumerate_newT l items o hc n hd) ⟨hl, ?_⟩
  have hz : (s.heap.push { cls := .type "tuple_iterator", data := .fields #[.ref l, .int 0 0] }).objs.size = s.heap.objs.size + 1 := Heap.size_push ..
  show _ ∧ _
  rw [hz]
  have he : IsEnum ((s.heap.push { cls := .type "tuple_iterator", data := .fields #[.ref l, .int 0 0] }).push
      { cls := .type "enumerate", data := .fields #[.none, .bool false, .ref s.heap.objs.size, rawInt 0, .none, .none] }) (s.heap.objs.size + 1) s.heap.objs.size 0 .none := by
    have := Heap.get?_push_size (s.heap.push { cls := .type "tuple_iterator", data := .fields #[.ref l, .int 0 0] })
      (o := { cls := .type "enumerate", data := .fields #[.none, .bool false, .ref s.heap.objs.size, rawInt 0, .none, .none] }) rfl
    rw [hz] at this; exact this
  refine ⟨⟨_, he, rfl⟩, h _ he ⟨_, Heap.get?_push_of_some _ (Heap.get?_push_size _ rfl), rfl, rfl⟩ (by rw [Heap.size_push, hz]) fun b o x => Heap.get?_push_of_some _ (Heap.get?_push_of_some _ x)⟩
/-- the tuple at a, each item in a new pair -/
def IteT (K : PySem.W.Frag) (a : Addr) : It :=
  ⟨fun i H => ∃ (xs : List V) (x : V), SqT K H a xs ∧ xs[i]? = some x, fun i H v H' => ∃ T x, v = .ref T ∧ H T = none ∧ H' = upd H T (.tup [.int (i : Nat), x]) ∧ ∀ xs, SqT K H a xs → xs[i]? = some x, fun i H => ∃ xs : List V, SqT K H a xs ∧ xs.length = i⟩
theorem turn_enumT {P : Program} {w : World} {K : PySem.W.Frag} {elts : List Expr} {kk : Nat} {tpos : Pos} (a e it : Addr) :
    Turn P w K (.Tuple elts kk tpos) (IteT K a) [e, it] e (fun i h => (∃ old, IsEnum h e it ((i : Nat) : Int) old) ∧ h.IsTupleIter it a i ∧ e ≠ it) where
  mem := by simp
  obj := fun i h st b hb => by
    obtain ⟨⟨old, he⟩, ⟨o, ho, hc, hd⟩, _⟩ := st
    have e' : b = e ∨ b = it := by simpa using hb
    rcases e' with z | z
    · rw [z]; exact ⟨_, he, fun v q => nomatch q⟩
    · rw [z]; exact ⟨o, ho, fun v q => by rw [hd] at q; cases q⟩
  keep := fun i h h' st k => let ⟨⟨old, he⟩, hi, hne⟩ := st; ⟨⟨old, k e (by simp) _ he⟩, hi.at fun o q => k it (by simp) o q, hne⟩
  item := by
    intro X hP hw hK hc i pins s σ H E I hf st hg
    subst hP hw hK
    obtain ⟨⟨old, he⟩, hit, hne⟩ := st
    obtain ⟨xs, x, hq, hx⟩ := hg
    obtain ⟨its, rv, p, hz⟩ := I.tuple hq
    obtain ⟨u, hu, ru⟩ := rv.get hx
    have hel : e < s.heap.objs.size := Heap.lt_size he
    have hil : it < s.heap.objs.size := by obtain ⟨_, q, _⟩ := hit; exact Heap.lt_size q
    have hpt : s.heap.IsTuple a its.toArray := p
    have hai : a ≠ it := fun z => by
      obtain ⟨o1, h1, c1, _⟩ := hpt
      obtain ⟨o2, h2, c2, _⟩ := hit
      rw [z, h2] at h1
      cases h1
      rw [c2] at c1
      exact absurd (Value.type.inj c1) (by decide)
    have hae : e ≠ a := fun z => by
      obtain ⟨o1, h1, c1, _⟩ := hpt
      rw [← z, he] at h1
      cases h1
      exact absurd (Value.type.inj c1) (by decide)
    have hil2 : i < its.toArray.size := by
      rw [List.size_toArray]
      exact (List.getElem?_eq_some_iff.mp hu).1
    refine wpAny_pyNext_enum_itemD (draws_tuple (A := X.A.in1) (I.ok.hd hc) it a its.toArray hai) he ⟨hit, hpt⟩ hil2 hne (by simp only [List.mem_cons, List.not_mem_nil, or_false, not_or]; exact ⟨hne, hae⟩) fun y h' tk hy ho hst hT hsz hk => ?_
    have hyu : y = u := by
      have : its[i]? = some y := by simpa using hy
      rw [hu] at this
      exact (Option.some.inj this).symm
    subst hyu
    have hit' := hst.1
    refine ⟨_, rfl, wpAny_letOwnedTupleGo_enum (s := { s with heap := h', toks := tk + 1 }) ho fun h'' he' sb => ?_⟩
    have hT2 : h''.get? s.heap.objs.size = some { cls := .type "tuple", data := .seq #[.int i tk, y] } := (sb.2 _ (Nat.ne_of_gt hel)).trans hT
    have new : ObjOk X.prog X.w (upd H s.heap.objs.size (.tup [.int (i : Nat), x])) h'' s.heap.objs.size (.tup [.int (i : Nat), x]) :=
      ⟨by show 2 ≤ sizeLine; decide, [.int i tk, y], .cons ⟨_, rfl⟩ (.cons ru .nil), ⟨_, hT2, rfl, _, rfl⟩⟩
    have I1 : Inv X pins σ (upd H s.heap.objs.size (.tup [.int (i : Nat), x])) { s with heap := h'', toks := tk + 1 } :=
      I.turnedNew (ch := [e, it]) (fun b ob hb q => (sb.2 b (fun z => hb (by simp [z]))).trans (hk b ob (fun z => hb (by simp [z])) (fun z => hb (by simp [z])) q)) hf (Nat.le_refl _) new
    refine ⟨.ref s.heap.objs.size, _, I1, rfl, ⟨_, x, rfl, I.hok.fresh (Nat.le_refl _), rfl, fun ys hy => by rw [I.tuple_inj hy hq]; exact hx⟩, ⟨⟨y, ?_⟩, hit'.at fun o q => (sb.2 it (Ne.symm hne)).trans q, hne⟩, fun b hb => ?_⟩
    · have e1 : ((i + 1 : Nat) : Int) = (i : Int) + 1 := by omega
      rw [e1]; exact he'
    · have hb' : b < s.heap.objs.size := by
        have e' : b = e ∨ b = it := by simpa using hb
        rcases e' with z | z
        · rw [z]; exact hel
        · rw [z]; exact hil
      rw [upd_ne (Nat.ne_of_lt hb')]
      exact (hf b hb).1
  done := by
    intro X hP hw hK hc i pins s σ H E I hf st hg
    subst hP hw hK
    obtain ⟨⟨old, he⟩, hit, hne⟩ := st
    obtain ⟨xs, hq, hx⟩ := hg
    obtain ⟨its, rv, p, hz⟩ := I.tuple hq
    obtain ⟨f0, f1, f2, f3, f4, f5⟩ := hf it (by simp)
    have hl := rv.length
    have hpt : s.heap.IsTuple a its.toArray := p
    have hai : a ≠ it := fun z => by
      obtain ⟨o1, h1, c1, _⟩ := hpt
      obtain ⟨o2, h2, c2, _⟩ := hit
      rw [z, h2] at h1
      cases h1
      rw [c2] at c1
      exact absurd (Value.type.inj c1) (by decide)
    have hn : i = its.toArray.size := by rw [List.size_toArray]; omega
    exact wpAny_pyNext_enum_endD (draws_tuple (A := X.A.in1) (I.ok.hd hc) it a its.toArray hai) he (by rw [← hn]; exact ⟨hit, hpt⟩) fun h' eb => ⟨rfl, I.turned (t' := s.toks) (fun b o hb q => eb b o hb q) f0 f1 f3 f4 f5⟩
  self := fun A i s Q E st h => let ⟨⟨_, he⟩, _⟩ := st; wpAny_pyIter_enum he h
def iEnumT (K : PySem.W.Frag) (ta : TA) : TI := fun σ H R => ta σ H fun vs H1 => ∃ a xs, vs = [.ref a] ∧ SqT K H1 a xs ∧ R (IteT K a) H1
theorem pi_enumT {X : Cx} {e : Expr} {ta : TA} {p pos tpos : Pos} {elts : List Expr} {kk : Nat} (hg : Gl X "enumerate") (hm : X.mg "enumerate" = none) (ha : PA X [e] ta) (hs : starEach [e] X.env = [(false, eval e X.env)] := by rfl) :
    PI X (.Tuple elts kk tpos) (.Call (.Name "enumerate" p) [e] [] pos) (iEnumT X.K ta) := by
  refine ⟨fun pins s σ H R I h => ?_⟩
  refine Call_ (ld_blt I hg hm boot_enumerate (PyProof.Rows.callWith_type1 (thn (ha.run pos pins s σ H _ I h) fun us s1 ⟨vs, H1, I1, r1, q1⟩ => ?_) hs rfl))
  obtain ⟨a, xs, ex, hq, q⟩ := q1
  subst ex
  cases r1 with
  | cons r rr =>
    cases rr
    cases r
    obtain ⟨its, rv, p', hz⟩ := I1.tuple hq
    refine call_enumerate_tuple p' fun h' he hit hsz hk => wpAny_pyIter_enum he ?_
    have I2 : Inv X pins σ H1 { s1 with heap := h' } := I1.kept (t' := s1.toks) hk
    refine ⟨s1.heap.objs.size + 1, [s1.heap.objs.size + 1, s1.heap.objs.size], _, _, H1, rfl, I2, turn_enumT a (s1.heap.objs.size + 1) s1.heap.objs.size, ⟨⟨.none, he⟩, hit, Nat.succ_ne_self _⟩, fun b hb => ?_, q⟩
    have e' : b = s1.heap.objs.size + 1 ∨ b = s1.heap.objs.size := by simpa using hb
    have hle : s1.heap.objs.size ≤ b := by
      rcases e' with z | z
      · rw [z]; exact Nat.le_add_right _ _
      · rw [z]; exact Nat.le_refl _
    exact I1.fpOk hle (I1.hok.fresh hle)
theorem gx_enum {α : Type} {K : PySem.W.Frag} {a : Addr} {xs : List V} {g : TG} {tt : TT} {te : TE} {vs : List Nat} {σ0 : L2.St} {End : α → Hp → Prop} {Yd : α → V → Hp → (α → Hp → Prop) → Prop} {a0 : α} {H0 : Hp} (Pv : Nat → α → Hp → Prop) (h0 : Pv 0 a0 H0)
    (hl : ∀ i c H, i ≤ xs.length → Pv i c H → SqT K H a xs)
    (hs : ∀ i x T c H, xs[i]? = some x → H T = none → Pv i c H → g (.ref T) σ0 (upd H T (.tup [.int (i : Nat), x])) fun σ2 H2 => wipe σ2 vs = σ0 ∧ tt σ2 H2 fun b H3 => if b = true then te σ2 H3 fun y H4 => Yd c y H4 (Pv (i + 1)) else Pv (i + 1) c H3) (hd : ∀ c H, Pv xs.length c H → End c H) :
    ∃ W : Nat → Nat → α → Hp → Prop, (∃ m, W 0 m a0 H0) ∧ tGx (IteT K a) g tt te σ0 vs End Yd W := by
  refine ⟨fun i m c H => m = xs.length - i ∧ i ≤ xs.length ∧ Pv i c H, ⟨xs.length, rfl, Nat.zero_le _, h0⟩, ?_⟩
  rintro i m c H ⟨rfl, hi, p⟩
  by_cases hlt : i < xs.length
  · have hx : xs[i]? = some xs[i] := List.getElem?_eq_getElem hlt
    refine .inr ⟨⟨xs, xs[i], hl i c H hi p, hx⟩, Pv (i + 1), fun c' H' p' => ⟨xs.length - (i + 1), by omega, rfl, hlt, p'⟩, fun x H' y => ?_⟩
    obtain ⟨T, x1, rfl, nT, rfl, e1⟩ := y
    exact hs i x1 T c H (e1 xs (hl i c _ hi p)) nT p
  · have e : i = xs.length := by omega
    subst e
    exact .inl ⟨⟨xs, hl _ c H hi p, rfl⟩, hd c H p⟩
theorem gx_str {α : Type} {z : Str} {g : TG} {tt : TT} {te : TE} {vs : List Nat} {σ0 : L2.St} {End : α → Hp → Prop} {Yd : α → V → Hp → (α → Hp → Prop) → Prop} {a0 : α} {H0 : Hp} (Pv : Nat → α → Hp → Prop) (h0 : Pv 0 a0 H0)
    (hs : ∀ i x c H, z.cps[i]? = some x → Pv i c H → g (.str ⟨#[x]⟩) σ0 H fun σ2 H2 => wipe σ2 vs = σ0 ∧ tt σ2 H2 fun b H3 => if b = true then te σ2 H3 fun y H4 => Yd c y H4 (Pv (i + 1)) else Pv (i + 1) c H3) (hd : ∀ c H, Pv z.cps.size c H → End c H) :
    ∃ W : Nat → Nat → α → Hp → Prop, (∃ m, W 0 m a0 H0) ∧ tGx (Its z) g tt te σ0 vs End Yd W := by
  refine ⟨fun i m c H => m = z.cps.size - i ∧ i ≤ z.cps.size ∧ Pv i c H, ⟨z.cps.size, rfl, Nat.zero_le _, h0⟩, ?_⟩
  rintro i m c H ⟨rfl, hi, p⟩
  by_cases hlt : i < z.cps.size
  · refine .inr ⟨hlt, Pv (i + 1), fun c' H' p' => ⟨z.cps.size - (i + 1), by omega, rfl, hlt, p'⟩, fun x H' y => ?_⟩
    obtain ⟨rfl, ch, hc, rfl⟩ := y
    exact hs i ch c _ hc p
  · have e : i = z.cps.size := by omega
    subst e
    exact .inl ⟨Nat.le_refl _, hd c H p⟩

/-! ### nets, and the words of nets -/
abbrev Gt := List Bool × List Nat
def gD (g : Gt) : PyData := .tuple [.str (tabOf g.1), .tuple ((g.2.map Int.ofNat).map PyData.int)]
def netD (many : Int) (gs : List Gt) : PyData := .tuple [.int many, .tuple (gs.map gD)]
def rowD (r : List Int) : PyData := .tuple (r.map PyData.int)
def chD (a b : List Int) : PyData := .tuple [rowD a, rowD b]
def GtOk (n : Nat) (g : Gt) : Prop := g.1.length = 2 ^ g.2.length ∧ 1 ≤ g.2.length ∧ g.2.length ≤ 3 ∧ ∀ i ∈ g.2, i < n
def NetOk (n : Nat) (gs : List Gt) : Prop := ∀ k g, gs[k]? = some g → GtOk (n + k) g
def Row01 (r : List Int) : Prop := ∀ x ∈ r, x = 0 ∨ x = 1
mutual
theorem Tk.gr {H H' : Hp} (s : Gr H H') : ∀ {v : V} {d : PyData}, Tk H v d → Tk H' v d
  | _, _, .bl b => .bl b
  | _, _, .int i => .int i
  | _, _, .str x => .str x
  | _, _, .lst h t => .lst (s.lst h) (t.gr s)
  | _, _, .tup h t => .tup (s.tup h) (t.gr s)
theorem TkAll.gr {H H' : Hp} (s : Gr H H') : ∀ {vs : List V} {ds : List PyData}, TkAll H vs ds → TkAll H' vs ds
  | _, _, .nil => .nil
  | _, _, .cons h t => .cons (h.gr s) (t.gr s)
end
theorem Tk.row_inv {H : Hp} {v : V} {r : List Int} (h : Tk H v (rowD r)) : ∃ a, v = .ref a ∧ H a = some (.tup (r.map V.int)) := by
  obtain ⟨a, xs, rfl, ha, t⟩ := h.tup_inv
  rw [t.int_inv] at ha
  exact ⟨a, rfl, ha⟩
theorem Tk.ch_inv {H : Hp} {v : V} {a b : List Int} (h : Tk H v (chD a b)) : ∃ c ra rb, v = .ref c ∧ H c = some (.tup [.ref ra, .ref rb]) ∧ H ra = some (.tup (a.map V.int)) ∧ H rb = some (.tup (b.map V.int)) := by
  obtain ⟨c, xs, rfl, hc, t⟩ := h.tup_inv
  cases t with
  | cons h1 t => cases t with
    | cons h2 t =>
      cases t
      obtain ⟨ra, rfl, ha⟩ := h1.row_inv
      obtain ⟨rb, rfl, hb⟩ := h2.row_inv
      exact ⟨c, ra, rb, rfl, hc, ha, hb⟩
theorem Tk.net_inv {H : Hp} {v : V} {m : Int} {gs : List Gt} (h : Tk H v (netD m gs)) : ∃ n g xs, v = .ref n ∧ H n = some (.tup [.int m, .ref g]) ∧ H g = some (.tup xs) ∧ TkAll H xs (gs.map gD) := by
  obtain ⟨n, xs, rfl, hn, t⟩ := h.tup_inv
  cases t with
  | cons h1 t => cases t with
    | cons h2 t =>
      cases t
      cases h1
      obtain ⟨g, ys, rfl, hg, t2⟩ := h2.tup_inv
      exact ⟨n, g, ys, rfl, hn, hg, t2⟩
theorem Tk.gt_inv {H : Hp} {v : V} {g : Gt} (h : Tk H v (gD g)) : ∃ a i, v = .ref a ∧ H a = some (.tup [.str (tabOf g.1), .ref i]) ∧ H i = some (.tup ((g.2.map Int.ofNat).map V.int)) := by
  obtain ⟨a, xs, rfl, ha, t⟩ := h.tup_inv
  cases t with
  | cons h1 t => cases t with
    | cons h2 t =>
      cases t
      cases h1
      obtain ⟨i, rfl, hi⟩ := (show Tk H _ (rowD (g.2.map Int.ofNat)) from h2).row_inv
      exact ⟨a, i, rfl, ha, hi⟩
theorem TkAll.at {H : Hp} {α : Type} {f : α → PyData} {xs : List V} {ds : List α} (t : TkAll H xs (ds.map f)) {j : Nat} {v : V} (h : xs[j]? = some v) : ∃ x, ds[j]? = some x ∧ Tk H v (f x) := by
  obtain ⟨dx, hdx, tx⟩ := t.get h
  rw [List.getElem?_map] at hdx
  cases hz : ds[j]? with
  | none => rw [hz] at hdx; cases hdx
  | some x =>
    rw [hz] at hdx
    cases Option.some.inj hdx
    exact ⟨x, rfl, tx⟩
theorem TkAll.at' {H : Hp} {α : Type} {f : α → PyData} {xs : List V} {ds : List α} (t : TkAll H xs (ds.map f)) {j : Nat} {x : α} (h : ds[j]? = some x) : ∃ v, xs[j]? = some v ∧ Tk H v (f x) := by
  have hl := t.length
  rw [List.length_map] at hl
  have hj := (List.getElem?_eq_some_iff.mp h).1
  obtain ⟨y, hy, ty⟩ := t.at (List.getElem?_eq_getElem (l := xs) (i := j) (by omega))
  cases Option.some.inj (h.symm.trans hy)
  exact ⟨_, List.getElem?_eq_getElem _, ty⟩
theorem grow_upd {H H' : Hp} {p : Addr} {o : HO} (g : Gr H H') (n : H' p = none) : Gr H (upd H' p o) := g.trans (Gr.none n)
/-- no table, no older list: only the list at D is written -/
def GrD (D : Addr) (H H' : Hp) : Prop := Gr H (hd1 D H')
theorem GrD.gr {D : Addr} {H H' : Hp} (g : GrD D H H') : Gr H H' := g.trans (Gr.of hd1_le)
theorem TabG_hd1 {D P : Addr} {H : Hp} (h : GxR.TabG H P) (n : D ≠ P) : GxR.TabG (hd1 D H) P := by
  obtain ⟨ps, e, t⟩ := h
  exact ⟨ps, by rw [hd1_at (Ne.symm n)]; exact e, t⟩
theorem GrD.new {D : Addr} {H : Hp} {o : HO} (n : H D = none) : GrD D H (upd H D o) := Gr.of (hd1_of (same_upd n) n)
theorem hd1_gr {D : Addr} {H H' : Hp} (g : Gr H H') (hD : ∀ P, GxR.TabG H P → D ≠ P) : Gr (hd1 D H) (hd1 D H') := by
  refine ⟨fun b o n e => ?_, fun b t => ?_⟩
  · have hb : b ≠ D := fun z => by
      unfold hd1 at e
      rw [if_pos z] at e; cases e
    rw [hd1_at hb] at e ⊢
    exact g.1 b o n e
  · obtain ⟨ps, e, t⟩ := t
    have e' := hd1_le _ _ e
    exact TabG_hd1 (g.2 b ⟨ps, e', t⟩) (hD b ⟨ps, e', t⟩)
theorem GrD.then {D : Addr} {H H1 H2 : Hp} {xs : List V} (a : GrD D H H1) (hD : H1 D = some (.lst xs)) (b : Gr H1 H2) : GrD D H H2 := a.trans (hd1_gr b fun P ⟨ps, e, _⟩ z => by
  rw [← z, hD] at e
  cases e)
theorem GrD.set {D : Addr} {H H1 : Hp} {o : HO} (a : GrD D H H1) : GrD D H (upd H1 D o) := a.trans (Gr.of hd1_upd)

end Gk

set_option Elab.async false
set_option linter.all false
set_option maxRecDepth 100000
set_option maxHeartbeats 1000000
namespace Gk
open PySem PySem.Spec PyProof.Rows L2
/-! ### data of tuples alone: no list that is written can harm it -/
mutual
def noL : PyData → Bool
  | .list _ => false
  | .tuple ds => noLs ds
  | _ => true
def noLs : List PyData → Bool
  | [] => true
  | d :: r => noL d && noLs r
end
def Ts (H H' : Hp) : Prop := ∀ b xs, H b = some (HO.tup xs) → H' b = some (.tup xs)
theorem Ts.refl {H : Hp} : Ts H H := fun _ _ e => e
theorem Ts.trans {H H1 H2 : Hp} (a : Ts H H1) (b : Ts H1 H2) : Ts H H2 := fun c xs e => b c xs (a c xs e)
theorem Ts.same {H H' : Hp} (s : Same H H') : Ts H H' := fun b xs e => s _ _ e
theorem Ts.gr {H H' : Hp} (s : Gr H H') : Ts H H' := fun b xs e => s.tup e
theorem Ts.new {H : Hp} {p : Addr} {o : HO} (h : H p = none) : Ts H (upd H p o) := Ts.same (same_upd h)
theorem Ts.set {H : Hp} {p : Addr} {xs ys : List V} (h : H p = some (.lst xs)) : Ts H (upd H p (.lst ys)) := fun b zs e => by
  rw [upd_ne (ne_of e h (by intro z; cases z))]
  exact e
mutual
theorem Tk.ts {H H' : Hp} (s : Ts H H') : ∀ {v : V} {d : PyData}, Tk H v d → noL d = true → Tk H' v d
  | _, _, .bl b, _ => .bl b
  | _, _, .int i, _ => .int i
  | _, _, .str x, _ => .str x
  | _, _, .lst h t, n => by cases n
  | _, _, .tup h t, n => .tup (s _ _ h) (t.ts s n)
theorem TkAll.ts {H H' : Hp} (s : Ts H H') : ∀ {vs : List V} {ds : List PyData}, TkAll H vs ds → noLs ds = true → TkAll H' vs ds
  | _, _, .nil, _ => .nil
  | _, _, .cons (d := d) (ds := ds) h t, n => by
    have n' : noL d = true ∧ noLs ds = true := Bool.and_eq_true_iff.mp n
    exact .cons (h.ts s n'.1) (t.ts s n'.2)
end
theorem noLs_map {α : Type} {f : α → PyData} (h : ∀ x, noL (f x) = true) : ∀ l : List α, noLs (l.map f) = true
  | [] => rfl
  | x :: r => by
    show (noL (f x) && noLs (r.map f)) = true
    rw [h x, noLs_map h r]
    rfl
theorem noL_row (r : List Int) : noL (rowD r) = true := noLs_map (fun _ => rfl) r
theorem noL_gate (g : Gt) : noL (gD g) = true := by
  show (true && (noLs ((g.2.map Int.ofNat).map PyData.int) && true)) = true
  rw [noLs_map (fun _ => rfl)]
  rfl
theorem noL_gates (gs : List Gt) : noLs (gs.map gD) = true := noLs_map noL_gate gs
theorem noL_net (m : Int) (gs : List Gt) : noL (netD m gs) = true := by
  show (true && (noLs (gs.map gD) && true)) = true
  rw [noL_gates]
  rfl
theorem noL_ch (a b : List Int) : noL (chD a b) = true := by
  show (noL (rowD a) && (noL (rowD b) && true)) = true
  rw [noL_row, noL_row]
  rfl

section
variable {P : Program} {w : World} {K : PySem.W.Frag} {mg : Str → Option Value} {base : Heap}
/-! ### the deck whose cells are taken from behind -/
def DeckC (H : Hp) (d l : Addr) (n : Int) : Prop := d ≠ l ∧ ∃ (cs : List Int) (y z : Int), H d = some (.lst [.ref l, .int y, .int z]) ∧ H l = some (.lst (cs.map V.int)) ∧ cs.length ≤ 63 ∧ 0 ≤ z ∧ z ≤ n
theorem DeckC.mono {H : Hp} {d l : Addr} {n m : Int} (D : DeckC H d l n) (h : n ≤ m) : DeckC H d l m := by
  obtain ⟨ne, cs, z, y, h1, h2, h3, h4, h5⟩ := D
  exact ⟨ne, cs, z, y, h1, h2, h3, h4, Int.le_trans h5 h⟩
theorem DeckC.same {H H' : Hp} {d l : Addr} {n : Int} (D : DeckC H d l n) (s : Same H H') : DeckC H' d l n := by
  obtain ⟨ne, cs, z, y, hd, hl, r⟩ := D
  exact ⟨ne, cs, z, y, s _ _ hd, s _ _ hl, r⟩
theorem DeckC.gr {H H' : Hp} {d l : Addr} {n : Int} (D : DeckC H d l n) (s : Gr H H') : DeckC H' d l n := by
  obtain ⟨ne, cs, z, y, hd, hl, r⟩ := D
  exact ⟨ne, cs, z, y, s.lst hd, s.lst hl, r⟩
theorem DeckC.upd {H : Hp} {d l p : Addr} {n : Int} {o : HO} (D : DeckC H d l n) (h1 : p ≠ d) (h2 : p ≠ l) : DeckC (upd H p o) d l n := by
  obtain ⟨ne, cs, z, y, hd, hl, r⟩ := D
  exact ⟨ne, cs, z, y, by rw [upd_ne h1.symm]; exact hd, by rw [upd_ne h2.symm]; exact hl, r⟩
theorem DeckC.off {H : Hp} {d l p : Addr} {n : Int} (D : DeckC H d l n) (h : H p = none) : p ≠ d ∧ p ≠ l := by
  obtain ⟨ne, cs, z, y, hd, hl, r⟩ := D
  exact ⟨(ne_of_none hd h).symm, (ne_of_none hl h).symm⟩
theorem Ts.frC {H H' : Hp} {d l : Addr} {n : Int} (D : DeckC H d l n) (f : Fr d l H H') : Ts H H' := fun b xs e => by
  obtain ⟨ne, cs, z, y, hd, hl, r⟩ := D
  exact f b _ (ne_of e hd (by intro z; cases z)) (ne_of e hl (by intro z; cases z)) e
theorem Fr.upd {d l p : Addr} {H H' : Hp} {o : HO} (f : Fr d l H H') (h : H p = none) : Fr d l H (upd H' p o) := fun b u h1 h2 e => by
  rw [upd_ne (ne_of_none e h)]
  exact f b u h1 h2 e
theorem tab_frC {H H' : Hp} {d l P : Addr} {n : Int} (D : DeckC H d l n) (f : Fr d l H H') (t : GxR.TabG H P) : GxR.TabG H' P := by
  obtain ⟨ps, e, tr⟩ := t
  obtain ⟨ne, cs, z, y, hd, hl, r⟩ := D
  exact ⟨ps, f _ _ (ne_of e hd (by intro z; cases z)) (ne_of e hl (by intro z; cases z)) e, tr⟩
theorem none_of_frC {d l p : Addr} {H H' : Hp} {n : Int} (f : Fr d l H H') (D : DeckC H' d l n) (h : H' p = none) : H p = none := by
  have o := D.off h
  cases z : H p with
  | none => rfl
  | some u => rw [f _ _ o.1 o.2 z] at h; cases h
theorem cut63 {ns : List Int} (h : ns.length ≤ 63) : cutV (ns.map V.int) none (some 63) = ns.map V.int := by
  unfold cutV
  have e : HT.sIx (ns.map V.int).length (ns.map V.int).length (some 63) = min 63 (ns.map V.int).length := HT.sIx_nat _ _ 63
  rw [HT.sIx_none, e, List.length_map, List.drop_zero]
  apply List.take_of_length_le
  rw [List.length_map]
  omega
theorem sq_same {K : PySem.W.Frag} {H H' : Hp} {a : Addr} {xs : List V} (s : Same H H') (h : SqL K H a xs) : SqL K H' a xs := h.imp (fun r => r.imp (fun e => s _ _ e) (fun ⟨ob, e⟩ => ⟨ob, s _ _ e⟩)) id
def sp_deck (K : PySem.W.Frag) : Sp := fun vs H Q _ => ∃ (a : Addr) (ns : List Int), vs = [.ref a] ∧ SqL K H a (ns.map V.int) ∧ ns.length ≤ 63 ∧ ∀ H' d l, Same H H' → DeckC H' d l 0 → Q (.ref d) H'
theorem ok_deck (T : Tx w K mg) : FnOk P w K mg base CX0 1 T.f_deck T.fd_deck ["_law_script"] (sp_deck K) := by
  refine T.F_deck.ok sc_deck (fun vs H Q E h => ?_) (fun cdv A outer s H vs Q E hr h => ?_)
  · obtain ⟨a, ns, rfl, _⟩ := h
    rfl
  · obtain ⟨a, ns, rfl, hS, hlen, q⟩ := h
    refine ⟨_, (pss_one (ps_ret (pe_lst (pa_cons (RevL.pe_lstRev rfl (by rfl) T.m_list (by rfl) T.m_reversed (pe_slice sl_list (pv 0) po_none (po_some pe_int))) (pa_cons (pe_op op_add (pe_callB (cr_sum rfl) (by rfl) T.m_sum (by decide +kernel) (pa_cons (pe_slice sl_list (pv 0) po_none (po_some pe_int)) pa_nil)) (pe_callB call_len_seq (by rfl) T.m_len PySem.boot_len (pa_cons (pe_slice sl_list (pv 0) po_none (po_some pe_int)) pa_nil))) (pa_cons pe_int pa_nil)))))), ?_⟩
    refine ⟨.ref a, rfl, 63, rfl, a, _, rfl, hS, fun c1 n1 => ?_⟩
    rw [cut63 hlen]
    have s1 := same_upd (o := HO.lst (ns.map V.int)) n1
    refine ⟨c1, _, rfl, SqL.of upd_same, fun l nl => ?_⟩
    have s2 := same_upd (o := HO.lst (ns.map V.int).reverse) nl
    refine ⟨.ref a, rfl, 63, rfl, a, _, rfl, sq_same (s1.trans s2) hS, fun c3 n3 => ?_⟩
    rw [cut63 hlen]
    have s3 := same_upd (o := HO.lst (ns.map V.int)) n3
    refine ⟨c3, ns, rfl, SqL.of upd_same, .ref a, rfl, 63, rfl, a, _, rfl, sq_same ((s1.trans s2).trans s3) hS, fun c4 n4 => ?_⟩
    rw [cut63 hlen]
    have s4 := same_upd (o := HO.lst (ns.map V.int)) n4
    refine ⟨c4, _, rfl, .inl (SqL.of upd_same), _, _, rfl, rfl, sl3, fun d nd => ?_⟩
    have s5 := same_upd (o := HO.lst [V.ref l, V.int (ns.sum + ((ns.map V.int).length : Nat)), V.int 0]) nd
    have hl4 := s4 _ _ (s3 _ _ (show (upd (upd H c1 (.lst (ns.map V.int))) l (.lst (ns.map V.int).reverse)) l = _ from upd_same))
    refine q _ d l ((((s1.trans s2).trans s3).trans s4).trans s5) ⟨(ne_of_none hl4 nd).symm, ns.reverse, _, 0, upd_same, ?_, by rw [List.length_reverse]; exact hlen, Int.le_refl _, Int.le_refl _⟩
    rw [List.map_reverse]
    exact s5 _ _ hl4
def sp_mixed (K : PySem.W.Frag) : Sp := fun vs H Q _ => ∃ c k : Int, vs = [.int c, .int k] ∧ 0 ≤ k ∧ k < 2000000000 ∧ ∀ v, 0 ≤ v → Q (.int v) H
theorem ok_mixed (T : Tx w K mg) : FnOk P w K mg base CX0 1 T.f_mixed T.fd_mixed ["_law_cell", "_law_k"] (sp_mixed K) := by
  refine T.F_mixed.ok sc_mixed (fun vs H Q E h => ?_) (fun cdv A outer s H vs Q E hr h => ?_)
  · obtain ⟨c, k, rfl, _⟩ := h
    rfl
  · obtain ⟨c, k, rfl, k0, k1, q⟩ := h
    refine ⟨_, (pss_cons (ps_set (i := 2) sc_mixed.nd rfl (by first | exact .inl rfl | exact .inr rfl) (pe_op op_mod (pe_op op_mul (pe_op op_add (pe_op op_add (pe_op op_mod (pv 0) pe_int) (pe_op op_mul pe_int (pv 1))) pe_int) pe_int) pe_int)) (pss_cons (ps_set (i := 2) sc_mixed.nd rfl (by first | exact .inl rfl | exact .inr rfl) (pe_op op_mod (pe_op op_add (pe_op op_add (pe_op op_mul (pv 2) (pv 2)) (pe_op op_mul pe_int (pv 1))) pe_int) pe_int)) (pss_one (ps_ret (pe_op op_add (pe_op op_mul (pv 2) pe_int) (pe_op op_mod (pe_op op_add (pe_op op_add (pe_op op_mul (pv 2) (pv 2)) (pe_op op_mul pe_int (pv 2))) (pv 1)) pe_int)))))), ?_⟩
    refine ⟨.int c, rfl, _, _, rfl, rfl, p29, .int k, rfl, 7919, k, rfl, rfl, .inl ⟨by decide, by decide⟩, _, _, rfl, rfl, _, _, rfl, rfl, _, 48271, rfl, rfl, .inr ⟨by decide, by decide⟩, _, _, rfl, rfl, p47, ?_⟩
    dsimp only
    have v0 := Int.emod_nonneg ((c % 2147483629 + 7919 * k + 1) * 48271) (show (2147483647 : Int) ≠ 0 by decide)
    have v1 := Int.emod_lt_of_pos ((c % 2147483629 + 7919 * k + 1) * 48271) (show (0 : Int) < 2147483647 by decide)
    revert v0 v1
    generalize ((c % 2147483629 + 7919 * k + 1) * 48271) % 2147483647 = v
    intro v0 v1
    refine ⟨.int v, rfl, .int v, rfl, v, v, rfl, rfl, .inl ⟨by omega, by omega⟩, .int k, rfl, 69621, k, rfl, rfl, .inl ⟨by decide, by decide⟩, _, _, rfl, rfl, _, _, rfl, rfl, _, _, rfl, rfl, p87, ?_⟩
    dsimp only
    have u0 := Int.emod_nonneg (v * v + 69621 * k + 7) (show (2147483587 : Int) ≠ 0 by decide)
    have u1 := Int.emod_lt_of_pos (v * v + 69621 * k + 7) (show (0 : Int) < 2147483587 by decide)
    revert u0 u1
    generalize (v * v + 69621 * k + 7) % 2147483587 = u
    intro u0 u1
    refine ⟨.int u, rfl, u, 2147483563, rfl, rfl, .inl ⟨by omega, by omega⟩, .int u, rfl, .int u, rfl, u, u, rfl, rfl, .inl ⟨by omega, by omega⟩, .int u, rfl, 16807, u, rfl, rfl, .inl ⟨by decide, by decide⟩, _, _, rfl, rfl, .int k, rfl, _, _, rfl, rfl, _, _, rfl, rfl, (show (0 : Int) < 2147483563 by decide), _, _, rfl, rfl, ?_⟩
    refine q _ ?_
    have a := Int.emod_nonneg (u * u + 16807 * u + k) (show (2147483563 : Int) ≠ 0 by decide)
    have b : 0 ≤ u * 2147483563 := by omega
    omega
def sp_take (K : PySem.W.Frag) : Sp := fun vs H Q _ => ∃ (d l : Addr) (m n : Int), vs = [.ref d, .int m] ∧ DeckC H d l n ∧ n < 1000000000 ∧ 0 < m ∧ m < 1073741824 ∧ ∀ H' v, DeckC H' d l (n + 1) → Fr d l H H' → 0 ≤ v → v < m → Q (.int v) H'
theorem ok_take (T : Tx w K mg) : FnOk P w K mg base CX0 2 T.f_take T.fd_take ["_law_deck_here", "_law_most"] (sp_take K) := by
  refine T.F_take.ok sc_take (fun vs H Q E h => ?_) (fun cdv A outer s H vs Q E hr h => ?_)
  · obtain ⟨d, l, m, n, rfl, _⟩ := h
    rfl
  · obtain ⟨d, l, m, n, rfl, D, hn, hm0, hm1, q⟩ := h
    obtain ⟨ne, cs, y, z, hd, hl, hcs, hz0, hz1⟩ := D
    refine ⟨_, (pss_cons (ps_set (i := 2) sc_take.nd rfl (by first | exact .inl rfl | exact .inr rfl) (pe_ix ix_list (pv 0) pe_int (fun _ _ => rfl))) (pss_cons (ps_asg (pe_op op_add (pe_ix ix_list (pv 0) pe_int (fun _ _ => rfl)) pe_int) (pg_sub (pv 0) pe_int set_list)) (pss_cons (ps_if (pt_cmpR (op_eqD hr.units) (pv 2) (pe_lst pa_nil) (nomark _)) (pss_one (ps_ret (pe_op op_mod (pe_call (ok_mixed T) (hr.mono (by decide)) (by rfl) T.g_mixed T.F_mixed.kp T.b_mixed .nil pass0 (pa_cons (pe_ix ix_list (pv 0) pe_int (fun _ _ => rfl)) (pa_cons (pe_ix ix_list (pv 0) pe_int (fun _ _ => rfl)) pa_nil))) (pv 1)))) pss_nil) (pss_cons (ps_set (i := 3) sc_take.nd rfl (by first | exact .inl rfl | exact .inr rfl) (pe_bm0 PySem.F.plainAttrs_list PySem.F.slot_list_pop PySem.F.type_list_pop mt_pop (pv 2))) (pss_cons (ps_if (pt_cmpR op_lt (pv 3) (pe_op op_pow pe_int pe_int) (nomark _)) (pss_one (ps_ret (pe_op op_mod (pe_call (ok_mixed T) (hr.mono (by decide)) (by rfl) T.g_mixed T.F_mixed.kp T.b_mixed .nil pass0 (pa_cons (pv 3) (pa_cons (pe_ix ix_list (pv 0) pe_int (fun _ _ => rfl)) pa_nil))) (pv 1)))) pss_nil) (C8.pss_cut (ps_if (pt_cmpR op_gt (pe_op op_fdiv (pv 3) (pv 1)) pe_int (nomark _)) (pss_one (ps_expr (pe_bm PySem.F.plainAttrs_list PySem.F.slot_list_append PySem.F.type_list_append mt_append (pv 2) (pa_cons (pe_op op_fdiv (pv 3) (pv 1)) pa_nil)))) pss_nil) (pss_one (ps_ret (pe_op op_mod (pv 3) (pv 1)))))))))), ?_⟩
    refine ⟨.ref d, rfl, d, _, 0, .ref l, rfl, rfl, SqL.of hd, rfl, ?_⟩
    refine ⟨.ref d, rfl, d, _, 2, .int z, rfl, rfl, SqL.of hd, rfl, z, 1, rfl, rfl, .ref d, rfl, d, _, 2, 2, rfl, rfl, hd, rfl, ?_⟩
    have hd1 : (upd H d (.lst [.ref l, .int y, .int (z + 1)])) d = some (.lst [.ref l, .int y, .int (z + 1)]) := upd_same
    have hl1 : (upd H d (.lst [.ref l, .int y, .int (z + 1)])) l = some (.lst (cs.map V.int)) := by rw [upd_ne ne.symm]; exact hl
    have fr1 : Fr d l H (upd H d (.lst [.ref l, .int y, .int (z + 1)])) := Fr.d
    have hz2 : 0 ≤ z + 1 := by omega
    have hz3 : z + 1 ≤ n + 1 := by omega
    have hz4 : z + 1 < 2000000000 := by omega
    show tSeq _ _ _ _ (upd H d (.lst [.ref l, .int y, .int (z + 1)]))
    revert hd1 hl1 fr1 hz2 hz3 hz4
    generalize upd H d (.lst [.ref l, .int y, .int (z + 1)]) = H1
    generalize z + 1 = z'
    intro hd1 hl1 fr1 hz2 hz3 hz4
    refine ⟨.ref l, rfl, Nat.zero_le _, fun p np => ?_⟩
    have fr2 : Fr d l H (upd H1 p (.lst [])) := fr1.trans (Fr.new np)
    have hd2 : (upd H1 p (.lst [])) d = some (.lst [.ref l, .int y, .int z']) := same_upd np _ _ hd1
    have hl2 : (upd H1 p (.lst [])) l = some (.lst (cs.map V.int)) := same_upd np _ _ hl1
    refine ⟨.list (cs.map .int), .list [], .lst (SqL.of hl2) (dpInts cs), .lst (SqL.of upd_same) .nil, shInts cs, rfl, _, rfl, ?_⟩
    revert fr2 hd2 hl2
    generalize upd H1 p (.lst []) = H2
    intro fr2 hd2 hl2
    by_cases hc : cs = []
    · subst hc
      refine iteT ?_
      refine ⟨.ref d, rfl, d, _, 1, .int y, rfl, rfl, SqL.of hd2, rfl, .ref d, rfl, d, _, 2, .int z', rfl, rfl, SqL.of hd2, rfl, y, z', rfl, hz2, hz4, fun v v0 => ⟨.int m, rfl, _, _, rfl, rfl, hm0, ?_⟩⟩
      exact q _ _ ⟨ne, [], y, z', hd2, hl2, hcs, hz2, hz3⟩ fr2 (Int.emod_nonneg _ (by omega)) (Int.emod_lt_of_pos _ hm0)
    · obtain ⟨r, c, rfl⟩ : ∃ r c, cs = r ++ [c] := ⟨cs.dropLast, cs.getLast hc, (List.dropLast_concat_getLast hc).symm⟩
      have en : PyData.eqv (.list ((r ++ [c]).map PyData.int)) (.list []) = false := by
        cases r <;> rfl
      rw [en]
      refine iteF ?_
      have la : ((r ++ [c]).map V.int)[((r ++ [c]).map V.int).length - 1]? = some (.int c) := by simp
      refine ⟨.ref l, rfl, .inl ⟨rfl, _, SqL.of hl2⟩, l, _, .int c, rfl, rfl, hl2, la, ?_⟩
      have dl : ((r ++ [c]).map V.int).dropLast = r.map V.int := by rw [List.map_append]; exact List.dropLast_concat
      rw [dl]
      have hd3 : (upd H2 l (.lst (r.map V.int))) d = some (.lst [.ref l, .int y, .int z']) := by rw [upd_ne ne]; exact hd2
      have hl3 : (upd H2 l (.lst (r.map V.int))) l = some (.lst (r.map V.int)) := upd_same
      have fr3 : Fr d l H (upd H2 l (.lst (r.map V.int))) := fr2.trans Fr.l
      have hr63 : r.length + 1 ≤ 63 := by rw [List.length_append] at hcs; exact hcs
      revert hd3 hl3 fr3
      generalize upd H2 l (.lst (r.map V.int)) = H3
      intro hd3 hl3 fr3
      refine ⟨.int c, rfl, _, _, rfl, rfl, ⟨by decide, by decide, by decide⟩, _, _, rfl, rfl, _, rfl, ite2 (fun _ => ?_) (fun _ => ?_)⟩
      · refine ⟨.int c, rfl, .ref d, rfl, d, _, 2, .int z', rfl, rfl, SqL.of hd3, rfl, c, z', rfl, hz2, hz4, fun v v0 => ⟨.int m, rfl, _, _, rfl, rfl, hm0, ?_⟩⟩
        exact q _ _ ⟨ne, r, y, z', hd3, hl3, by omega, hz2, hz3⟩ fr3 (Int.emod_nonneg _ (by omega)) (Int.emod_lt_of_pos _ hm0)
      · refine ⟨fun σ H' => σ = [some (.ref d), some (.int m), some (.ref l), some (.int c)] ∧ ∃ cs : List Int, cs.length ≤ 63 ∧ H' d = some (.lst [.ref l, .int y, .int z']) ∧ H' l = some (.lst (cs.map V.int)) ∧ Fr d l H H', ?_, ?_⟩
        · refine ⟨.int c, rfl, .int m, rfl, _, _, rfl, rfl, ⟨hm0, hm1⟩, _, _, rfl, rfl, _, rfl, ite2 (fun _ => ?_) (fun _ => ?_)⟩
          · refine ⟨.ref l, rfl, .inl ⟨rfl, _, SqL.of hl3⟩, .int c, rfl, .int m, rfl, _, _, rfl, rfl, ⟨hm0, hm1⟩, l, _, _, rfl, rfl, hl3, ?_, ?_⟩
            · rw [List.length_map]
              exact Nat.lt_of_lt_of_le (show r.length < 64 by omega) (by decide)
            · refine ⟨rfl, r ++ [c / m], by rw [List.length_append]; exact hr63, by rw [upd_ne ne]; exact hd3, ?_, fr3.trans Fr.l⟩
              rw [upd_same, List.map_append]
              rfl
          · exact ⟨rfl, r, by omega, hd3, hl3, fr3⟩
        · rintro σ H4 ⟨rfl, cs4, l4, hd4, hl4, fr4⟩
          refine ⟨.int c, rfl, .int m, rfl, _, _, rfl, rfl, hm0, ?_⟩
          exact q _ _ ⟨ne, cs4, y, z', hd4, hl4, l4, hz2, hz3⟩ fr4 (Int.emod_nonneg _ (by omega)) (Int.emod_lt_of_pos _ hm0)

end
end Gk

set_option Elab.async false
set_option linter.all false
set_option maxRecDepth 100000
set_option maxHeartbeats 1000000
set_option pp.maxSteps 1500
set_option pp.deepTerms false
namespace Gk
open PySem PySem.Spec PyProof.Rows L2
/-! ### slices and sums of tuples: what is told stands in a heap that has grown -/
theorem cut_all {xs : List V} {lo hi : Option Int} (h : HT.sIx xs.length 0 lo = 0 ∧ HT.sIx xs.length xs.length hi = xs.length) : cutV xs lo hi = xs := by
  unfold cutV
  rw [h.1, h.2, List.drop_zero, Nat.sub_zero, List.take_length]
theorem same_refl {H : Hp} : Same H H := fun _ _ e => e
theorem slA {K : PySem.W.Frag} {a : Addr} {xs : List V} {lo hi : Option Int} {H : Hp} {Q : VK} (h : H a = some (.tup xs)) (q : ∀ p H', Same H H' → H' p = some (.tup (cutV xs lo hi)) → Q (.ref p) H') : rSlA K (.ref a) lo hi H Q :=
  ⟨a, xs, rfl, SqT.of h, fun w => q a H same_refl (by rw [cut_all w]; exact h), fun _ p np => q p _ (same_upd np) upd_same⟩
theorem slAn {K : PySem.W.Frag} {a : Addr} {xs : List V} {lo : Option Int} {H : Hp} {Q : VK} {σ : L2.St} (h : H a = some (.tup xs)) (q : ∀ p H', Same H H' → H' p = some (.tup (cutV xs lo none)) → Q (.ref p) H') : tNoPart σ H (fun u H3 => rSlA K (.ref a) lo u H3 Q) := slA h q
theorem catA {K : PySem.W.Frag} {a b : Addr} {xs ys : List V} {H : Hp} {Q : VK} (ha : H a = some (.tup xs)) (hb : H b = some (.tup ys)) (hl : xs.length + ys.length ≤ sizeLine) (q : ∀ p H', Same H H' → H' p = some (.tup (xs ++ ys)) → Q (.ref p) H') : rCatA K (.ref a) (.ref b) H Q :=
  ⟨a, b, xs, ys, rfl, rfl, SqT.of ha, SqT.of hb, hl, fun e => q b H same_refl (by rw [e]; exact hb), fun _ e => q a H same_refl (by rw [e, List.append_nil]; exact ha), fun _ _ p np => q p _ (same_upd np) upd_same⟩
theorem cut_to {xs : List V} {k : Nat} : cutV xs none (some (k : Int)) = xs.take k := by
  unfold cutV
  rw [HT.sIx_none, HT.sIx_nat, List.drop_zero, Nat.sub_zero]
  apply List.ext_getElem?
  intro i
  rw [List.getElem?_take, List.getElem?_take]
  by_cases h : i < k
  · rw [if_pos h]
    by_cases h2 : i < xs.length
    · rw [if_pos (by omega)]
    · rw [List.getElem?_eq_none (by omega)]
      split <;> rfl
  · rw [if_neg h, if_neg (by omega)]
theorem cut_from {xs : List V} {k : Nat} : cutV xs (some (k : Int)) none = xs.drop k := by
  unfold cutV
  rw [HT.sIx_none, HT.sIx_nat]
  by_cases h : k ≤ xs.length
  · rw [Nat.min_eq_left h]
    exact List.take_of_length_le (by rw [List.length_drop]; exact Nat.le_refl _)
  · rw [Nat.min_eq_right (by omega), Nat.sub_self, List.take_zero, List.drop_eq_nil_of_le (by omega)]
theorem TkAll.take {H : Hp} : ∀ {xs : List V} {ds : List PyData} (k : Nat), TkAll H xs ds → TkAll H (xs.take k) (ds.take k)
  | _, _, 0, _ => by rw [List.take_zero, List.take_zero]; exact .nil
  | _, _, _ + 1, .nil => .nil
  | _, _, k + 1, .cons a t => .cons a (t.take k)
theorem TkAll.drop {H : Hp} : ∀ {xs : List V} {ds : List PyData} (k : Nat), TkAll H xs ds → TkAll H (xs.drop k) (ds.drop k)
  | _, _, 0, t => t
  | _, _, _ + 1, .nil => .nil
  | _, _, k + 1, .cons _ t => t.drop k
theorem set_put {α : Type} {l : List α} {i : Nat} {x : α} (h : i < l.length) : (l.take i ++ [x]) ++ l.drop (i + 1) = l.set i x := by
  rw [List.set_eq_take_append_cons_drop, if_pos h, List.append_assoc]
  rfl
def rJoinK (K : PySem.W.Frag) : V → List V → Hp → VK → Prop := fun x xs H Q => ∃ a p, ∃ ys : List Str, x = .str a ∧ xs = [.ref p] ∧ (SqL K H p (ys.map V.str) ∨ SqT K H p (ys.map V.str)) ∧ (ys.map (·.length)).sum + ys.length * a.length ≤ 16777216 ∧ Q (.str (Txt.join a ys)) H

/-! ### sizes of what is shown -/
def fineB (n m : Nat) (d : PyData) : Bool := d.showable && (d.leavesShort 200 && (decide (d.weight ≤ n) && decide (d.depth ≤ m)))
theorem fine_iff {n m : Nat} {d : PyData} : fineB n m d = true ↔ d.showable = true ∧ d.leavesShort 200 = true ∧ d.weight ≤ n ∧ d.depth ≤ m := by
  unfold fineB
  rw [Bool.and_eq_true, Bool.and_eq_true, Bool.and_eq_true, decide_eq_true_eq, decide_eq_true_eq]
theorem fine_mono {n m n' m' : Nat} {d : PyData} (h : fineB n m d = true) (a : n ≤ n') (b : m ≤ m') : fineB n' m' d = true := by
  obtain ⟨h1, h2, h3, h4⟩ := fine_iff.mp h
  exact fine_iff.mpr ⟨h1, h2, Nat.le_trans h3 a, Nat.le_trans h4 b⟩
theorem fine_fits {n m : Nat} {d : PyData} (h : fineB n m d = true) (hn : n ≤ 50000) : d.shown.length ≤ sizeLine := by
  obtain ⟨_, h2, h3, _⟩ := fine_iff.mp h
  have := PyData.shown_le 200 (by decide) d h2
  have e : sizeLine = 16777216 := by decide
  rw [e]
  omega
theorem fine_all {n m : Nat} : ∀ {ds : List PyData}, (∀ d ∈ ds, fineB n m d = true) → PyData.showableAll ds = true ∧ PyData.leavesShortAll 200 ds = true ∧ PyData.weightAll ds ≤ ds.length * (n + 1) ∧ PyData.depthAll ds ≤ m
  | [], _ => ⟨rfl, rfl, Nat.zero_le _, Nat.zero_le _⟩
  | d :: r, h => by
    obtain ⟨a1, a2, a3, a4⟩ := fine_iff.mp (h d (List.mem_cons_self ..))
    obtain ⟨b1, b2, b3, b4⟩ := fine_all (ds := r) fun x hx => h x (List.mem_cons_of_mem _ hx)
    refine ⟨?_, ?_, ?_, ?_⟩
    · unfold PyData.showableAll
      rw [a1, b1]
      rfl
    · unfold PyData.leavesShortAll
      rw [a2, b2]
      rfl
    · unfold PyData.weightAll
      rw [List.length_cons, Nat.succ_mul]
      omega
    · unfold PyData.depthAll
      omega
theorem fine_tup {n m k : Nat} {ds : List PyData} (h : ∀ d ∈ ds, fineB n m d = true) (hk : ds.length ≤ k) : fineB (k * (n + 1)) (m + 1) (.tuple ds) = true := by
  obtain ⟨b1, b2, b3, b4⟩ := fine_all h
  refine fine_iff.mpr ⟨b1, b2, ?_, ?_⟩
  · show PyData.weightAll ds ≤ _
    exact Nat.le_trans b3 (Nat.mul_le_mul_right _ hk)
  · show PyData.depthAll ds + 1 ≤ _
    omega
theorem fine_lst {n m k : Nat} {ds : List PyData} (h : ∀ d ∈ ds, fineB n m d = true) (hk : ds.length ≤ k) : fineB (k * (n + 1)) (m + 1) (.list ds) = true := by
  obtain ⟨b1, b2, b3, b4⟩ := fine_all h
  refine fine_iff.mpr ⟨b1, b2, ?_, ?_⟩
  · show PyData.weightAll ds ≤ _
    exact Nat.le_trans b3 (Nat.mul_le_mul_right _ hk)
  · show PyData.depthAll ds + 1 ≤ _
    omega

mutual
theorem Sh.gr {H H' : Hp} (s : Gr H H') : ∀ {v : V} {d : PyData}, Sh H v d → Sh H' v d
  | _, _, .non => .non
  | _, _, .bl b => .bl b
  | _, _, .int i => .int i
  | _, _, .str x => .str x
  | _, _, .lst h n t => .lst (s.lst h) n (t.gr s)
  | _, _, .tup h t => .tup (s.tup h) (t.gr s)
  | _, _, .dic h t => .dic (s.1 _ _ (fun _ z => by cases z) h) (t.gr s)
theorem ShAll.gr {H H' : Hp} (s : Gr H H') : ∀ {vs : List V} {ds : List PyData}, ShAll H vs ds → ShAll H' vs ds
  | _, _, .nil => .nil
  | _, _, .cons h t => .cons (h.gr s) (t.gr s)
end
theorem ShAll.get {H : Hp} : ∀ {xs : List V} {ds : List PyData} {j : Nat} {x : V}, ShAll H xs ds → xs[j]? = some x → ∃ d, ds[j]? = some d ∧ Sh H x d
  | _, _, _, _, .nil, h => by simp at h
  | _, _, 0, _, .cons (d := d) a _, h => by
    cases (Option.some.inj h)
    exact ⟨d, rfl, a⟩
  | _, _, j + 1, _, .cons _ t, h => t.get h
theorem ShAll.append {H : Hp} : ∀ {xs ys : List V} {ds es : List PyData}, ShAll H xs ds → ShAll H ys es → ShAll H (xs ++ ys) (ds ++ es)
  | _, _, _, _, .nil, t => t
  | _, _, _, _, .cons a r, t => .cons a (r.append t)
theorem ShAll.take {H : Hp} : ∀ {xs : List V} {ds : List PyData} (n : Nat), ShAll H xs ds → ShAll H (xs.take n) (ds.take n)
  | _, _, 0, _ => by rw [List.take_zero, List.take_zero]; exact .nil
  | _, _, n + 1, .nil => .nil
  | _, _, n + 1, .cons a r => .cons a (r.take n)
theorem ShAll.drop {H : Hp} : ∀ {xs : List V} {ds : List PyData} (n : Nat), ShAll H xs ds → ShAll H (xs.drop n) (ds.drop n)
  | _, _, 0, h => h
  | _, _, n + 1, .nil => .nil
  | _, _, n + 1, .cons _ r => r.drop n
theorem notT {b : Bool} (h : (!b) = true) : ¬ b = true := by cases b <;> simp_all
theorem notF {b : Bool} (h : ¬ (!b) = true) : b = true := by cases b <;> simp_all

/-! ### list.extend of a tuple -/
namespace ExT
open PySem PySem.Spec PyProof.Rows L2
theorem ext_tuple (l : Addr) (items : Array Value) (n : Nat) (b : Addr) (items2 : Array Value) (n2 : Nat) (dd : Option Addr) (sl : Array (Option Value)) (hs0 : ¬(!items.isEmpty && Builtin.List.listTooLong (items.size + items2.size)) = true) (hs1 : items.size ≤ sizeLine) (hs2 : items.size + items2.size ≤ sizeLine + 1) :
    Meets (Builtin.«list.extend» ⟨[.ref l, .ref b], []⟩) (fun _ R s => s.heap.get? l = some { cls := .type "list", dict := none, data := .seq items n, slots := #[] } ∧ s.heap.get? b = some { cls := .type "tuple", dict := dd, data := .seq items2 n2, slots := sl } ∧ R (.ok (.ret Value.none)) { s with heap := s.heap.update l (Obj.mapSeq fun x => x ++ items2), toks := s.toks }) :=
  .of_wp fun prog w A R s h => by
    obtain ⟨hp, g, d, tk, os⟩ := s; obtain ⟨hl, hb, h⟩ := h; have f1 := AutoSeq1.idx_int; have f2 := sub_tuple_tuple; have f3 := sub_list_list; have f4 := sub_tuple_list; have f5 := sub_list_tuple
    have hz' : (items ++ items2).size ≤ sizeLine + 1 := by rw [Array.size_append]; exact hs2
    wp_walk using (wpAny_updateSeq hl rfl (hz := hs1) (_hz' := hz')), wpAny_loadPart' hl, wpAny_loadPart' hb; exact ⟨_, rfl, h⟩
section
variable {X : Cx}
def rExtendT (K : PySem.W.Frag) : V → List V → Hp → VK → Prop := fun x vs H Q => ∃ l b xs zs, x = .ref l ∧ vs = [.ref b] ∧ H l = some (.lst xs) ∧ SqT K H b zs ∧ xs.length + zs.length ≤ sizeLine ∧ Q .non (upd H l (.lst (xs ++ zs)))
theorem mt_extendT : MtM X "list.extend" (rExtendT X.K) := by
  intro pins s σ H x vs v us Q I rx rv h
  obtain ⟨l, b, xs, zs, rfl, rfl, hH, hB, hz, q⟩ := h
  cases rx
  obtain ⟨u, rfl, ru⟩ := rv.one
  cases ru
  obtain ⟨z, its, n, r, hl, e⟩ := I.lstM hH
  obtain ⟨its2, r2, ⟨⟨cls, dd, data, sl⟩, ho, hc, n2, hd⟩, hs⟩ := I.tuple hB
  simp only at hc hd
  subst hc hd
  have l2 : zs.length = its2.length := r2.length
  have hsz : its.toArray.size + its2.toArray.size ≤ sizeLine := by rw [List.size_toArray, List.size_toArray]; omega
  have hlong : ¬ (!its.toArray.isEmpty && Builtin.List.listTooLong (its.toArray.size + its2.toArray.size)) = true := by
    rw [notLongL hsz, Bool.and_false]
    exact Bool.false_ne_true
  refine call_meets F.slot_list_extend ⟨_, e, rfl⟩ F.entry_list_extend (F.args_list_extend_2 _ _)
    (ext_tuple l its.toArray n b its2.toArray n2 dd sl hlong (by rw [List.size_toArray]; omega) (by omega)) ⟨e, ho, ?_⟩
  refine ⟨.non, _, I.lset (its' := its ++ its2) hH e (by simp) (r.append r2) ?_, rfl, q⟩
  rw [List.length_append]
  omega
end
end ExT

/-! ### anything against a text: ==, in a tuple of texts -/
def sB (z : Str) : PyData → Bool
  | .str x => decide (x = z)
  | _ => false
namespace EqS
open PySem PySem.Spec PyProof.Rows L2 PySem.SeqAt
theorem dict_declines_str (l : Addr) (es : Array DictEntry) (n : Nat) (dd : Option Addr) (sl : Array (Option Value)) (b : PySem.Str) (u : Tok) :
    Meets (Builtin.«dict.__eq__» ⟨[.ref l, .str b u], []⟩) (fun _ R s => s.heap.get? l = some { cls := .type "dict", dict := dd, data := .dict es n, slots := sl } ∧ R (.ok (.ret .notImplemented)) s) :=
  .of_wp fun prog w A R s h => by obtain ⟨hp, g, d, tk, os⟩ := s; obtain ⟨hl, h⟩ := h; have f1 := F.sub_str_dict; wp_walk using wpAny_loadPart' hl; exact ⟨_, rfl, h⟩
theorem str_declines_dict (b : PySem.Str) (u : Tok) (l : Addr) (es : Array DictEntry) (n : Nat) (dd : Option Addr) (sl : Array (Option Value)) :
    Meets (Builtin.«str.__eq__» ⟨[.str b u, .ref l], []⟩) (fun _ R s => s.heap.get? l = some { cls := .type "dict", dict := dd, data := .dict es n, slots := sl } ∧ R (.ok (.ret .notImplemented)) s) :=
  .of_wp fun prog w A R s h => by obtain ⟨hp, g, d, tk, os⟩ := s; obtain ⟨hl, h⟩ := h; wp_walk using wpAny_loadPart' hl, wpAny_load hl; exact ⟨_, rfl, h⟩
section
variable {A : Around} {s : Shared}
theorem rc_dict_str {l : Addr} {o : Obj} {es : Array DictEntry} {n : Nat} (b : PySem.Str) (u : Tok) (ho : s.heap.get? l = some o) (hc : o.cls = .type "dict") (hd : o.data = .dict es n) (hu : A.units < cLine) : RcAt A s (.ref l) (.str b u) false := fun prog w E Q h => by
  obtain ⟨cls, dd, data, sl⟩ := o
  simp only at hc hd
  subst hc hd
  exact rc_eq_decline_or (k := false) ⟨_, ho, rfl⟩ (typeIs_str s b u) (by decide) F.sub_str_dict F.slot_dict_eq F.slot_str_eq_refl
    (fun _ hq => call_meets F.slot_dict_eq ⟨_, ho, rfl⟩ F.entry_dict_eq (F.args_dict_eq_2 _ _) (dict_declines_str l es n dd sl b u) ⟨ho, hq⟩)
    (fun _ hq => call_meets F.slot_str_eq_refl (typeIs_str s b u) F.entry_str_eq (F.args_str_eq_2 _ _) (str_declines_dict b u l es n dd sl) ⟨ho, hq⟩)
    (fun _ hq => wpAny_of_eq (rfl : isSame (.ref l) (.str b u) = pure false) hq) (.inr hu) h
theorem rc_str_dict {l : Addr} {o : Obj} {es : Array DictEntry} {n : Nat} (b : PySem.Str) (u : Tok) (ho : s.heap.get? l = some o) (hc : o.cls = .type "dict") (hd : o.data = .dict es n) (hu : A.units < cLine) : RcAt A s (.str b u) (.ref l) false := fun prog w E Q h => by
  obtain ⟨cls, dd, data, sl⟩ := o
  simp only at hc hd
  subst hc hd
  exact rc_eq_decline_or (k := false) (typeIs_str s b u) ⟨_, ho, rfl⟩ (by decide) F.sub_dict_str F.slot_str_eq F.slot_dict_eq_refl
    (fun _ hq => call_meets F.slot_str_eq (typeIs_str s b u) F.entry_str_eq (F.args_str_eq_2 _ _) (str_declines_dict b u l es n dd sl) ⟨ho, hq⟩)
    (fun _ hq => call_meets F.slot_dict_eq_refl ⟨_, ho, rfl⟩ F.entry_dict_eq (F.args_dict_eq_2 _ _) (dict_declines_str l es n dd sl b u) ⟨ho, hq⟩)
    (fun _ hq => wpAny_of_eq (rfl : isSame (.str b u) (.ref l) = pure false) hq) (.inr hu) h
theorem beq_sB (x z : PySem.Str) : (x == z) = decide (x = z) := by
  by_cases h : x = z
  · rw [decide_eq_true h, h, beq_self_eq_true]
  · rw [decide_eq_false h]
    exact beq_eq_false_iff_ne.mpr h
theorem rc_any {v : Value} {d : PyData} {as : List Addr} (r : Reads s.heap v d as) (z : PySem.Str) (t : Tok) (hu : A.units < cLine) : RcAt A s v (.str z t) (sB z d) := by
  cases r with
  | none => exact RcAt.none_str z t
  | bool b => exact RcAt.bool_str b z t
  | int i k => exact RcAt.int_str i k z t
  | str x k =>
    have := RcAt.str_str (A := A) (s := s) x k z t
    rw [beq_sB] at this
    exact this
  | list h1 h2 h3 _ => exact RcAt.list_str z t ⟨_, h1, h2, _, h3⟩ hu
  | tuple h1 h2 h3 _ => exact RcAt.tuple_str z t ⟨_, h1, h2, _, h3⟩ hu
  | dict h1 h2 h3 _ _ => exact rc_dict_str z t h1 h2 h3 hu
theorem eq_any {v : Value} {d : PyData} {as : List Addr} (r : Reads s.heap v d as) (z : PySem.Str) (t : Tok) (hu : A.units < cLine) : EqAt A s (.str z t) v (sB z d) := by
  cases r with
  | none => exact EqAt.str_none z t
  | bool b => exact EqAt.str_bool z t b
  | int i k => exact EqAt.str_int z t i k
  | str x k =>
    have := EqAt.str_str (A := A) (s := s) z t x k
    have e : (z == x) = sB z (.str x) := by
      rw [beq_sB]
      show decide (z = x) = decide (x = z)
      exact decide_eq_decide.mpr ⟨Eq.symm, Eq.symm⟩
    rw [e] at this
    exact this
  | list h1 h2 h3 _ => exact EqAt.str_list z t ⟨_, h1, h2, _, h3⟩ hu
  | tuple h1 h2 h3 _ => exact EqAt.str_tuple z t ⟨_, h1, h2, _, h3⟩ hu
  | dict h1 h2 h3 _ _ =>
    intro prog w E Q h
    unfold eqBool
    refine wpAny_holding ?_
    refine wpAny_ite_split (fun hab => absurd (eq_of_beq hab) nofun) (fun _ => ?_)
    exact wpAny_bind (rc_str_dict z t h1 h2 h3 hu prog w E _ (wpAny_truthy_bool h))
end
theorem u0 {n c : Nat} (h : n + 64 < c) : n < c := by omega
theorem u1 {n c : Nat} (h : n + 64 < c) : n + 1 < c := by omega
section
variable {X : Cx}
def rEqS : R2 := fun x y H Q => ∃ d z, Sh H x d ∧ y = .str z ∧ Q (.bl (sB z d)) H
theorem op_eqS (hu : X.A.units < cLine) : OpR X (compareOp .Eq) rEqS := by
  intro pins s σ H x y v u Q I rx ry h
  obtain ⟨d, z, sh, rfl, q⟩ := h
  obtain ⟨as, r, _⟩ := Sh.reads I x d v sh rx
  obtain ⟨t, rfl⟩ := ry
  exact rc_any r z t hu X.prog X.w X.xe _ ⟨.bl _, H, I, rfl, q⟩
def rInS : R2 := fun x y H Q => ∃ (d : PyData) (a : Addr) (zs : List PySem.Str), Sh H x d ∧ y = .ref a ∧ H a = some (.tup (zs.map V.str)) ∧ Q (.bl (zs.any fun z => sB z d)) H
theorem any_vals : ∀ {zs : List PySem.Str} {us : List Value} (d : PyData), Vals (zs.map V.str) us → (us.any fun u => match u with | .str z _ => sB z d | _ => false) = zs.any fun z => sB z d
  | [], _, _, .nil => rfl
  | z :: r, _, d, .cons h t => by
    obtain ⟨k, rfl⟩ := h
    rw [List.any_cons, List.any_cons, any_vals d t]
theorem mem_vals : ∀ {zs : List PySem.Str} {us : List Value}, Vals (zs.map V.str) us → ∀ u ∈ us, ∃ z t, u = Value.str z t
  | [], _, .nil, _, h => by cases h
  | z :: r, _, .cons h t, u, hu => by
    obtain ⟨k, rfl⟩ := h
    rcases List.mem_cons.mp hu with e | e
    · exact ⟨_, _, e⟩
    · exact mem_vals t u e
theorem op_inS (hu : X.A.units + 1 < cLine) : OpR X (compareOp .In) rInS := by
  intro pins s σ H x y v u Q I rx ry h
  obtain ⟨d, a, zs, sh, rfl, ha, q⟩ := h
  obtain ⟨as, r, _⟩ := Sh.reads I x d v sh rx
  cases ry
  obtain ⟨its, rv, ⟨⟨cls, dd, data, sl⟩, ho, hc, n, hd⟩, hs⟩ := I.tuple (SqT.of (K := X.K) ha)
  refine in_tupleAt (fun u => match u with | .str z _ => sB z d | _ => false) ⟨_, ho, hc, n, hd⟩ (fun u hu' => ?_) ⟨.bl _, H, I, rfl, ?_⟩
  · obtain ⟨z, t, rfl⟩ := mem_vals rv u (by simpa using hu')
    exact eq_any r z t (by show X.A.units + 1 < cLine; exact hu)
  · have e : (its.toArray.any fun u => match u with | .str z _ => sB z d | _ => false) = zs.any fun z => sB z d := by
      rw [← any_vals d rv]
      simp
    rw [e]
    exact q
end
end EqS

section
variable {P : Program} {w : World} {K : PySem.W.Frag} {mg : Str → Option Value} {base : Heap}
/-! ### kinds of data -/
def isIntD : PyData → Bool
  | .int _ => true
  | .bool _ => true
  | _ => false
def isBoolD : PyData → Bool
  | .bool _ => true
  | _ => false
def isTupD : PyData → Bool
  | .tuple _ => true
  | _ => false
def isStrD : PyData → Bool
  | .str _ => true
  | _ => false
theorem kitInt : ∀ d : PyData, kitB (tyD d) "int" = some (isIntD d)
  | .none => (by decide +kernel : kitB "NoneType" "int" = some false)
  | .bool _ => (by decide +kernel : kitB "bool" "int" = some true)
  | .int _ => (by decide +kernel : kitB "int" "int" = some true)
  | .str _ => (by decide +kernel : kitB "str" "int" = some false)
  | .list _ => (by decide +kernel : kitB "list" "int" = some false)
  | .tuple _ => (by decide +kernel : kitB "tuple" "int" = some false)
  | .dict _ => (by decide +kernel : kitB "dict" "int" = some false)
theorem kitBool : ∀ d : PyData, kitB (tyD d) "bool" = some (isBoolD d)
  | .none => (by decide +kernel : kitB "NoneType" "bool" = some false)
  | .bool _ => (by decide +kernel : kitB "bool" "bool" = some true)
  | .int _ => (by decide +kernel : kitB "int" "bool" = some false)
  | .str _ => (by decide +kernel : kitB "str" "bool" = some false)
  | .list _ => (by decide +kernel : kitB "list" "bool" = some false)
  | .tuple _ => (by decide +kernel : kitB "tuple" "bool" = some false)
  | .dict _ => (by decide +kernel : kitB "dict" "bool" = some false)
theorem kitTup : ∀ d : PyData, kitB (tyD d) "tuple" = some (isTupD d)
  | .none => (by decide +kernel : kitB "NoneType" "tuple" = some false)
  | .bool _ => (by decide +kernel : kitB "bool" "tuple" = some false)
  | .int _ => (by decide +kernel : kitB "int" "tuple" = some false)
  | .str _ => (by decide +kernel : kitB "str" "tuple" = some false)
  | .list _ => (by decide +kernel : kitB "list" "tuple" = some false)
  | .tuple _ => (by decide +kernel : kitB "tuple" "tuple" = some true)
  | .dict _ => (by decide +kernel : kitB "dict" "tuple" = some false)
theorem kitStr : ∀ d : PyData, kitB (tyD d) "str" = some (isStrD d)
  | .none => (by decide +kernel : kitB "NoneType" "str" = some false)
  | .bool _ => (by decide +kernel : kitB "bool" "str" = some false)
  | .int _ => (by decide +kernel : kitB "int" "str" = some false)
  | .str _ => (by decide +kernel : kitB "str" "str" = some true)
  | .list _ => (by decide +kernel : kitB "list" "str" = some false)
  | .tuple _ => (by decide +kernel : kitB "tuple" "str" = some false)
  | .dict _ => (by decide +kernel : kitB "dict" "str" = some false)
def wholeD : PyData → Bool
  | .int _ => true
  | _ => false
def worthD : PyData → Bool
  | .int i => decide (0 ≤ i) && decide (i ≤ 1)
  | _ => false
theorem whole_of : ∀ {d : PyData}, isIntD d = true → wholeD d = !isBoolD d
  | .int _, _ => rfl
  | .bool _, _ => rfl
  | .none, h => by cases h
  | .str _, h => by cases h
  | .list _, h => by cases h
  | .tuple _, h => by cases h
  | .dict _, h => by cases h
theorem whole_not : ∀ {d : PyData}, ¬ isIntD d = true → wholeD d = false
  | .int _, h => absurd rfl h
  | .bool _, h => absurd rfl h
  | .none, _ => rfl
  | .str _, _ => rfl
  | .list _, _ => rfl
  | .tuple _, _ => rfl
  | .dict _, _ => rfl
theorem whole_int : ∀ {d : PyData}, wholeD d = true → ∃ i, d = .int i
  | .int i, _ => ⟨i, rfl⟩
  | .bool _, h => by cases h
  | .none, h => by cases h
  | .str _, h => by cases h
  | .list _, h => by cases h
  | .tuple _, h => by cases h
  | .dict _, h => by cases h
theorem worth_not : ∀ {d : PyData}, ¬ wholeD d = true → worthD d = false
  | .int _, h => absurd rfl h
  | .bool _, _ => rfl
  | .none, _ => rfl
  | .str _, _ => rfl
  | .list _, _ => rfl
  | .tuple _, _ => rfl
  | .dict _, _ => rfl
theorem tup_of : ∀ {d : PyData}, isTupD d = true → ∃ ds, d = .tuple ds
  | .tuple ds, _ => ⟨ds, rfl⟩
  | .bool _, h => by cases h
  | .none, h => by cases h
  | .str _, h => by cases h
  | .list _, h => by cases h
  | .int _, h => by cases h
  | .dict _, h => by cases h
def sp_is_whole (K : PySem.W.Frag) : Sp := fun vs H Q _ => ∃ (v : V) (d : PyData), vs = [v] ∧ Sh H v d ∧ Q (.bl (wholeD d)) H
theorem ok_is_whole (T : Tx w K mg) : FnOk P w K mg base CX0 1 T.f_is_whole T.fd_is_whole ["thing"] (sp_is_whole K) := by
  refine T.F_is_whole.ok sc_is_whole (fun vs H Q E h => ?_) (fun cdv A outer s H vs Q E hr h => ?_)
  · obtain ⟨v, d, rfl, _⟩ := h
    rfl
  · obtain ⟨v, d, rfl, sh, q⟩ := h
    refine ⟨_, (pss_one (ps_ret (pe_and (pe_callB call_isi (by rfl) T.m_isinstance (by decide +kernel) (pa_cons (pv 0) (pa_cons (pe_bltn (v := .ty "int") (u := .type "int") (by rfl) T.m_int (by decide +kernel) rfl) pa_nil))) (pe_one (pe_not (pe_callB call_isi (by rfl) T.m_isinstance (by decide +kernel) (pa_cons (pv 0) (pa_cons (pe_bltn (v := .ty "bool") (u := .type "bool") (by rfl) T.m_bool (by decide +kernel) rfl) pa_nil)))))))), ?_⟩
    refine ⟨v, rfl, _, _, _, _, _, rfl, .ty _, sh.ty, kit_ty (kitInt d), _, rfl, ite2 (fun e => ?_) (fun e => ?_)⟩
    · refine ⟨v, rfl, _, _, _, _, _, rfl, .ty _, sh.ty, kit_ty (kitBool d), _, rfl, ?_⟩
      rw [← whole_of e]
      exact q
    · rw [whole_not e] at q
      exact q

end
end Gk

set_option Elab.async false
set_option linter.all false
set_option maxRecDepth 100000
set_option maxHeartbeats 1000000
set_option pp.maxSteps 1500
set_option pp.deepTerms false
namespace Gk
open PySem PySem.Spec PyProof.Rows L2
theorem str_len (x : String) : (Str.ofString x).length = x.length := PySem.ofString_length x

theorem int_weight {i : Int} {k : Nat} (h : i.natAbs < 2 ^ k) : (PyData.int i).weight ≤ k := by
  show (if i == 0 then 0 else i.natAbs.log2 + 1) ≤ k
  by_cases z : i = 0
  · rw [if_pos (by rw [z]; rfl)]
    exact Nat.zero_le _
  · rw [if_neg (by simpa using z)]
    exact (Nat.log2_lt (by omega)).mpr h

/-! ### what is spoilt stays small -/
mutual
def gd (B : Nat) : PyData → Bool
  | .none => true
  | .bool _ => true
  | .int i => decide (i.natAbs ≤ B)
  | .str x => x.cps.toList.all fun c => decide (c < 128)
  | .list xs => gds B xs
  | .tuple xs => gds B xs
  | .dict kvs => kvs.isEmpty
def gds (B : Nat) : List PyData → Bool
  | [] => true
  | x :: r => gd B x && gds B r
end
theorem gds_iff {B : Nat} : ∀ {l : List PyData}, gds B l = true ↔ ∀ x ∈ l, gd B x = true
  | [] => ⟨fun _ x hx => (by cases hx), fun _ => rfl⟩
  | y :: r => by
    show (gd B y && gds B r) = true ↔ _
    rw [Bool.and_eq_true, gds_iff (l := r)]
    exact ⟨fun ⟨a, b⟩ x hx => (List.mem_cons.mp hx).elim (fun e => e ▸ a) (b x), fun h => ⟨h y (List.mem_cons_self ..), fun x hx => h x (List.mem_cons_of_mem _ hx)⟩⟩
mutual
theorem gd_mono {B C : Nat} (h : B ≤ C) : ∀ {d : PyData}, gd B d = true → gd C d = true
  | .none, _ => rfl
  | .bool _, _ => rfl
  | .int _, e => decide_eq_true (Nat.le_trans (of_decide_eq_true e) h)
  | .str _, e => e
  | .list _, e => gds_mono h e
  | .tuple _, e => gds_mono h e
  | .dict _, e => e
theorem gds_mono {B C : Nat} (h : B ≤ C) : ∀ {l : List PyData}, gds B l = true → gds C l = true
  | [], _ => rfl
  | _ :: _, e => by
    have e' := Bool.and_eq_true_iff.mp e
    exact Bool.and_eq_true_iff.mpr ⟨gd_mono h e'.1, gds_mono h e'.2⟩
end
theorem small_log {i : Int} {B : Nat} (h : i.natAbs ≤ B) (hB : B < 2 ^ 190) : i.natAbs.log2 < 190 := by
  by_cases z : i.natAbs = 0
  · rw [z]; decide
  · exact (Nat.log2_lt z).mpr (Nat.lt_of_le_of_lt h hB)
mutual
theorem gd_show {B : Nat} (hB : B < 2 ^ 190) : ∀ {d : PyData}, gd B d = true → d.showable = true ∧ d.leavesShort 200 = true
  | .none, _ => ⟨rfl, rfl⟩
  | .bool _, _ => ⟨rfl, rfl⟩
  | .int i, e => by
    have l := small_log (of_decide_eq_true e) hB
    refine ⟨decide_eq_true (Nat.lt_trans l (by decide)), decide_eq_true ?_⟩
    have := PySem.int_text_length_le (a := i) (k := 190) (by decide) l
    show (Str.ofString (toString i)).length ≤ 200
    rw [str_len]
    omega
  | .str x, e => by
    refine ⟨rfl, ?_⟩
    show (x.cps.toList.all fun c => decide (c < 16 ^ 8)) = true
    refine List.all_eq_true.mpr fun c hc => decide_eq_true (Nat.lt_trans (of_decide_eq_true (List.all_eq_true.mp e c hc)) (by decide))
  | .list _, e => gds_show hB e
  | .tuple _, e => gds_show hB e
  | .dict [], _ => ⟨rfl, rfl⟩
  | .dict (_ :: _), e => by cases e
theorem gds_show {B : Nat} (hB : B < 2 ^ 190) : ∀ {l : List PyData}, gds B l = true → PyData.showableAll l = true ∧ PyData.leavesShortAll 200 l = true
  | [], _ => ⟨rfl, rfl⟩
  | _ :: _, e => by
    have e' := Bool.and_eq_true_iff.mp e
    have a := gd_show hB e'.1
    have b := gds_show hB e'.2
    exact ⟨Bool.and_eq_true_iff.mpr ⟨a.1, b.1⟩, Bool.and_eq_true_iff.mpr ⟨a.2, b.2⟩⟩
end
def Fit (B n m : Nat) (d : PyData) : Prop := gd B d = true ∧ d.weight ≤ n ∧ d.depth ≤ m
def FitL (B n m : Nat) (ds : List PyData) : Prop := gds B ds = true ∧ PyData.weightAll ds ≤ n ∧ PyData.depthAll ds ≤ m
theorem Fit.mono {B n m B' n' m' : Nat} {d : PyData} (h : Fit B n m d) (a : B ≤ B') (b : n ≤ n') (c : m ≤ m') : Fit B' n' m' d := ⟨gd_mono a h.1, Nat.le_trans h.2.1 b, Nat.le_trans h.2.2 c⟩
theorem Fit.tup {B n m : Nat} {ds : List PyData} (h : FitL B n m ds) : Fit B n (m + 1) (.tuple ds) := ⟨h.1, h.2.1, Nat.succ_le_succ h.2.2⟩
theorem Fit.lst {B n m : Nat} {ds : List PyData} (h : FitL B n m ds) : Fit B n (m + 1) (.list ds) := ⟨h.1, h.2.1, Nat.succ_le_succ h.2.2⟩
theorem Fit.inv {B n m : Nat} {ds : List PyData} (h : Fit B n (m + 1) (.tuple ds)) : FitL B n m ds := ⟨h.1, h.2.1, Nat.le_of_succ_le_succ h.2.2⟩
theorem Fit.fine {B n m : Nat} {d : PyData} (h : Fit B n m d) (hB : B < 2 ^ 190) (hn : n ≤ 50000) (hm : m ≤ 50) : d.showable = true ∧ d.shown.length ≤ sizeLine ∧ d.depth ≤ 50 := by
  have s := gd_show hB h.1
  exact ⟨s.1, fine_fits (n := n) (m := m) (fine_iff.mpr ⟨s.1, s.2, h.2.1, h.2.2⟩) hn, Nat.le_trans h.2.2 hm⟩
theorem weight_app : ∀ a b : List PyData, PyData.weightAll (a ++ b) = PyData.weightAll a + PyData.weightAll b
  | [], b => (Nat.zero_add _).symm
  | x :: r, b => by
    show x.weight + 1 + PyData.weightAll (r ++ b) = x.weight + 1 + PyData.weightAll r + PyData.weightAll b
    rw [weight_app r b]
    omega
theorem depth_app : ∀ a b : List PyData, PyData.depthAll (a ++ b) = max (PyData.depthAll a) (PyData.depthAll b)
  | [], b => (Nat.zero_max _).symm
  | x :: r, b => by
    show max x.depth (PyData.depthAll (r ++ b)) = max (max x.depth (PyData.depthAll r)) (PyData.depthAll b)
    rw [depth_app r b, Nat.max_assoc]
theorem FitL.app {B n n' m : Nat} {a b : List PyData} (h : FitL B n m a) (g : FitL B n' m b) : FitL B (n + n') m (a ++ b) := by
  refine ⟨gds_iff.mpr fun x hx => ?_, ?_, ?_⟩
  · rcases List.mem_append.mp hx with z | z
    · exact gds_iff.mp h.1 x z
    · exact gds_iff.mp g.1 x z
  · rw [weight_app]
    exact Nat.add_le_add h.2.1 g.2.1
  · rw [depth_app]
    exact Nat.max_le.mpr ⟨h.2.2, g.2.2⟩
theorem FitL.parts {B n m : Nat} {a b : List PyData} (h : FitL B n m (a ++ b)) : FitL B n m a ∧ FitL B n m b := by
  obtain ⟨h1, h2, h3⟩ := h
  rw [weight_app] at h2
  rw [depth_app] at h3
  exact ⟨⟨gds_iff.mpr fun x hx => gds_iff.mp h1 x (List.mem_append_left _ hx), by omega, by omega⟩, ⟨gds_iff.mpr fun x hx => gds_iff.mp h1 x (List.mem_append_right _ hx), by omega, by omega⟩⟩
theorem FitL.take {B n m : Nat} {a : List PyData} (h : FitL B n m a) (k : Nat) : FitL B n m (a.take k) := by
  rw [← List.take_append_drop k a] at h
  exact h.parts.1
theorem FitL.drop {B n m : Nat} {a : List PyData} (h : FitL B n m a) (k : Nat) : FitL B n m (a.drop k) := by
  rw [← List.take_append_drop k a] at h
  exact h.parts.2
theorem FitL.one {B n m : Nat} {d : PyData} (h : Fit B n m d) : FitL B (n + 1) m [d] := by
  refine ⟨gds_iff.mpr fun x hx => by rw [List.mem_singleton.mp hx]; exact h.1, ?_, ?_⟩
  · show d.weight + 1 + 0 ≤ n + 1
    have := h.2.1
    omega
  · show max d.depth 0 ≤ m
    have := h.2.2
    omega
theorem FitL.get {B n m : Nat} {ds : List PyData} (h : FitL B n m ds) {j : Nat} {d : PyData} (e : ds[j]? = some d) : Fit B n m d := by
  have s : ds = ds.take j ++ [d] ++ ds.drop (j + 1) := by
    obtain ⟨hl, e'⟩ := List.getElem?_eq_some_iff.mp e
    rw [← e', List.append_assoc, List.singleton_append, List.getElem_cons_drop, List.take_append_drop]
  rw [s] at h
  obtain ⟨h1, h2, h3⟩ := h.parts.1.parts.2
  refine ⟨gds_iff.mp h1 d (List.mem_singleton.mpr rfl), ?_, ?_⟩
  · have : d.weight + 1 + 0 ≤ n := h2
    omega
  · have : max d.depth 0 ≤ m := h3
    omega
theorem weight_rev (a : List PyData) : PyData.weightAll a.reverse = PyData.weightAll a := by
  induction a with
  | nil => rfl
  | cons x r ih =>
    rw [List.reverse_cons, weight_app, ih]
    show PyData.weightAll r + (x.weight + 1 + 0) = x.weight + 1 + PyData.weightAll r
    omega
theorem depth_rev (a : List PyData) : PyData.depthAll a.reverse = PyData.depthAll a := by
  induction a with
  | nil => rfl
  | cons x r ih =>
    rw [List.reverse_cons, depth_app, ih]
    show max (PyData.depthAll r) (max x.depth 0) = max x.depth (PyData.depthAll r)
    omega
theorem FitL.rev {B n m : Nat} {a : List PyData} (h : FitL B n m a) : FitL B n m a.reverse :=
  ⟨gds_iff.mpr fun x hx => gds_iff.mp h.1 x (List.mem_reverse.mp hx), by rw [weight_rev]; exact h.2.1, by rw [depth_rev]; exact h.2.2⟩
theorem ShAll.rev {H : Hp} : ∀ {xs : List V} {ds : List PyData}, ShAll H xs ds → ShAll H xs.reverse ds.reverse
  | _, _, .nil => .nil
  | _, _, .cons a r => by
    rw [List.reverse_cons, List.reverse_cons]
    exact (ShAll.rev r).append (.cons a .nil)

section
variable {P : Program} {w : World} {K : PySem.W.Frag} {mg : Str → Option Value} {base : Heap}
/-! ### forms, as data: what is one -/
def wIn : Str := Str.ofString "in"
def wNot : Str := Str.ofString "not"
def wAnd : Str := Str.ofString "and"
def wOr : Str := Str.ofString "or"
def wOne : Str := Str.ofString "one"
def wNou : Str := Str.ofString "nought"
def wireD (w : Int) : PyData → Bool
  | .int i => decide (0 ≤ i) && decide (i < w)
  | _ => false
def stillD (d : PyData) : Bool := sB wOne d || sB wNou d
def restD : PyData → Bool
  | .tuple ps => decide (2 ≤ ps.length) && decide (ps.length ≤ 4)
  | _ => false
def outP (m : Int) (h r : PyData) : Bool := if sB wIn h = true then wireD m r else if (sB wAnd h || sB wOr h) = true then restD r else sB wNot h
def outD (m : Int) : PyData → Bool
  | .tuple ds => (match ds with
    | [x] => stillD x
    | [h, r] => outP m h r
    | _ => false)
  | _ => false
def partsD : PyData → List PyData
  | .tuple ps => ps
  | _ => []
def inP (h r : PyData) : List PyData := if sB wNot h = true then [r] else if (sB wAnd h || sB wOr h) = true then partsD r else []
def inD : PyData → List PyData
  | .tuple ds => (match ds with
    | [h, r] => inP h r
    | _ => [])
  | _ => []
theorem parts_weight (r : PyData) : PyData.weightAll (partsD r) ≤ r.weight := by
  cases r <;> first | exact Nat.le_refl _ | exact Nat.zero_le _
theorem inD_weight (d : PyData) : PyData.weightAll (inD d) ≤ d.weight := by
  match d with
  | .tuple [h, r] =>
    show PyData.weightAll (inP h r) ≤ h.weight + 1 + (r.weight + 1 + 0)
    unfold inP
    split
    · show r.weight + 1 + 0 ≤ _
      omega
    · split
      · have := parts_weight r
        omega
      · exact Nat.zero_le _
  | .tuple [] => exact Nat.zero_le _
  | .tuple [_] => exact Nat.zero_le _
  | .tuple (_ :: _ :: _ :: _) => exact Nat.zero_le _
  | .none => exact Nat.zero_le _
  | .bool _ => exact Nat.zero_le _
  | .int _ => exact Nat.zero_le _
  | .str _ => exact Nat.zero_le _
  | .list _ => exact Nat.zero_le _
  | .dict _ => exact Nat.zero_le _
theorem mem_weight : ∀ {l : List PyData} {x : PyData}, x ∈ l → x.weight + 1 ≤ PyData.weightAll l
  | y :: r, x, h => by
    show _ ≤ y.weight + 1 + PyData.weightAll r
    rcases List.mem_cons.mp h with e | e
    · rw [e]; omega
    · have := mem_weight e
      omega
def isF (m : Int) (d : PyData) : Bool := outD m d && ((inD d).attach.all fun x => isF m x.1)
termination_by d.weight
decreasing_by
  have h1 := mem_weight x.2
  have h2 := inD_weight d
  omega
theorem isF_eq (m : Int) (d : PyData) : isF m d = (outD m d && (inD d).all (isF m)) := by
  rw [isF]
  congr 1
  rw [← List.attach_map_subtype_val (inD d), List.all_map]
  simp
theorem isF_out {m : Int} {d : PyData} (h : outD m d = false) : isF m d = false := by rw [isF_eq, h]; rfl
theorem isF_in {m : Int} {d : PyData} (h : outD m d = true) : isF m d = (inD d).all (isF m) := by rw [isF_eq, h]; rfl

end
end Gk

set_option Elab.async false
set_option linter.all false
set_option maxRecDepth 100000
set_option maxHeartbeats 1000000
set_option pp.maxSteps 1500
set_option pp.deepTerms false
namespace Gk
open PySem PySem.Spec PyProof.Rows L2
/-! ### heaps without some places -/
def hid (as : List Addr) (H : Hp) : Hp := fun b => if b ∈ as then none else H b
theorem hid_at {as : List Addr} {H : Hp} {b : Addr} (h : b ∉ as) : hid as H b = H b := if_neg h
theorem hid_in {as : List Addr} {H : Hp} {b : Addr} (h : b ∈ as) : hid as H b = none := if_pos h
theorem hid_le {as : List Addr} {H : Hp} : Same (hid as H) H := fun b o e => by
  by_cases h : b ∈ as
  · rw [hid_in h] at e; cases e
  · rw [hid_at h] at e; exact e
theorem hid_sub {as bs : List Addr} {H : Hp} (h : ∀ b ∈ bs, b ∈ as) : Same (hid as H) (hid bs H) := fun b o e => by
  by_cases ha : b ∈ as
  · rw [hid_in ha] at e; cases e
  · rw [hid_at ha] at e
    rw [hid_at (fun z => ha (h b z))]
    exact e
theorem hid_same {as : List Addr} {H H' : Hp} (s : Same H H') : Same (hid as H) (hid as H') := fun b o e => by
  by_cases ha : b ∈ as
  · rw [hid_in ha] at e; cases e
  · rw [hid_at ha] at e ⊢
    exact s _ _ e
theorem hid_fr {as : List Addr} {d l : Addr} {H H' : Hp} (f : Fr d l H H') (hd : d ∈ as) (hl : l ∈ as) : Same (hid as H) (hid as H') := fun b o e => by
  by_cases ha : b ∈ as
  · rw [hid_in ha] at e; cases e
  · rw [hid_at ha] at e ⊢
    exact f _ _ (fun z => ha (z ▸ hd)) (fun z => ha (z ▸ hl)) e
theorem hid_upd {as : List Addr} {H : Hp} {p : Addr} {o : HO} (h : p ∈ as) : Same (hid as H) (hid as (upd H p o)) := fun b x e => by
  by_cases ha : b ∈ as
  · rw [hid_in ha] at e; cases e
  · rw [hid_at ha] at e ⊢
    rw [upd_ne (show b ≠ p from fun z => ha (by rw [z]; exact h))]
    exact e

section
variable {P : Program} {w : World} {K : PySem.W.Frag} {mg : Str → Option Value} {base : Heap}
/-! ### forms, of anything -/
theorem out_not {m : Int} : ∀ {d : PyData}, ¬ isTupD d = true → outD m d = false
  | .tuple _, h => absurd rfl h
  | .bool _, _ => rfl
  | .none, _ => rfl
  | .str _, _ => rfl
  | .list _, _ => rfl
  | .int _, _ => rfl
  | .dict _, _ => rfl
theorem out_len {m : Int} : ∀ {ds : List PyData}, ds.length < 1 ∨ 2 < ds.length → outD m (.tuple ds) = false
  | [], _ => rfl
  | [_], h => by simp at h
  | [_, _], h => by simp at h
  | _ :: _ :: _ :: _, _ => rfl
theorem still_find {K : PySem.W.Frag} {a : Addr} (at_ : ∀ z : PySem.Str, KdS.At K a [(("one" : PySem.Str), KdS.Kv.i 1), (("nought" : PySem.Str), KdS.Kv.i 0)] z) (z : Str) : ∃ r : Option Value, PySem.W.nsIn K a z = some r ∧ r.isSome = stillD (.str z) := by
  obtain ⟨r, h1, h2⟩ := at_ z
  refine ⟨r, h1, ?_⟩
  have e : ∀ kv, KdS.find [(("one" : PySem.Str), KdS.Kv.i 1), (("nought" : PySem.Str), KdS.Kv.i 0)] z = some kv → stillD (.str z) = true := fun kv h => by
    unfold KdS.find at h
    by_cases c : (Str.ofString "one") = z
    · show (decide (z = Str.ofString "one") || _) = true
      rw [decide_eq_true c.symm]
      rfl
    · rw [if_neg c] at h
      unfold KdS.find at h
      by_cases c2 : (Str.ofString "nought") = z
      · show (_ || decide (z = Str.ofString "nought")) = true
        rw [decide_eq_true c2.symm, Bool.or_true]
      · rw [if_neg c2] at h
        cases h
  have e2 : KdS.find [(("one" : PySem.Str), KdS.Kv.i 1), (("nought" : PySem.Str), KdS.Kv.i 0)] z = none → stillD (.str z) = false := fun h => by
    unfold KdS.find at h
    by_cases c : (Str.ofString "one") = z
    · rw [if_pos c] at h
      cases h
    · rw [if_neg c] at h
      unfold KdS.find at h
      by_cases c2 : (Str.ofString "nought") = z
      · rw [if_pos c2] at h
        cases h
      · show (decide (z = Str.ofString "one") || decide (z = Str.ofString "nought")) = false
        rw [decide_eq_false fun q => c q.symm, decide_eq_false fun q => c2 q.symm]
        rfl
  rcases h2 with ⟨kv, u, f1, f2, _⟩ | ⟨f1, f2⟩
  · rw [f2, e kv f1]
    rfl
  · rw [f2, e2 f1]
    rfl
theorem any_and_or (h : PyData) : ([wAnd, wOr].any fun z => sB z h) = (sB wAnd h || sB wOr h) := by
  show (sB wAnd h || (sB wOr h || false)) = _
  rw [Bool.or_false]
def sp_is_outside (K : PySem.W.Frag) : Sp := fun vs H Q _ => ∃ (m : Int) (v : V) (d : PyData), vs = [.int m, v] ∧ Sh H v d ∧ (∀ ds, d = .tuple ds → ds.length ≤ 100000) ∧ (∀ a b, d = .tuple [a, b] → ∀ ps, b = .tuple ps → ps.length ≤ 100000) ∧ ∀ H', Same H H' → Q (.bl (outD m d)) H'
theorem ok_is_outside (T : Tx w K mg) : FnOk P w K mg base CX0 2 T.f_is_outside T.fd_is_outside ["many", "thing"] (sp_is_outside K) := by
  refine T.F_is_outside.ok sc_is_outside (fun vs H Q E h => ?_) (fun cdv A outer s H vs Q E hr h => ?_)
  · obtain ⟨m, v, d, rfl, _⟩ := h
    rfl
  · obtain ⟨m, v, d, rfl, sh, few, few2, q⟩ := h
    refine ⟨_, (pss_cons (ps_if (pw_or (pt_not (pt_val (pe_callB call_isi (by rfl) T.m_isinstance (by decide +kernel) (pa_cons (pv 1) (pa_cons (pe_bltn (v := .ty "tuple") (u := .type "tuple") (by rfl) T.m_tuple (by decide +kernel) rfl) pa_nil))))) (pw_or1 (pt_not (pt_chain op_le op_le pe_int (pe_callB call_len_seq (by rfl) T.m_len PySem.boot_len (pa_cons (pv 1) pa_nil)) pe_int)))).pt (pss_one (ps_ret pe_bl)) pss_nil) (pss_cons (ps_if (pt_cmpR op_eq (pe_callB call_len_seq (by rfl) T.m_len PySem.boot_len (pa_cons (pv 1) pa_nil)) pe_int (nomark _)) (pss_one (ps_ret (pe_and (pe_callB call_isi (by rfl) T.m_isinstance (by decide +kernel) (pa_cons (pe_ix ix_tup (pv 1) pe_int (fun _ _ => rfl)) (pa_cons (pe_bltn (v := .ty "str") (u := .type "str") (by rfl) T.m_str (by decide +kernel) rfl) pa_nil))) (pe_one (pe_cmpR (op_in_kd T.kd_STILL.choose_spec.choose_spec) (pe_ix ix_tup (pv 1) pe_int (fun _ _ => rfl)) (pe_glob (v := .ref T.A_STILL) (by rfl) T.gA_STILL rfl) rfl))))) pss_nil) (pss_cons (ps_asg (pv 1) (pg_tup rfl (pgs_cons (pg_name (i := 2) sc_is_outside.nd rfl (by first | exact .inl rfl | exact .inr rfl)) (pgs_cons (pg_name (i := 3) sc_is_outside.nd rfl (by first | exact .inl rfl | exact .inr rfl)) pgs_nil)))) (pss_cons (ps_if (pt_cmpR (EqS.op_eqS (EqS.u0 hr.units)) (pv 2) pe_str (nomark _)) (pss_one (ps_ret (pe_and (pe_call (ok_is_whole T) (hr.mono (by decide)) (by rfl) T.g_is_whole T.F_is_whole.kp T.b_is_whole .nil pass0 (pa_cons (pv 3) pa_nil)) (pe_one (pe_chain op_le op_lt pe_int (pv 3) (pv 0)))))) pss_nil) (pss_cons (ps_if (pt_cmpR (EqS.op_inS (EqS.u1 hr.units)) (pv 2) (pe_tup (pa_cons pe_str (pa_cons pe_str pa_nil))) rfl) (pss_one (ps_ret (pe_and (pe_callB call_isi (by rfl) T.m_isinstance (by decide +kernel) (pa_cons (pv 3) (pa_cons (pe_bltn (v := .ty "tuple") (u := .type "tuple") (by rfl) T.m_tuple (by decide +kernel) rfl) pa_nil))) (pe_one (pe_chain op_le op_le (pe_glob (v := .int 2) (by rfl) T.k_LEAST_PARTS.choose_spec ⟨_, rfl⟩) (pe_callB call_len_seq (by rfl) T.m_len PySem.boot_len (pa_cons (pv 3) pa_nil)) (pe_glob (v := .int 4) (by rfl) T.k_MOST_PARTS.choose_spec ⟨_, rfl⟩)))))) pss_nil) (pss_one (ps_ret (pe_cmpR (EqS.op_eqS (EqS.u0 hr.units)) (pv 2) pe_str (nomark _))))))))), ?_⟩
    refine ⟨v, rfl, _, _, _, _, _, rfl, .ty _, sh.ty, kit_ty (kitTup d), _, rfl, ite2 (fun nt => ?_) (fun it => ?_)⟩
    · have q := q H (Same.refl _)
      rw [out_not (fun z => by rw [z] at nt; cases nt)] at q
      exact iteT q
    obtain ⟨ds, rfl⟩ := tup_of (notF it)
    have few := few ds rfl
    obtain ⟨a, xs, rfl, ha, t⟩ : ∃ a xs, v = .ref a ∧ H a = some (.tup xs) ∧ ShAll H xs ds := by
      cases sh with
      | @tup a xs _ ha t => exact ⟨a, xs, rfl, ha, t⟩
    have lx := t.length
    refine ⟨.ref a, rfl, a, xs, rfl, .inr (SqT.of ha), _, _, rfl, rfl, _, rfl, ite2 (fun e1 => ?_) (fun e1 => ?_)⟩
    rotate_left
    · have n0 : xs.length < 1 := by
        by_cases z : xs.length < 1
        · exact z
        · exact absurd (decide_eq_true (show (1 : Int) ≤ (xs.length : Int) by omega)) e1
      have q := q H (Same.refl _)
      rw [out_len (.inl (by omega))] at q
      exact ⟨_, rfl, iteT q⟩
    refine ⟨_, _, rfl, rfl, _, rfl, ite2 (fun e2 => ?_) (fun e2 => ?_)⟩
    · have n0 : 2 < xs.length := by
        have := notT e2
        by_cases z : 2 < xs.length
        · exact z
        · exact absurd (decide_eq_true (show (xs.length : Int) ≤ 2 by omega)) this
      have q := q H (Same.refl _)
      rw [out_len (.inr (by omega))] at q
      exact q
    have n1 : (1 : Int) ≤ (xs.length : Int) := of_decide_eq_true e1
    have n2 : (xs.length : Int) ≤ 2 := of_decide_eq_true (notF e2)
    clear e1 e2
    match ds, t, few2, q with
    | [], .nil, _, _ => exact absurd n1 (by decide)
    | [x], .cons (v := v0) t0 .nil, _, q =>
      refine ⟨.ref a, rfl, a, _, rfl, .inr (SqT.of ha), rfl, _, rfl, iteT ?_⟩
      have q : ∀ H', Same H H' → Q (.bl (stillD x)) H' := q
      refine ⟨.ref a, rfl, a, _, 0, v0, rfl, rfl, SqT.of ha, rfl, _, _, _, _, _, rfl, .ty _, t0.ty, kit_ty (kitStr x), _, rfl, ite2 (fun e => ?_) (fun e => ?_)⟩
      · obtain ⟨z, rfl⟩ : ∃ z, x = .str z := by
          cases x <;> first | exact ⟨_, rfl⟩ | cases e
        cases t0
        obtain ⟨r, hr1, hr2⟩ := still_find T.kv_STILL z
        refine ⟨.ref a, rfl, a, _, 0, .str z, rfl, rfl, SqT.of ha, rfl, z, r, rfl, rfl, hr1, ?_⟩
        rw [hr2]
        exact q H (Same.refl _)
      · have no : stillD x = false := by
          cases x <;> first | rfl | exact absurd rfl e
        have q := q H (Same.refl _)
        rw [no] at q
        exact q
    | [h, r], .cons (v := v0) t0 (.cons (v := v1) t1 .nil), few2, q =>
      refine ⟨.ref a, rfl, a, _, rfl, .inr (SqT.of ha), rfl, _, rfl, iteF ?_⟩
      have q : ∀ H', Same H H' → Q (.bl (outP m h r)) H' := q
      unfold outP at q
      refine ⟨.ref a, rfl, a, _, rfl, SqT.of ha, rfl, _, _, rfl, _, _, rfl, rfl, ?_⟩
      refine ⟨v0, rfl, h, wIn, t0, rfl, _, rfl, ite2 (fun e => ?_) (fun e => ?_)⟩
      · simp only [if_pos e] at q
        have q := q H (Same.refl _)
        refine ⟨v1, rfl, v1, r, rfl, t1, _, rfl, ite2 (fun e2 => ?_) (fun e2 => ?_)⟩
        · obtain ⟨i, rfl⟩ := whole_int e2
          cases t1
          have q : Q (.bl (decide (0 ≤ i) && decide (i < m))) H := q
          refine ⟨.int i, rfl, _, _, rfl, rfl, _, rfl, ite2 (fun a1 => ?_) (fun a1 => ?_)⟩
          · rw [a1, Bool.true_and] at q
            exact ⟨.int m, rfl, _, _, rfl, rfl, q⟩
          · rw [eq_false_of_ne_true a1, Bool.false_and] at q
            exact q
        · have no : wireD m r = false := by
            cases r <;> first | rfl | exact absurd rfl e2
          rw [no] at q
          exact q
      · simp only [if_neg e] at q
        refine ⟨v0, rfl, sl2, fun p np => ?_⟩
        have s1 := same_upd (o := HO.tup [V.str wAnd, V.str wOr]) np
        have t0' := t0.same s1
        have t1' := t1.same s1
        refine ⟨h, p, [wAnd, wOr], t0', rfl, upd_same, _, rfl, ?_⟩
        rw [any_and_or]
        refine ite2 (fun e2 => ?_) (fun e2 => ?_)
        · simp only [if_pos e2] at q
          refine ⟨v1, rfl, _, _, _, _, _, rfl, .ty _, t1'.ty, kit_ty (kitTup r), _, rfl, ite2 (fun e3 => ?_) (fun e3 => ?_)⟩
          · obtain ⟨ps, rfl⟩ := tup_of e3
            have q : Q (.bl (decide (2 ≤ ps.length) && decide (ps.length ≤ 4))) _ := q _ s1
            obtain ⟨b, ys, rfl, hb, tb⟩ : ∃ b ys, v1 = .ref b ∧ upd H p (HO.tup [V.str wAnd, V.str wOr]) b = some (.tup ys) ∧ ShAll _ ys ps := by
              cases t1' with
              | @tup b ys _ hb tb => exact ⟨b, ys, rfl, hb, tb⟩
            have ly := tb.length
            have d1 : decide (2 ≤ ps.length) = decide ((2 : Int) ≤ (ys.length : Int)) := decide_eq_decide.mpr ⟨fun z => by omega, fun z => by omega⟩
            have d2 : decide (ps.length ≤ 4) = decide ((ys.length : Int) ≤ 4) := decide_eq_decide.mpr ⟨fun z => by omega, fun z => by omega⟩
            rw [d1, d2] at q
            refine ⟨.ref b, rfl, b, ys, rfl, .inr (SqT.of hb), _, _, rfl, rfl, _, rfl, ite2 (fun a1 => ?_) (fun a1 => ?_)⟩
            · rw [a1, Bool.true_and] at q
              exact ⟨_, _, rfl, rfl, q⟩
            · rw [eq_false_of_ne_true a1, Bool.false_and] at q
              exact q
          · have q := q _ s1
            have no : restD r = false := by
              cases r <;> first | rfl | exact absurd rfl e3
            rw [no] at q
            exact q
        · simp only [if_neg e2] at q
          exact ⟨v0, rfl, h, wNot, t0', rfl, q _ s1⟩
    | _ :: _ :: _ :: _, .cons _ (.cons _ (.cons _ _)), _, _ =>
      exfalso
      simp at n2
      omega
/-- what a form has within -/
def sp_inner_of (K : PySem.W.Frag) (m : Int) : Sp := fun vs H Q _ => ∃ (as : List Addr) (v : V) (d : PyData), vs = [v] ∧ Sh (hid as H) v d ∧ outD m d = true ∧ ∀ H' a xs, Same H H' → H' a = some (.tup xs) → ShAll (hid as H') xs (inD d) → Q (.ref a) H'
theorem ok_inner_ofM (T : Tx w K mg) (m : Int) : FnOk P w K mg base CX0 1 T.f_inner_of T.fd_inner_of ["form"] (sp_inner_of K m) := by
  refine T.F_inner_of.ok sc_inner_of (fun vs H Q E h => ?_) (fun cdv A outer s H vs Q E hr h => ?_)
  · obtain ⟨as, v, d, rfl, _⟩ := h
    rfl
  · obtain ⟨as, v, d, rfl, sh, ho, q⟩ := h
    refine ⟨_, (pss_cons (ps_if (pt_cmpR (EqS.op_eqS (EqS.u0 hr.units)) (pe_ix ix_tup (pv 0) pe_int (fun _ _ => rfl)) pe_str (nomark _)) (pss_one (ps_ret (pe_tup (pa_cons (pe_ix ix_tup (pv 0) pe_int (fun _ _ => rfl)) pa_nil)))) pss_nil) (pss_one (ps_ret (pe_ifExp (pt_cmpR (EqS.op_inS (EqS.u1 hr.units)) (pe_ix ix_tup (pv 0) pe_int (fun _ _ => rfl)) (pe_tup (pa_cons pe_str (pa_cons pe_str pa_nil))) rfl) (pe_ix ix_tup (pv 0) pe_int (fun _ _ => rfl)) (pe_tup pa_nil))))), ?_⟩
    obtain ⟨ds, rfl⟩ : ∃ ds, d = .tuple ds := by
      by_cases z : isTupD d = true
      · exact tup_of z
      · rw [out_not z] at ho
        cases ho
    obtain ⟨a, xs, rfl, ha0, t⟩ : ∃ a xs, v = .ref a ∧ hid as H a = some (.tup xs) ∧ ShAll (hid as H) xs ds := by
      cases sh with
      | @tup a xs _ ha t => exact ⟨a, xs, rfl, ha, t⟩
    have ha : H a = some (.tup xs) := hid_le _ _ ha0
    have nil : ∀ (H1 : Hp), Same H H1 → inD (.tuple ds) = [] → ∀ p, H1 p = none → Q (.ref p) (upd H1 p (.tup [])) := fun H1 s1 e p np => by
      refine q _ p [] (s1.trans (same_upd np)) upd_same ?_
      rw [e]
      exact .nil
    match ds, t, ho with
    | [], .nil, ho => cases ho
    | [x], .cons (v := v0) t0 .nil, ho =>
      have nos : sB wNot x = false ∧ (sB wAnd x || sB wOr x) = false := by
        have ho : stillD x = true := ho
        cases x with
        | str z =>
          have ho : (decide (z = wOne) || decide (z = wNou)) = true := ho
          have : z = wOne ∨ z = wNou := by
            rw [Bool.or_eq_true] at ho
            rcases ho with k | k
            · exact .inl (of_decide_eq_true k)
            · exact .inr (of_decide_eq_true k)
          rcases this with rfl | rfl <;> decide +kernel
        | _ => cases ho
      refine ⟨.ref a, rfl, a, _, 0, v0, rfl, rfl, SqT.of ha, rfl, x, wNot, t0.same hid_le, rfl, _, rfl, ?_⟩
      rw [nos.1]
      refine iteF ?_
      refine ⟨.ref a, rfl, a, _, 0, v0, rfl, rfl, SqT.of ha, rfl, sl2, fun p np => ?_⟩
      have s1 := same_upd (o := HO.tup [V.str wAnd, V.str wOr]) np
      refine ⟨x, p, [wAnd, wOr], (t0.same hid_le).same s1, rfl, upd_same, _, rfl, ?_⟩
      rw [any_and_or, nos.2]
      exact iteF ⟨Nat.zero_le _, fun p2 np2 => nil _ s1 rfl p2 np2⟩
    | [h, r], .cons (v := v0) t0 (.cons (v := v1) t1 .nil), ho =>
      have ei : inD (.tuple [h, r]) = inP h r := rfl
      unfold inP at ei
      refine ⟨.ref a, rfl, a, _, 0, v0, rfl, rfl, SqT.of ha, rfl, h, wNot, t0.same hid_le, rfl, _, rfl, ite2 (fun e => ?_) (fun e => ?_)⟩
      · rw [if_pos e] at ei
        refine ⟨.ref a, rfl, a, _, 1, v1, rfl, rfl, SqT.of ha, rfl, sl1, fun p np => ?_⟩
        have s1 := same_upd (o := HO.tup [v1]) np
        refine q _ p [v1] s1 upd_same ?_
        rw [ei]
        exact .cons (t1.same (hid_same s1)) .nil
      · rw [if_neg e] at ei
        refine ⟨.ref a, rfl, a, _, 0, v0, rfl, rfl, SqT.of ha, rfl, sl2, fun p np => ?_⟩
        have s1 := same_upd (o := HO.tup [V.str wAnd, V.str wOr]) np
        refine ⟨h, p, [wAnd, wOr], (t0.same hid_le).same s1, rfl, upd_same, _, rfl, ?_⟩
        rw [any_and_or]
        refine ite2 (fun e2 => ?_) (fun e2 => ?_)
        · rw [if_pos e2] at ei
          have ho : outP m h r = true := ho
          have hr' : restD r = true := by
            unfold outP at ho
            by_cases z : sB wIn h = true
            · exfalso
              cases h with
              | str y =>
                have z : y = wIn := of_decide_eq_true z
                subst z
                revert e2
                decide +kernel
              | _ => cases z
            · rw [if_neg z, if_pos e2] at ho
              exact ho
          obtain ⟨ps, rfl⟩ : ∃ ps, r = .tuple ps := by
            cases r <;> first | exact ⟨_, rfl⟩ | cases hr'
          obtain ⟨b, ys, rfl, hb, tb⟩ : ∃ b ys, v1 = .ref b ∧ hid as H b = some (.tup ys) ∧ ShAll (hid as H) ys ps := by
            cases t1 with
            | @tup b ys _ hb tb => exact ⟨b, ys, rfl, hb, tb⟩
          refine ⟨.ref a, rfl, a, _, 1, .ref b, rfl, rfl, SqT.of (s1 _ _ ha), rfl, ?_⟩
          refine q _ b ys s1 (s1 _ _ (hid_le _ _ hb)) ?_
          rw [ei]
          exact tb.same (hid_same s1)
        · rw [if_neg e2] at ei
          exact ⟨Nat.zero_le _, fun p2 np2 => nil _ s1 ei p2 np2⟩
    | _ :: _ :: _ :: _, .cons _ (.cons _ (.cons _ _)), ho => cases ho
def sp_inner_ofE (K : PySem.W.Frag) : Sp := fun vs H Q E => ∃ m, sp_inner_of K m vs H Q E
theorem ok_inner_of (T : Tx w K mg) : FnOk P w K mg base CX0 1 T.f_inner_of T.fd_inner_of ["form"] (sp_inner_ofE K) :=
  ⟨fun vs H Q E ⟨m, h⟩ => (ok_inner_ofM (P := P) (base := base) T m).len vs H Q E h, fun A outer s H args us vs Q E hr e0 hb r ⟨m, h⟩ => (ok_inner_ofM (P := P) (base := base) T m).run A outer s H args us vs Q E hr e0 hb r h⟩
theorem lenW : ∀ ds : List PyData, ds.length ≤ PyData.weightAll ds
  | [] => Nat.le_refl _
  | d :: r => by
    have := lenW r
    show r.length + 1 ≤ d.weight + 1 + PyData.weightAll r
    omega
/-- whether a thing is a form -/
def sp_is_form (K : PySem.W.Frag) : Sp := fun vs H Q _ => ∃ (m : Int) (v : V) (d : PyData), vs = [.int m, v] ∧ Sh H v d ∧ d.weight ≤ 50000 ∧ ∀ H', Same H H' → Q (.bl (isF m d)) H'
theorem ok_is_form (T : Tx w K mg) : FnOk P w K mg base CX0 3 T.f_is_form T.fd_is_form ["many", "thing"] (sp_is_form K) := by
  refine T.F_is_form.ok sc_is_form (fun vs H Q E h => ?_) (fun cdv A outer s H vs Q E hr h => ?_)
  · obtain ⟨m, v, d, rfl, _⟩ := h
    rfl
  · obtain ⟨m, v, d, rfl, sh, wt, q⟩ := h
    refine ⟨_, (pss_cons (ps_set (i := 2) sc_is_form.nd rfl (by first | exact .inl rfl | exact .inr rfl) (pe_lst (pa_cons (pv 1) pa_nil))) (pss_cons (ps_while PassesOwn.never (pt_truth (pv 2) (by intro _; rfl)) (pss_cons (ps_set (i := 3) sc_is_form.nd rfl (by first | exact .inl rfl | exact .inr rfl) (pe_bm0 PySem.F.plainAttrs_list PySem.F.slot_list_pop PySem.F.type_list_pop mt_pop (pv 2))) (pss_cons (ps_if (pt_not (pt_val (pe_call (ok_is_outside T) (hr.mono (by decide)) (by rfl) T.g_is_outside T.F_is_outside.kp T.b_is_outside .nil pass0 (pa_cons (pv 0) (pa_cons (pv 3) pa_nil))))) (pss_one (ps_ret pe_bl)) pss_nil) (pss_one (ps_expr (pe_bm PySem.F.plainAttrs_list PySem.F.slot_list_extend PySem.F.type_list_extend ExT.mt_extendT (pv 2) (pa_cons (pe_call (ok_inner_of T) (hr.mono (by decide)) (by rfl) T.g_inner_of T.F_inner_of.kp T.b_inner_of .nil pass0 (pa_cons (pv 3) pa_nil)) pa_nil))))))) (pss_one (ps_ret pe_bl)))), ?_⟩
    refine ⟨v, rfl, sl1, fun L nL => ?_⟩
    have s1 := same_upd (o := (HO.lst [v])) nL
    have hL : upd H L (HO.lst [v]) L = some (HO.lst [v]) := upd_same
    generalize upd H L (HO.lst [v]) = H1 at s1 hL ⊢
    have nin : ∀ {b o}, H b = some o → b ∉ [L] := fun e z => by
      rw [List.mem_singleton.mp z, nL] at e
      cases e
    have k1 : ∀ {H' : Hp}, Same H H' → Same H (hid [L] H') := fun s b o e => by
      rw [hid_at (nin e)]
      exact s b o e
    refine ⟨fun n σ H' => ∃ y vs ds, σ = [some (.int m), some v, some (.ref L), y] ∧ Same H (hid [L] H') ∧ H' L = some (.lst vs) ∧ ShAll (hid [L] H') vs ds ∧ PyData.weightAll ds = n ∧ n ≤ 50001 ∧ isF m d = ds.all (isF m), ⟨_, _, [v], [d], rfl, k1 s1, hL, .cons (sh.same (k1 s1)) .nil, rfl, by show d.weight + 1 + 0 ≤ _; omega, by rw [List.all_cons, List.all_nil, Bool.and_true]⟩, ?_⟩
    rintro n σ H2 ⟨y, vs, ds, rfl, s2, hL2, t2, wn, nl, ev⟩
    have lvs := t2.length
    refine ⟨.ref L, rfl, !vs.isEmpty, .inl ⟨vs, SqL.of hL2, rfl⟩, ?_⟩
    by_cases em : vs = []
    · subst em
      have : ds = [] := List.eq_nil_of_length_eq_zero lvs.symm
      subst this
      refine iteF ?_
      have q := q H2 (fun b o e => hid_le _ _ (s2 b o e))
      rw [ev] at q
      exact q
    obtain ⟨ws, u, rfl⟩ : ∃ ws u, vs = ws ++ [u] := ⟨vs.dropLast, vs.getLast em, (List.dropLast_concat_getLast em).symm⟩
    have ne : (!(ws ++ [u]).isEmpty) = true := by cases ws <;> rfl
    rw [ne]
    obtain ⟨es, e, rfl, te, tu⟩ : ∃ es e, ds = es ++ [e] ∧ ShAll (hid [L] H2) ws es ∧ Sh (hid [L] H2) u e := by
      have hd : ds ≠ [] := fun z => by rw [z] at lvs; simp at lvs
      refine ⟨ds.dropLast, ds.getLast hd, (List.dropLast_concat_getLast hd).symm, ?_, ?_⟩
      · have := t2.take ws.length
        rw [List.take_left'  rfl] at this
        have l2 : ws.length = ds.length - 1 := by rw [← lvs, List.length_append]; rfl
        rw [l2, ← List.dropLast_eq_take] at this
        exact this
      · obtain ⟨e, he, te⟩ := t2.get (show (ws ++ [u])[ws.length]? = some u by rw [List.getElem?_append_right (Nat.le_refl _), Nat.sub_self]; rfl)
        have l2 : ws.length = ds.length - 1 := by rw [← lvs, List.length_append]; rfl
        rw [l2, ← List.getLast?_eq_getElem?, List.getLast?_eq_some_getLast hd] at he
        rw [Option.some.inj he]
        exact te
    rw [weight_app] at wn
    have wn : PyData.weightAll es + (e.weight + 1 + 0) = n := wn
    refine iteT ⟨fun σ' H' => ∃ m', m' < n ∧ ∃ y vs ds, σ' = [some (.int m), some v, some (.ref L), y] ∧ Same H (hid [L] H') ∧ H' L = some (.lst vs) ∧ ShAll (hid [L] H') vs ds ∧ PyData.weightAll ds = m' ∧ m' ≤ 50001 ∧ isF m d = ds.all (isF m), fun σ' H' h => h, ?_⟩
    refine ⟨.ref L, rfl, .inl ⟨rfl, _, SqL.of hL2⟩, L, ws ++ [u], u, rfl, rfl, hL2, by rw [List.length_append]; show (ws ++ [u])[ws.length + 1 - 1]? = _; rw [Nat.add_sub_cancel, List.getElem?_append_right (Nat.le_refl _), Nat.sub_self]; rfl, ?_⟩
    rw [List.dropLast_concat]
    have h3 := hid_upd (as := [L]) (H := H2) (o := .lst ws) (List.mem_singleton.mpr rfl)
    have hL3 : upd H2 L (.lst ws) L = some (.lst ws) := upd_same
    have nall : ∀ b : Bool, outD m e = false → isF m d = false := fun _ z => by
      rw [ev, List.all_append, List.all_cons, isF_out z, Bool.false_and, Bool.and_false]
    generalize upd H2 L (.lst ws) = H3 at h3 hL3 ⊢
    have s3 := s2.trans h3
    have te3 := te.same h3
    have tu3 := tu.same h3
    refine ⟨.int m, rfl, u, rfl, m, u, e, rfl, tu3.same hid_le, fun fs z => ?_, fun a b z ps zb => ?_, fun H4 s4 => ⟨_, rfl, ite2 (fun no => ?_) (fun yes => ?_)⟩⟩
    · subst z
      have := lenW fs
      have w : (PyData.tuple fs).weight = PyData.weightAll fs := rfl
      omega
    · subst z zb
      have := lenW ps
      have w : (PyData.tuple [a, .tuple ps]).weight = a.weight + 1 + (PyData.weightAll ps + 1 + 0) := rfl
      omega
    · have q := q H4 (fun b o z => s4 _ _ (hid_le _ _ (s3 b o z)))
      rw [nall true (by cases h : outD m e; rfl; rw [h] at no; cases no)] at q
      exact q
    have yes := notF yes
    have s4' := s3.trans (hid_same s4)
    have hL4 := s4 _ _ hL3
    refine ⟨.ref L, rfl, .inl ⟨rfl, _, SqL.of hL4⟩, u, rfl, m, [L], u, e, rfl, tu3.same (hid_same s4), yes, fun H5 a xs s5 ha txs => ?_⟩
    have hL5 := s5 _ _ hL4
    have lw := inD_weight e
    have lxs := txs.length
    have lws := te.length
    have l1 := lenW es
    have l2 := lenW (inD e)
    refine ⟨L, a, ws, xs, rfl, rfl, hL5, SqT.of ha, Nat.le_trans (show ws.length + xs.length ≤ 200000 by omega) (by decide), ?_⟩
    have h6 := hid_upd (as := [L]) (H := H5) (o := .lst (ws ++ xs)) (List.mem_singleton.mpr rfl)
    refine ⟨PyData.weightAll (es ++ inD e), ?_, _, ws ++ xs, es ++ inD e, rfl, (s4'.trans (hid_same s5)).trans h6, upd_same, ((te3.same (hid_same s4)).same (hid_same s5) |>.append txs).same h6, rfl, ?_, ?_⟩
    · rw [weight_app]; omega
    · rw [weight_app]; omega
    · rw [ev, List.all_append, List.all_append, List.all_cons, List.all_nil, Bool.and_true, isF_in yes]

end
end Gk

set_option Elab.async false
set_option linter.all false
set_option maxRecDepth 100000
set_option maxHeartbeats 1000000
set_option pp.maxSteps 1500
set_option pp.deepTerms false
namespace Gk
open PySem PySem.Spec PyProof.Rows L2
/-! ### range(n) as a value -/
namespace RngV
theorem cr_range1 {X : Cx} : CallR X (.type "range") (fun vs H Q => ∃ n : Int, vs = [V.int n] ∧ ∀ p, H p = none → Q (.ref p) (upd H p (.rng 0 n))) := by
  intro pins s σ H vs us Q I r h
  obtain ⟨n, rfl, q⟩ := h
  obtain ⟨u1, rfl, ri⟩ := vals1 r
  obtain ⟨t, rfl⟩ := ri
  refine call_range_1 ⟨.ref s.heap.objs.size, upd H s.heap.objs.size (.rng 0 n), I.laid (t' := s.toks + 1 + 1) (fun b o e => Heap.get?_push_of_some _ e) (Nat.le_refl _) ?_, rfl, q _ (I.hok.fresh (Nat.le_refl _))⟩
  exact ⟨_, _, _, Heap.get?_push_size _ rfl⟩
end RngV

/-! ### a tuple told backwards: t[::-1]; and == against nothing -/
namespace TupRev
section
open PySem.W PySem.Calls HT
variable {prog : Program} {w : World} {A : Around} {E : Value → Shared → Prop} {s : Shared}
theorem adj_rev (n : Nat) : Builtin.Slice.sliceAdjust none none (-1) (n : Int) = ((n : Int) - 1, -1) := by
  first
    | rfl
    | simp [Builtin.Slice.sliceAdjust]
theorem places_rev (n : Nat) : Builtin.Slice.slicePlaces ((n : Int) - 1) (-1) (-1) = n := by
  unfold Builtin.Slice.slicePlaces
  by_cases h : n = 0
  · subst h
    decide
  · simp
    omega
theorem applied_rev {sl : Addr} {vl vu vs : Value} {n : Nat} {Q : Int × Int × Nat → Shared → Prop} (slice : s.heap.IsSliceOf sl vl vu vs) (pl : IsPart vl none) (pu : IsPart vu none) (ps : IsPart vs (some (-1))) (fin : Q ((n : Int) - 1, -1, n) s) :
    wpAny (model prog w) A (Builtin.Slice.sliceApplied (.ref sl) (pure (n : Int))) Q E s := by
  obtain ⟨o, ho, hc, parts⟩ := id slice
  unfold Builtin.Slice.sliceApplied Builtin.Slice.sliceFields
  refine wpAny_bind (wpAny_bind (wpAny_field ho parts (x := vl) rfl (wpAny_bind (wpAny_field ho parts (x := vu) rfl (wpAny_bind (wpAny_field ho parts (x := vs) rfl (wpAny_pure ?_)))))))
  refine wpAny_bind (slicePart_ ps ?_)
  show wpAny _ _ (if ((-1 : Int) == 0) = true then _ else _) _ _ s
  rw [if_neg (show ¬ _ by decide)]
  refine wpAny_bind (slicePart_ pl (wpAny_bind (slicePart_ pu (wpAny_bind (wpAny_pure (?_))))))
  show wpAny _ _ (match Builtin.Slice.sliceAdjust none none (-1) (n : Int) with | (a, b) => pure (a, (-1 : Int), Builtin.Slice.slicePlaces a b (-1))) _ _ s
  rw [adj_rev]
  show wpAny _ _ (pure ((n : Int) - 1, (-1 : Int), Builtin.Slice.slicePlaces ((n : Int) - 1) (-1) (-1))) _ _ s
  rw [places_rev]
  exact wpAny_pure fin
theorem pick_rev (xs : Array Value) : ((List.range xs.size).filterMap fun (k : Nat) => xs[((xs.size : Int) - 1 + (k : Int) * (-1)).toNat]?).toArray = xs.toList.reverse.toArray := by
  have e : ((List.range xs.size).filterMap fun (k : Nat) => xs[((xs.size : Int) - 1 + (k : Int) * (-1)).toNat]?) = ((List.range xs.size).map fun k => xs.size - 1 - k).filterMap (xs[·]?) := by
    rw [List.filterMap_map]
    congr 1
    funext k
    show xs[((xs.size : Int) - 1 + (k : Int) * (-1)).toNat]? = xs[xs.size - 1 - k]?
    rw [show ((xs.size : Int) - 1 + (k : Int) * (-1)).toNat = xs.size - 1 - k by omega]
  rw [e, krv_range, List.filterMap_reverse, krv_all]
theorem item_rev {t sl : Addr} {xs : Array Value} {vl vu vs : Value} {Q : Value → Shared → Prop} (tup : IsTup s.heap t xs) (slice : s.heap.IsSliceOf sl vl vu vs) (pl : IsPart vl none) (pu : IsPart vu none) (ps : IsPart vs (some (-1)))
    (fin : Q (.ref s.heap.objs.size) { s with heap := s.heap.push { cls := .type "tuple", data := .seq xs.toList.reverse.toArray } }) (few : xs.size ≤ sizeLine) : wpAny (model prog w) A (getItem (.ref t) (.ref sl)) Q E s := by
  have fits : sizeOk (.seq xs.toList.reverse.toArray) := by
    show xs.toList.reverse.toArray.size ≤ sizeLine
    rw [List.size_toArray, List.length_reverse, Array.length_toList]
    exact few
  obtain ⟨o, ho, hc, parts⟩ := id slice
  have ty : s.TypeIs (.ref sl) "slice" := ⟨o, ho, hc⟩
  unfold getItem
  (try with_reducible refine wpAny_holding (?_)); (first | refine wpAny_bind (wpAny_pure (?_)) | skip)
  refine wpAny_bind (wpAny_sequenceKey tup.typeIs (by decide) ?_)
  refine wpAny_bind (wpAny_callSpecial?_slot (name := Str.ofString "__getitem__") tup.typeIs PyProof.Rows.slot_tuple_getitem (wpAny_call_entry PyProof.Rows.slot_tuple_getitem tup.typeIs entry_tuple_getitem ?_ (args_tuple_getitem _ _)))
  show wpAny _ _ (Builtin.Tuple.tupleItemsOf (Value.ref t) >>= _) _ _ s
  refine wpAny_bind (tupleItemsOf_ tup (wpAny_bind (wpAny_typeOf ty ?_)))
  rw [if_pos (show _ by decide)]
  refine wpAny_bind (applied_rev slice pl pu ps ?_)
  have no : ¬ ((((xs.size : Int) - 1) == 0 && (-1 : Int) == 1 && xs.size == xs.size) = true) := by
    intro z
    rw [Bool.and_eq_true, Bool.and_eq_true] at z
    have := z.1.2
    revert this
    decide
  show wpAny _ _ (if ((((xs.size : Int) - 1) == 0 && (-1 : Int) == 1 && xs.size == xs.size)) = true then _ else _) _ _ s
  rw [if_neg no, pick_rev]
  first
    | exact wpAny_bind (m := Builtin.Tuple.tupleExact _) (wpAny_newObj_type (wpAny_pure ⟨_, rfl, wpAny_pure fin⟩) fits)
    | exact wpAny_bind (m := Builtin.Tuple.tupleExact _) (wpAny_newObj_type (wpAny_bind (wpAny_pure (wpAny_pure ⟨_, rfl, wpAny_pure fin⟩))) fits)
    | exact wpAny_bind (wpAny_bind (m := Builtin.Tuple.tupleExact _) (wpAny_newObj_type (wpAny_pure (wpAny_pure ⟨_, rfl, wpAny_pure fin⟩)) fits))
    | exact wpAny_bind (wpAny_bind (m := Builtin.Tuple.tupleExact _) (wpAny_newObj_type (wpAny_pure ⟨_, rfl, wpAny_pure fin⟩) fits))
end
section
variable {X : Cx}
def tRevT (K : PySem.W.Frag) (te : TE) : TE := fun σ H Q => te σ H fun x H1 => ∃ a xs, x = .ref a ∧ SqT K H1 a xs ∧ ∀ p, H1 p = none → Q (.ref p) (upd H1 p (.tup xs.reverse))
theorem pe_revT {e : Expr} {te : TE} {k : Nat} {p1 p2 p3 pos : Pos} (he : PE X e te) : PE X (.Subscript e (.Slice none none (some (.UnaryOp .USub (.Constant (.int 1) k p1) p2)) p3) pos) (tRevT X.K te) := by
  refine ⟨fun pins s σ H Q I told => Subscript_ (thn (he.run pins s σ H _ I told) ?_)⟩
  rintro v s1 ⟨x, H1, I1, r1, a, xs, rfl, tup, q⟩
  cases r1
  have back : PO X (some (.UnaryOp .USub (.Constant (.int 1) k p1) p2)) (tPart (tUn (rU fun i => .int (-i)) (tC (.int 1)))) := po_some (pe_un un_neg pe_int)
  refine wpAny_Slice (thn (po_none.run pins s1 σ H1 (fun o H2 => o = none ∧ H2 = H1) I1 ⟨rfl, rfl⟩) ?_)
  rintro vl s2 ⟨l, H2, I2, pl, rfl, rfl⟩
  refine thn (po_none.run pins s2 σ H2 (fun o H3 => o = none ∧ H3 = H2) I2 ⟨rfl, rfl⟩) ?_
  rintro vu s3 ⟨u, H3, I3, pu, rfl, rfl⟩
  refine thn (back.run pins s3 σ H3 (fun o H4 => o = some (-1) ∧ H4 = H3) I3 ⟨1, rfl, -1, rfl, rfl, rfl⟩) ?_
  rintro vs s4 ⟨o, H4, I4, ps, rfl, rfl⟩
  have J : Inv X pins σ H4 { s4 with heap := s4.heap.push { cls := .type "slice", data := .fields #[vl, vu, vs] } } := I4.kept (t' := s4.toks) fun b ob z => Heap.get?_push_of_some _ z
  obtain ⟨us, r, ht, few⟩ := J.tuple tup
  have ln := r.length
  show wpAny (model X.prog X.w) X.A (subscriptTail e (.Slice none none (some (.UnaryOp .USub (.Constant (.int 1) k p1) p2)) p3) (.ref a) (.ref s4.heap.objs.size)) (EP X pins σ Q) _ _
  refine tail_any (ops := [.ref a, .ref s4.heap.objs.size]) ht.typeIs (PyProof.Rows.slot_tuple_getitem.lookup) ?_ (by with_unfolding_all rfl)
  refine item_rev ht (Heap.IsSliceOf.new _ vl vu vs) pl pu ps ?_ (by rw [List.size_toArray]; omega)
  refine ⟨.ref _, _, J.laid (t' := s4.toks) (o := .tup xs.reverse) (fun b ob z => Heap.get?_push_of_some _ z) (Nat.le_refl _) ?_, rfl, q _ (J.hok.fresh (Nat.le_refl _))⟩
  exact ⟨by rw [List.length_reverse]; exact few, _, r.reverse, IsTup.new _ _⟩
/-- t == () of any tuple -/
def rEqE (K : PySem.W.Frag) : R2 := fun x y H Q => ∃ a b xs, x = .ref a ∧ y = .ref b ∧ SqT K H a xs ∧ SqT K H b [] ∧ Q (.bl xs.isEmpty) H
theorem op_eqE (hu : X.A.units + 64 < cLine) : OpR X (compareOp .Eq) (rEqE X.K) := by
  intro pins s σ H x y v u Q I rx ry h
  obtain ⟨a, b, xs, rfl, rfl, ha, hb, q⟩ := h
  cases rx
  cases ry
  obtain ⟨us, r1, t1, _⟩ := I.tuple ha
  obtain ⟨ws, r2, t2, _⟩ := I.tuple hb
  cases r2
  refine SeqAt.eq_tupleAt (items2 := #[]) (e := fun _ => true) t1 t2 (by omega) (fun j _ h2 => absurd h2 (Nat.not_lt_zero _)) ?_
  have : ((List.range (min us.toArray.size (#[] : Array Value).size)).all (fun _ => true) && us.toArray.size == (#[] : Array Value).size) = xs.isEmpty := by
    cases r1 with
    | nil => rfl
    | cons _ _ => simp
  show EP X pins σ Q (.bool ((List.range (min us.toArray.size (#[] : Array Value).size)).all (fun _ => true) && us.toArray.size == (#[] : Array Value).size)) s
  rw [this]
  exact ⟨.bl _, H, I, rfl, q⟩
/-- l == [] of any list -/
def rEqN (K : PySem.W.Frag) : R2 := fun x y H Q => ∃ a b xs, x = .ref a ∧ y = .ref b ∧ SqL K H a xs ∧ SqL K H b [] ∧ Q (.bl xs.isEmpty) H
theorem op_eqN (hu : X.A.units + 64 < cLine) : OpR X (compareOp .Eq) (rEqN X.K) := by
  intro pins s σ H x y v u Q I rx ry h
  obtain ⟨a, b, xs, rfl, rfl, ha, hb, q⟩ := h
  cases rx
  cases ry
  obtain ⟨us, r1, t1, _⟩ := I.list ha
  obtain ⟨ws, r2, t2, _⟩ := I.list hb
  cases r2
  cases r1 with
  | nil => exact SeqAt.eq_listAt (e := fun _ => true) t1.isList t2.isList rfl (by omega) (fun j h1 _ => absurd h1 (Nat.not_lt_zero _)) ⟨.bl true, H, I, rfl, q⟩
  | cons _ _ => exact SeqAt.eq_list_lengthsAt t1.isList t2.isList (by simp) (by omega) ⟨.bl false, H, I, rfl, q⟩
end
end TupRev

/-! ### numbers, truths among them -/
namespace NumZ
section
variable {X : Cx}
def nz : V → Option Int
  | .int i => some i
  | .bl b => some (if b = true then 1 else 0)
  | _ => none
def rAddZ : R2 := fun x y H Q => ∃ i j, nz x = some i ∧ y = .int j ∧ Q (.int (i + j)) H
theorem op_addZ : OpR X (binaryOp .Add) rAddZ := by
  intro pins s σ H x y v u Q I rx ry h
  obtain ⟨i, j, hx, rfl, q⟩ := h
  cases x with
  | int k =>
    cases Option.some.inj hx
    exact op_add pins s σ H (.int i) (.int j) v u Q I rx ry ⟨i, j, rfl, rfl, q⟩
  | bl b =>
    cases Option.some.inj hx
    cases (show v = Value.bool b from rx)
    obtain ⟨t, rfl⟩ := ry
    exact PySem.IntBool.add_bool_int ⟨.int _, H, I.tok _, ⟨_, rfl⟩, q⟩
  | _ => cases hx
def rSubZ : R2 := fun x y H Q => ∃ i j, nz x = some i ∧ nz y = some j ∧ ((∃ k, x = .int k) ∨ ∃ k, y = .int k) ∧ Q (.int (i - j)) H
theorem op_subZ : OpR X (binaryOp .Sub) rSubZ := by
  intro pins s σ H x y v u Q I rx ry h
  obtain ⟨i, j, hx, hy, one, q⟩ := h
  cases x with
  | int k =>
    cases Option.some.inj hx
    cases y with
    | int m =>
      cases Option.some.inj hy
      exact op_sub pins s σ H (.int i) (.int j) v u Q I rx ry ⟨i, j, rfl, rfl, q⟩
    | bl b =>
      cases Option.some.inj hy
      obtain ⟨t, rfl⟩ := rx
      cases (show u = Value.bool b from ry)
      exact PySem.IntBool.sub_int_bool ⟨.int _, H, I.tok _, ⟨_, rfl⟩, q⟩
    | _ => cases hy
  | bl b =>
    cases Option.some.inj hx
    cases y with
    | int m =>
      cases Option.some.inj hy
      cases (show v = Value.bool b from rx)
      obtain ⟨t, rfl⟩ := ry
      exact PySem.IntBool.sub_bool_int ⟨.int _, H, I.tok _, ⟨_, rfl⟩, q⟩
    | bl c =>
      rcases one with ⟨k, z⟩ | ⟨k, z⟩ <;> cases z
    | _ => cases hy
  | _ => cases hx
def strZ : V → Str
  | .int i => toString i
  | .bl b => if b = true then Str.ofString "True" else Str.ofString "False"
  | _ => Str.empty
def rStrZ : List V → Hp → VK → Prop := fun xs H Q => ∃ x i, xs = [x] ∧ nz x = some i ∧ i.natAbs.log2 < 1920 ∧ Q (.str (strZ x)) H
theorem call_strZ : CallR X (.type "str") rStrZ := by
  intro pins s σ H xs us Q I r h
  obtain ⟨x, i, rfl, hx, small, q⟩ := h
  cases x with
  | int k =>
    cases Option.some.inj hx
    exact call_str_int pins s σ H [.int i] us Q I r ⟨i, rfl, small, q⟩
  | bl b =>
    obtain ⟨u, rfl, ru⟩ := vals1 r
    cases (show u = Value.bool b from ru)
    refine PySem.P.str_of_bool ⟨.str _, H, I.tok _, ⟨_, rfl⟩, ?_⟩
    cases b <;> exact q
  | _ => cases hx
/-- list(t), a list that is none of the interpreter's own -/
def rListN (K : PySem.W.Frag) : List V → Hp → VK → Prop := fun xs H Q => ∃ p ys, xs = [.ref p] ∧ SqT K H p ys ∧ ∀ l, H l = none → l ≠ sysModules → Q (.ref l) (upd H l (.lst ys))
theorem call_listN : CallR X (.type "list") (rListN X.K) := by
  intro pins s σ H xs us Q I r h
  obtain ⟨p, ys, rfl, src, q⟩ := h
  obtain ⟨u, rfl, rx⟩ := vals1 r
  cases rx
  obtain ⟨items, rv, ⟨o, ho, hc, n, hd⟩, few⟩ := I.tuple src
  refine call_list_seq p (.inr rfl) ho hc hd (fun hp c keep made => ?_) (by rw [List.size_toArray, ← rv.length]; exact few)
  exact ⟨.ref s.heap.objs.size, _, I.laid (t' := s.toks) keep (Nat.le_refl _) (show ObjOk X.prog X.w _ hp _ (.lst ys) from ⟨few, items, c, rv, made⟩), rfl, q _ (I.hok.fresh (Nat.le_refl _)) (Nat.ne_of_gt I.big)⟩
end
end NumZ

section
variable {P : Program} {w : World} {K : PySem.W.Frag} {mg : Str → Option Value} {base : Heap}
/-! ### a whole number; a row that is drawn -/
def sp_whole : Sp := fun vs H Q _ => ∃ (v : V) (d : PyData), vs = [v] ∧ Sh H v d ∧ Q (.bl (wholeD d)) H
theorem ok_whole (T : Tx w K mg) : FnOk P w K mg base CX0 1 T.f_whole T.fd_whole ["_law_thing"] sp_whole := by
  refine T.F_whole.ok sc_whole (fun vs H Q E h => ?_) (fun cdv A outer s H vs Q E hr h => ?_)
  · obtain ⟨v, d, rfl, _⟩ := h
    rfl
  · obtain ⟨v, d, rfl, sh, q⟩ := h
    refine ⟨_, (pss_one (ps_ret (pe_and (pe_callB call_isi (by rfl) T.m_isinstance (by decide +kernel) (pa_cons (pv 0) (pa_cons (pe_bltn (v := .ty "int") (u := .type "int") (by rfl) T.m_int (by decide +kernel) rfl) pa_nil))) (pe_one (pe_not (pe_callB call_isi (by rfl) T.m_isinstance (by decide +kernel) (pa_cons (pv 0) (pa_cons (pe_bltn (v := .ty "bool") (u := .type "bool") (by rfl) T.m_bool (by decide +kernel) rfl) pa_nil)))))))), ?_⟩
    refine ⟨v, rfl, _, _, _, _, _, rfl, .ty _, sh.ty, kit_ty (kitInt d), _, rfl, ite2 (fun e => ?_) (fun e => ?_)⟩
    · refine ⟨v, rfl, _, _, _, _, _, rfl, .ty _, sh.ty, kit_ty (kitBool d), _, rfl, ?_⟩
      rw [whole_of e] at q
      exact q
    · rw [whole_not e] at q
      exact q

end
end Gk

set_option Elab.async false
set_option linter.all false
set_option maxRecDepth 100000
set_option maxHeartbeats 1000000
set_option pp.maxSteps 1500
set_option pp.deepTerms false
namespace Gk
open PySem PySem.Spec PyProof.Rows L2
section
variable {P : Program} {w : World} {K : PySem.W.Frag} {mg : Str → Option Value} {base : Heap}
/-! ### something put otherwise -/
theorem DeckC.out {H : Hp} {d l p : Addr} {n : Int} (D : DeckC H d l n) (h : H p = none) : p ∉ [d, l] := by
  obtain ⟨a, b⟩ := D.off h
  intro z
  rcases List.mem_cons.mp z with z | z
  · exact a z
  · exact b (List.mem_singleton.mp z)
theorem in_d {d l : Addr} : d ∈ [d, l] := List.mem_cons_self ..
theorem in_l {d l : Addr} : l ∈ [d, l] := List.mem_cons_of_mem _ (List.mem_cons_self ..)
theorem pick_sh {H : Hp} {xs : List V} {ds : List PyData} {B n m : Nat} (t : ShAll H xs ds) (f : ∀ d ∈ ds, Fit B n m d) {j : Int} (h0 : 0 ≤ j) (h1 : j < xs.length) : ∃ x d, atI xs j = some x ∧ Sh H x d ∧ Fit B n m d := by
  obtain ⟨k, rfl⟩ := Int.eq_ofNat_of_zero_le h0
  have hk : k < xs.length := by omega
  obtain ⟨d, hd, td⟩ := t.get (List.getElem?_eq_getElem hk)
  exact ⟨_, d, atI_nat (List.getElem?_eq_getElem hk), td, f d (List.mem_of_getElem? hd)⟩
def sp_put (K : PySem.W.Frag) : Sp := fun vs H Q _ => ∃ (a : Addr) (k : Nat) (v : V) (xs : List V), vs = [.ref a, .int k, v] ∧ H a = some (.tup xs) ∧ k < xs.length ∧ xs.length ≤ 20000 ∧ ∀ r H', Same H H' → H' r = some (.tup (xs.set k v)) → Q (.ref r) H'
theorem ok_put (T : Tx w K mg) : FnOk P w K mg base CX0 1 T.f_put T.fd_put ["_law_row", "_law_at", "_law_part"] (sp_put K) := by
  refine T.F_put.ok sc_put (fun vs H Q E h => ?_) (fun cdv A outer s H vs Q E hr h => ?_)
  · obtain ⟨a, k, v, xs, rfl, _⟩ := h
    rfl
  · obtain ⟨a, k, v, xs, rfl, ha, hk, hl, q⟩ := h
    refine ⟨_, (pss_one (ps_ret (pe_op op_catA (pe_op op_catA (pe_slice sl_tupA (pv 0) po_none (po_some (pv 1))) (pe_tup (pa_cons (pv 2) pa_nil))) (pe_slice sl_tupA (pv 0) (po_some (pe_op op_add (pv 1) pe_int)) po_none)))), ?_⟩
    refine ⟨.ref a, rfl, .int k, rfl, (k : Int), rfl, slA ha fun q1 H1 s1 h1 => ?_⟩
    rw [cut_to] at h1
    refine ⟨v, rfl, sl1, fun t nt => ?_⟩
    have s2 := same_upd (o := HO.tup [v]) nt
    refine catA (s2 _ _ h1) upd_same ?_ fun q2 H3 s3 h3 => ?_
    · rw [List.length_take]
      exact Nat.le_trans (show _ ≤ 30000 by simp only [List.length_cons, List.length_nil]; omega) (by decide)
    have s13 := (s1.trans s2).trans s3
    refine ⟨.ref a, rfl, .int k, rfl, _, _, rfl, rfl, ((k + 1 : Nat) : Int), rfl, ?_⟩
    refine slAn (s13 _ _ ha) fun q4 H4 s4 h4 => ?_
    rw [cut_from] at h4
    refine catA (s4 _ _ h3) h4 ?_ fun q5 H5 s5 h5 => ?_
    · rw [List.length_append, List.length_take, List.length_drop]
      exact Nat.le_trans (show _ ≤ 30000 by simp only [List.length_cons, List.length_nil]; omega) (by decide)
    rw [set_put hk] at h5
    exact q q5 H5 ((s13.trans s4).trans s5) h5
def odds : List PyData := [.none, .bool true, .bool false, .tuple [], .list [], .dict [], .int 0, .int 1, .str (Str.ofString ""), .str (Str.ofString "01"), .int (-1), .tuple [.int 0], .str (Str.ofString "0"), .int 46, .int (10 ^ 39)]
theorem odds_ok : (odds.all fun d => gd (10 ^ 39) d && (decide (d.weight ≤ 200) && decide (d.depth ≤ 2))) = true := by decide +kernel
theorem odds_fit {d : PyData} (h : d ∈ odds) : Fit (10 ^ 39) 200 2 d := by
  have z := List.all_eq_true.mp odds_ok d h
  rw [Bool.and_eq_true, Bool.and_eq_true, decide_eq_true_eq, decide_eq_true_eq] at z
  exact z
theorem isStr_of : ∀ {d : PyData}, isStrD d = true → ∃ z, d = .str z
  | .str z, _ => ⟨z, rfl⟩
  | .bool _, h => by cases h
  | .none, h => by cases h
  | .tuple _, h => by cases h
  | .list _, h => by cases h
  | .int _, h => by cases h
  | .dict _, h => by cases h
theorem isInt_of : ∀ {d : PyData}, isIntD d = true → (∃ i, d = .int i) ∨ ∃ b, d = .bool b
  | .int i, _ => .inl ⟨i, rfl⟩
  | .bool b, _ => .inr ⟨b, rfl⟩
  | .str _, h => by cases h
  | .none, h => by cases h
  | .tuple _, h => by cases h
  | .list _, h => by cases h
  | .dict _, h => by cases h
theorem fit_S {B n m : Nat} {l : List Nat} (h : ∀ c ∈ l, c < 128) (hl : l.length ≤ n) : Fit B n m (.str (SX.S l)) := by
  refine ⟨List.all_eq_true.mpr fun c hc => decide_eq_true (h c (by simpa using hc)), ?_, Nat.zero_le _⟩
  show l.toArray.size ≤ n
  rw [List.size_toArray]
  exact hl
theorem nat_chars (n : Nat) : ∀ c ∈ (Nat.repr n).toList, c.toNat < 128 := by
  intro c hc
  have hc' : c ∈ Nat.toDigits 10 n := by
    have e : (Nat.repr n).toList = Nat.toDigits 10 n := by
      unfold Nat.repr
      exact String.toList_ofList
    rw [e] at hc
    exact hc
  have hd := Nat.isDigit_of_mem_toDigits (by decide) (by decide) hc'
  unfold Char.isDigit at hd
  have h2 := of_decide_eq_true (Bool.and_eq_true_iff.mp hd).2
  have h3 : c.toNat ≤ 57 := h2
  omega
theorem int_chars (i : Int) : ∀ c ∈ (toString i).toList, c.toNat < 128 := by
  cases i with
  | ofNat m => exact nat_chars m
  | negSucc m =>
    intro c hc
    have e : toString (Int.negSucc m) = "-" ++ Nat.repr (m + 1) := rfl
    rw [e, String.toList_append] at hc
    rcases List.mem_append.mp hc with h | h
    · have : c = '-' := by simpa using h
      subst this
      decide
    · exact nat_chars _ c h
theorem fit_strZ {B n m k : Nat} {v : V} {i : Int} (hv : NumZ.nz v = some i) (hk : 4 ≤ k) (h : i.natAbs.log2 < k) (hn : k + 1 ≤ n) : Fit B n m (.str (NumZ.strZ v)) := by
  cases v with
  | int j =>
    cases Option.some.inj hv
    have e : NumZ.strZ (.int i) = SX.S ((toString i).toList.map Char.toNat) := Str.ofString_eq_toList _
    rw [e]
    refine fit_S (fun c hc => ?_) ?_
    · obtain ⟨a, ha, rfl⟩ := List.mem_map.mp hc
      exact int_chars i a ha
    · have := PySem.int_text_length_le (a := i) (k := k) (by omega) h
      rw [List.length_map]
      exact Nat.le_trans this hn
  | bl b =>
    cases b
    · have e : NumZ.strZ (.bl false) = SX.S [70, 97, 108, 115, 101] := by decide +kernel
      rw [e]
      exact fit_S (by decide) (show 5 ≤ n by omega)
    · have e : NumZ.strZ (.bl true) = SX.S [84, 114, 117, 101] := by decide +kernel
      rw [e]
      exact fit_S (by decide) (show 4 ≤ n by omega)
  | _ => cases hv
theorem cutS_to (l : List Nat) (k : Nat) : cutS (SX.S l) none (some (k : Int)) = SX.S (l.take k) := by
  unfold cutS
  rw [SX.S_len, HT.sIx_none, HT.sIx_nat, List.drop_zero, Nat.sub_zero]
  show SX.S (l.take (min k l.length)) = SX.S (l.take k)
  by_cases h : k ≤ l.length
  · rw [Nat.min_eq_left h]
  · rw [Nat.min_eq_right (by omega), List.take_length, List.take_of_length_le (by omega)]
theorem cutS_from (l : List Nat) (k : Nat) : cutS (SX.S l) (some (k : Int)) none = SX.S (l.drop k) := by
  unfold cutS
  rw [SX.S_len, HT.sIx_none, HT.sIx_nat]
  show SX.S ((l.drop (min k l.length)).take (l.length - min k l.length)) = SX.S (l.drop k)
  congr 1
  by_cases h : k ≤ l.length
  · rw [Nat.min_eq_left h]
    exact List.take_of_length_le (by rw [List.length_drop]; exact Nat.le_refl _)
  · rw [Nat.min_eq_right (by omega), Nat.sub_self, List.take_zero, List.drop_eq_nil_of_le (by omega)]
/-- the deck, and what else is hidden: all of it stands, and none of it is a tuple -/
structure DA (as : List Addr) (H : Hp) (d l : Addr) (n : Int) : Prop where
  d1 : DeckC H d l n
  hd : d ∈ as
  hl : l ∈ as
  liv : ∀ b ∈ as, ∃ o, H b = some o ∧ ∀ xs, o ≠ HO.tup xs
theorem DA.same {as : List Addr} {H H' : Hp} {d l : Addr} {n : Int} (D : DA as H d l n) (s : Same H H') : DA as H' d l n := ⟨D.d1.same s, D.hd, D.hl, fun b hb => by
  obtain ⟨o, e, no⟩ := D.liv b hb
  exact ⟨o, s _ _ e, no⟩⟩
theorem DA.mono {as : List Addr} {H : Hp} {d l : Addr} {n m : Int} (D : DA as H d l n) (h : n ≤ m) : DA as H d l m := ⟨D.d1.mono h, D.hd, D.hl, D.liv⟩
theorem DA.off {as : List Addr} {H : Hp} {d l p : Addr} {n : Int} (D : DA as H d l n) (h : H p = none) : p ≠ d ∧ p ≠ l := D.d1.off h
theorem DA.out {as : List Addr} {H : Hp} {d l p : Addr} {n : Int} (D : DA as H d l n) (h : H p = none) : p ∉ as := fun z => by
  obtain ⟨o, e, _⟩ := D.liv p z
  rw [h] at e
  cases e
theorem DA.tupOut {as : List Addr} {H : Hp} {d l p : Addr} {n : Int} {xs : List V} (D : DA as H d l n) (h : H p = some (.tup xs)) : p ∉ as := fun z => by
  obtain ⟨o, e, no⟩ := D.liv p z
  rw [h] at e
  exact no xs (Option.some.inj e).symm
theorem DA.fr {as : List Addr} {H H' : Hp} {d l : Addr} {n m : Int} (D : DA as H d l n) (D' : DeckC H' d l m) (f : Fr d l H H') : DA as H' d l m := ⟨D', D.hd, D.hl, fun b hb => by
  obtain ⟨ne, cs, y, z, hd, hl, r⟩ := D'
  by_cases b1 : b = d
  · rw [b1]
    exact ⟨_, hd, fun xs z => by cases z⟩
  by_cases b2 : b = l
  · rw [b2]
    exact ⟨_, hl, fun xs z => by cases z⟩
  obtain ⟨o, e, no⟩ := D.liv b hb
  exact ⟨o, f _ _ b1 b2 e, no⟩⟩
theorem DeckC.da {H : Hp} {d l : Addr} {n : Int} (D : DeckC H d l n) : DA [d, l] H d l n := by
  refine ⟨D, in_d, in_l, fun b hb => ?_⟩
  obtain ⟨ne, cs, y, z, hd, hl, r⟩ := D
  rcases List.mem_cons.mp hb with b1 | b1
  · rw [b1]
    exact ⟨_, hd, fun xs z => by cases z⟩
  · rw [List.mem_singleton.mp b1]
    exact ⟨_, hl, fun xs z => by cases z⟩
theorem sh_tup {as : List Addr} {H : Hp} {d l p : Addr} {n : Int} {xs : List V} {ds : List PyData} (D : DA as H d l n) (h : H p = some (.tup xs)) (t : ShAll (hid as H) xs ds) : Sh (hid as H) (.ref p) (.tuple ds) := .tup (by rw [hid_at (D.tupOut h)]; exact h) t
theorem e39 (B : Nat) : 10 ^ 39 ≤ B + 10 ^ 39 + 10 := Nat.le_trans (Nat.le_add_left _ B) (Nat.le_add_right _ 10)
theorem b39 (B : Nat) : B + 10 ≤ B + 10 ^ 39 + 10 := Nat.add_le_add_right (Nat.le_add_right _ _) 10
theorem six_S : Str.ofString "01 2a-" = SX.S [48, 49, 32, 50, 97, 45] := by decide +kernel
theorem zero_S : Str.ofString "0" = SX.S [48] := by decide +kernel
theorem len_weight : ∀ ds : List PyData, ds.length ≤ PyData.weightAll ds
  | [] => Nat.le_refl _
  | x :: r => by
    show r.length + 1 ≤ x.weight + 1 + PyData.weightAll r
    have := len_weight r
    omega
theorem fit_put {B n m k : Nat} {ds : List PyData} {dk d0 : PyData} (hk : ds[k]? = some dk) (fl : FitL B n m ds) (f0 : Fit B n m d0) : Fit B (n + (n + 1)) (m + 1) (.tuple ((ds.take k ++ [d0]) ++ ds.drop (k + 1))) := by
  have e : ds = ds.take k ++ ([dk] ++ ds.drop (k + 1)) := by
    obtain ⟨hl, e'⟩ := List.getElem?_eq_some_iff.mp hk
    rw [← e', List.singleton_append, List.getElem_cons_drop, List.take_append_drop]
  have w : PyData.weightAll (ds.take k) + (PyData.weightAll [dk] + PyData.weightAll (ds.drop (k + 1))) ≤ n := by
    rw [← weight_app, ← weight_app, ← e]
    exact fl.2.1
  have one := FitL.one f0
  have a : FitL B (n + 1 + n + n) m ((ds.take k ++ [d0]) ++ ds.drop (k + 1)) := by
    have := ((fl.take k).app one).app (fl.drop (k + 1))
    exact ⟨this.1, Nat.le_trans this.2.1 (by omega), this.2.2⟩
  refine Fit.tup ⟨a.1, ?_, a.2.2⟩
  rw [weight_app, weight_app]
  have := one.2.1
  omega
def sp_other (K : PySem.W.Frag) : Sp := fun vs H Q _ => ∃ (as : List Addr) (d l : Addr) (n : Int) (v : V) (dd : PyData) (B N M : Nat), vs = [.ref d, v] ∧ DA as H d l n ∧ n < 1000000 ∧ Sh (hid as H) v dd ∧ Fit B N M dd ∧ B < 2 ^ 180 ∧ N ≤ 10000 ∧
  ∀ v' H' dd', DA as H' d l (n + 4) → Fr d l H H' → Sh (hid as H') v' dd' → Fit (B + 10 ^ 39 + 10) (2 * N + 400) (M + 3) dd' → Q v' H'
theorem ok_other (T : Tx w K mg) : FnOk P w K mg base CX0 3 T.f_other T.fd_other ["_law_deck_here", "_law_thing"] (sp_other K) := by
  refine T.F_other.ok sc_other (fun vs H Q E h => ?_) (fun cdv A outer s H vs Q E hr h => ?_)
  · obtain ⟨as, d, l, n, v, dd, B, N, M, rfl, _⟩ := h
    rfl
  · obtain ⟨as, d, l, n, v, dd, B, N, M, rfl, D, hn, sh, fit, hB, hN, q⟩ := h
    refine ⟨_, (pss_cons (ps_set (i := 2) sc_other.nd rfl (by first | exact .inl rfl | exact .inr rfl) (pe_call (ok_take T) (hr.mono (by decide)) (by rfl) T.g_take T.F_take.kp T.b_take .nil pass0 (pa_cons (pv 0) (pa_cons pe_int pa_nil)))) (pss_cons (ps_if (pt_cmpR op_eq (pv 2) pe_int (nomark _)) (pss_cons (ps_set (i := 3) sc_other.nd rfl (by first | exact .inl rfl | exact .inr rfl) (pe_lst (pa_cons pe_non (pa_cons pe_bl (pa_cons pe_bl (pa_cons (pe_tup pa_nil) (pa_cons (pe_lstN pa_nil) (pa_cons pe_dnewK (pa_cons pe_int (pa_cons pe_int (pa_cons pe_str (pa_cons pe_str (pa_cons (pe_un un_neg pe_int) (pa_cons (pe_tup (pa_cons pe_int pa_nil)) (pa_cons pe_str (pa_cons pe_int (pa_cons (pe_op op_pow pe_int pe_int) pa_nil))))))))))))))))) (pss_one (ps_ret (pe_ix ix_list (pv 3) (pe_call (ok_take T) (hr.mono (by decide)) (by rfl) T.g_take T.F_take.kp T.b_take .nil pass0 (pa_cons (pv 0) (pa_cons pe_int pa_nil))) (fun _ _ => rfl))))) pss_nil) (pss_cons (ps_if (pt_val (pe_callB call_isi (by rfl) T.m_isinstance (by decide +kernel) (pa_cons (pv 1) (pa_cons (pe_bltn (v := .ty "str") (u := .type "str") (by rfl) T.m_str (by decide +kernel) rfl) pa_nil)))) (pss_cons (ps_set (i := 4) sc_other.nd rfl (by first | exact .inl rfl | exact .inr rfl) (pe_call (ok_take T) (hr.mono (by decide)) (by rfl) T.g_take T.F_take.kp T.b_take .nil pass0 (pa_cons (pv 0) (pa_cons (pe_op op_add (pe_callB call_len_str (by rfl) T.m_len PySem.boot_len (pa_cons (pv 1) pa_nil)) pe_int) pa_nil)))) (pss_cons (ps_set (i := 5) sc_other.nd rfl (by first | exact .inl rfl | exact .inr rfl) (pe_item_str pe_str (pe_call (ok_take T) (hr.mono (by decide)) (by rfl) T.g_take T.F_take.kp T.b_take .nil pass0 (pa_cons (pv 0) (pa_cons pe_int pa_nil))) (fun _ _ => rfl))) (pss_cons (ps_set (i := 6) sc_other.nd rfl (by first | exact .inl rfl | exact .inr rfl) (pe_lst (pa_cons (pe_op op_add_str (pe_op op_add_str (pe_slice sl_str (pv 1) po_none (po_some (pv 4))) (pv 5)) (pe_slice sl_str (pv 1) (po_some (pv 4)) po_none)) (pa_cons (pe_op op_add_str (pe_op op_add_str (pe_slice sl_str (pv 1) po_none (po_some (pv 4))) (pv 5)) (pe_slice sl_str (pv 1) (po_some (pe_op op_add (pv 4) pe_int)) po_none)) (pa_cons (pe_op op_add_str (pe_slice sl_str (pv 1) po_none (po_some (pv 4))) (pe_slice sl_str (pv 1) (po_some (pe_op op_add (pv 4) pe_int)) po_none)) pa_nil))))) (pss_one (ps_ret (pe_ix ix_list (pe_op op_cat (pv 6) (pe_lst (pa_cons (pe_op op_add_str (pv 1) (pv 1)) (pa_cons (pe_op op_add_str (pv 1) pe_str) (pa_cons (pe_tup (pa_cons (pv 1) pa_nil)) (pa_cons (pe_lstN (pa_cons (pv 1) pa_nil)) pa_nil)))))) (pe_op op_sub (pv 2) pe_int) (fun _ _ => rfl))))))) pss_nil) (pss_cons (ps_if (pt_val (pe_callB call_isi (by rfl) T.m_isinstance (by decide +kernel) (pa_cons (pv 1) (pa_cons (pe_bltn (v := .ty "int") (u := .type "int") (by rfl) T.m_int (by decide +kernel) rfl) pa_nil)))) (pss_one (ps_ret (pe_ix ix_list (pe_lst (pa_cons (pe_op NumZ.op_addZ (pv 1) pe_int) (pa_cons (pe_op NumZ.op_subZ (pv 1) pe_int) (pa_cons (pe_op NumZ.op_subZ (pe_un un_neg pe_int) (pv 1)) (pa_cons (pe_cmpR (op_eqD hr.units) (pv 1) pe_int (nomark _)) (pa_cons (pe_op NumZ.op_addZ (pv 1) pe_int) (pa_cons (pe_callTy NumZ.call_strZ (by rfl) T.m_str (by decide +kernel) (pa_cons (pv 1) pa_nil)) (pa_cons (pe_tup (pa_cons (pv 1) pa_nil)) pa_nil)))))))) (pe_op op_sub (pv 2) pe_int) (fun _ _ => rfl)))) pss_nil) (pss_cons (ps_if (pw_or (pt_not (pt_val (pe_callB call_isi (by rfl) T.m_isinstance (by decide +kernel) (pa_cons (pv 1) (pa_cons (pe_bltn (v := .ty "tuple") (u := .type "tuple") (by rfl) T.m_tuple (by decide +kernel) rfl) pa_nil))))) (pw_or1 (pt_cmpR (TupRev.op_eqE hr.units) (pv 1) (pe_tup pa_nil) (nomark _)))).pt (pss_one (ps_ret (pe_tup (pa_cons (pe_call (ok_take T) (hr.mono (by decide)) (by rfl) T.g_take T.F_take.kp T.b_take .nil pass0 (pa_cons (pv 0) (pa_cons pe_int pa_nil))) pa_nil)))) pss_nil) (pss_cons (ps_set (i := 4) sc_other.nd rfl (by first | exact .inl rfl | exact .inr rfl) (pe_call (ok_take T) (hr.mono (by decide)) (by rfl) T.g_take T.F_take.kp T.b_take .nil pass0 (pa_cons (pv 0) (pa_cons (pe_callB call_len_seq (by rfl) T.m_len PySem.boot_len (pa_cons (pv 1) pa_nil)) pa_nil)))) (pss_cons (ps_set (i := 6) sc_other.nd rfl (by first | exact .inl rfl | exact .inr rfl) (pe_lst (pa_cons (pe_op op_catA (pe_slice sl_tupA (pv 1) po_none (po_some (pv 4))) (pe_slice sl_tupA (pv 1) (po_some (pe_op op_add (pv 4) pe_int)) po_none)) (pa_cons (pe_op op_catA (pe_slice sl_tupA (pv 1) po_none (po_some (pe_op op_add (pv 4) pe_int))) (pe_slice sl_tupA (pv 1) (po_some (pv 4)) po_none)) (pa_cons (TupRev.pe_revT (pv 1)) (pa_cons (pe_callTy NumZ.call_listN (by rfl) T.m_list (by decide +kernel) (pa_cons (pv 1) pa_nil)) pa_nil)))))) (pss_one (ps_ret (pe_ix ix_list (pe_op op_cat (pv 6) (pe_lst (pa_cons (pe_call (ok_put T) (hr.mono (by decide)) (by rfl) T.g_put T.F_put.kp T.b_put .nil pass0 (pa_cons (pv 1) (pa_cons (pv 4) (pa_cons (pe_ix ix_tup (pv 1) pe_int (fun _ _ => rfl)) pa_nil)))) (pa_cons (pe_op op_catA (pv 1) (pe_tup (pa_cons (pe_ix ix_tup (pv 1) (pv 4) (fun _ _ => rfl)) pa_nil))) (pa_cons (pe_ix ix_tup (pv 1) (pv 4) (fun _ _ => rfl)) pa_nil))))) (pe_op op_sub (pv 2) pe_int) (fun _ _ => rfl))))))))))), ?_⟩
    refine ⟨.ref d, rfl, d, l, 8, _, rfl, D.d1, by omega, by decide, by decide, fun H1 way D1 fr1 w0 w1 => ?_⟩
    replace D1 := D.fr D1 fr1
    have sh1 : Sh (hid as H1) v dd := sh.same (hid_fr fr1 D.hd D.hl)
    have shH : Sh H1 v dd := sh1.same hid_le
    have fin : ∀ v' H' dd' m, DA as H' d l (n + m) → m ≤ 4 → Fr d l H H' → Sh (hid as H') v' dd' → Fit (B + 10 ^ 39 + 10) (2 * N + 400) (M + 3) dd' → Q v' H' := fun v' H' dd' m a b c e f => q v' H' dd' (a.mono (by omega)) c e f
    refine ⟨.int way, rfl, rfl, _, rfl, ite2 (fun _ => ?_) (fun zw => ?_)⟩
    · -- one of the odd things
      refine ⟨Nat.zero_le _, fun p1 n1 => ⟨Nat.zero_le _, fun p2 n2 m2 => fun p3 n3 => ?_⟩⟩
      refine ⟨1, rfl, sl1, fun p4 n4 => ⟨_, _, rfl, rfl, ⟨by decide, by decide, by decide⟩, (show 15 ≤ sizeLine by decide), fun p5 n5 => ?_⟩⟩
      have s1 := same_upd (o := HO.tup []) n1
      have s2 := same_upd (o := HO.lst []) n2
      have s3 := same_upd (o := HO.dK []) n3
      have s4 := same_upd (o := HO.tup [V.int 0]) n4
      have s5 := same_upd (o := HO.lst [V.non, .bl true, .bl false, .ref p1, .ref p2, .ref p3, .int 0, .int 1, .str (Str.ofString ""), .str (Str.ofString "01"), .int (-1), .ref p4, .str (Str.ofString "0"), .int 46, .int (10 ^ 39)]) n5
      have sA := (((s1.trans s2).trans s3).trans s4).trans s5
      have D5 := D1.same sA
      have o1 := D1.out n1
      have o2 := (D1.same s1).out n2
      have o3 := (D1.same (s1.trans s2)).out n3
      have o4 := (D1.same ((s1.trans s2).trans s3)).out n4
      have o5 := (D1.same (((s1.trans s2).trans s3).trans s4)).off n5
      have e1 := s5 _ _ (s4 _ _ (s3 _ _ (s2 _ _ (show (upd H1 p1 (.tup [])) p1 = _ from upd_same))))
      have e2 := s5 _ _ (s4 _ _ (s3 _ _ (show (upd (upd H1 p1 (.tup [])) p2 (.lst [])) p2 = _ from upd_same)))
      have e3 := s5 _ _ (s4 _ _ (show (upd (upd (upd H1 p1 (.tup [])) p2 (.lst [])) p3 (.dK [])) p3 = _ from upd_same))
      have e4 := s5 _ _ (show (upd (upd (upd (upd H1 p1 (.tup [])) p2 (.lst [])) p3 (.dK [])) p4 (.tup [.int 0])) p4 = _ from upd_same)
      have e5 : (upd (upd (upd (upd (upd H1 p1 (.tup [])) p2 (.lst [])) p3 (.dK [])) p4 (.tup [.int 0])) p5 (.lst [V.non, .bl true, .bl false, .ref p1, .ref p2, .ref p3, .int 0, .int 1, .str (Str.ofString ""), .str (Str.ofString "01"), .int (-1), .ref p4, .str (Str.ofString "0"), .int 46, .int (10 ^ 39)])) p5 = _ := upd_same
      generalize h5 : upd _ p5 _ = H5
      replace sA : Same H1 H5 := by rw [← h5]; exact sA
      replace D5 : DA as H5 d l (n + 1) := by rw [← h5]; exact D5
      replace e1 : H5 p1 = some (.tup []) := by rw [← h5]; exact e1
      replace e2 : H5 p2 = some (.lst []) := by rw [← h5]; exact e2
      replace e3 : H5 p3 = some (.dK []) := by rw [← h5]; exact e3
      replace e4 : H5 p4 = some (.tup [.int 0]) := by rw [← h5]; exact e4
      replace e5 : H5 p5 = some (.lst [V.non, .bl true, .bl false, .ref p1, .ref p2, .ref p3, .int 0, .int 1, .str (Str.ofString ""), .str (Str.ofString "01"), .int (-1), .ref p4, .str (Str.ofString "0"), .int 46, .int (10 ^ 39)]) := by rw [← h5]; exact e5
      refine ⟨.ref p5, rfl, .ref d, rfl, d, l, 15, _, rfl, D5.d1, by omega, by decide, by decide, fun H6 u D6 fr6 u0 u1 => ?_⟩
      replace D6 := D5.fr D6 fr6
      have e5' := fr6 _ _ o5.1 o5.2 e5
      have hid6 : Same (hid as H5) (hid as H6) := hid_fr fr6 D.hd D.hl
      have all : ShAll (hid as H6) [V.non, .bl true, .bl false, .ref p1, .ref p2, .ref p3, .int 0, .int 1, .str (Str.ofString ""), .str (Str.ofString "01"), .int (-1), .ref p4, .str (Str.ofString "0"), .int 46, .int (10 ^ 39)] odds :=
        .cons .non (.cons (.bl _) (.cons (.bl _) (.cons (.tup (hid6 _ _ (by rw [hid_at o1]; exact e1)) .nil) (.cons (.lst (hid6 _ _ (by rw [hid_at o2]; exact e2)) m2 .nil) (.cons (.dic (kvs := []) (hid6 _ _ (by rw [hid_at o3]; exact e3)) .nil) (.cons (.int _) (.cons (.int _) (.cons (.str _) (.cons (.str _) (.cons (.int _) (.cons (.tup (hid6 _ _ (by rw [hid_at o4]; exact e4)) (.cons (.int _) .nil)) (.cons (.str _) (.cons (.int _) (.cons (.int _) .nil))))))))))))))
      obtain ⟨x, dx, hx, sx, fx⟩ := pick_sh all (fun d hd => odds_fit hd) u0 u1
      exact ⟨p5, _, u, x, rfl, rfl, SqL.of e5', hx, fin x H6 dx 2 (by rw [show n + 2 = n + 1 + 1 by omega]; exact D6) (by decide) ((fr1.trans (Fr.of sA)).trans fr6) sx (fx.mono (e39 B) (by omega) (by omega))⟩
    have w1' : 1 ≤ way := by
      have : way ≠ 0 := fun z => zw (decide_eq_true (by rw [z]))
      omega
    refine ⟨v, rfl, _, _, _, _, _, rfl, .ty _, shH.ty, kit_ty (kitStr dd), _, rfl, ite2 (fun e => ?_) (fun e => ?_)⟩
    · -- a text
      obtain ⟨z, rfl⟩ := isStr_of e
      have hv : v = .str z := by cases shH; rfl
      subst hv
      obtain ⟨ls, rfl⟩ : ∃ ls, z = SX.S ls := ⟨z.cps.toList, (SX.S_tl z).symm⟩
      have c128 : ∀ c ∈ ls, c < 128 := fun c hc => of_decide_eq_true (List.all_eq_true.mp fit.1 c (by simpa using hc))
      have ll : ls.length ≤ N := by
        have := fit.2.1
        have : ls.toArray.size ≤ N := this
        rw [List.size_toArray] at this
        exact this
      have zl : (SX.S ls).length ≤ sizeLine := by
        rw [SX.S_len]
        exact Nat.le_trans (Nat.le_trans ll hN) (by decide)
      have big : ∀ k : Nat, k ≤ 3 * N + 100 → k ≤ sizeLine := fun k hk => Nat.le_trans hk (Nat.le_trans (show 3 * N + 100 ≤ 40000 by omega) (by decide))
      refine ⟨.ref d, rfl, .str (SX.S ls), rfl, _, rfl, zl, _, _, rfl, rfl, ?_⟩
      rw [SX.S_len]
      refine ⟨d, l, _, _, rfl, D1.d1, by omega, by omega, by omega, fun H2 a2 D2 fr2 a0 a1 => ?_⟩
      replace D2 := D1.fr D2 fr2
      obtain ⟨k, rfl⟩ := Int.eq_ofNat_of_zero_le a0
      refine ⟨.ref d, rfl, d, l, 6, _, rfl, D2.d1, by omega, by decide, by decide, fun H3 c D3 fr3 c0 c1 => ?_⟩
      replace D3 := D2.fr D3 fr3
      obtain ⟨cn, rfl⟩ := Int.eq_ofNat_of_zero_le c0
      obtain ⟨cc, hcc, c128'⟩ : ∃ cc, [48, 49, 32, 50, 97, 45][cn]? = some cc ∧ cc < 128 := by
        have : cn = 0 ∨ cn = 1 ∨ cn = 2 ∨ cn = 3 ∨ cn = 4 ∨ cn = 5 := by omega
        rcases this with rfl | rfl | rfl | rfl | rfl | rfl <;> exact ⟨_, rfl, by decide⟩
      refine ⟨Str.ofString "01 2a-", (cn : Int), cc, rfl, rfl, by omega, by omega, by rw [six_S, SX.S_len]; exact c1, by rw [six_S]; show ([48, 49, 32, 50, 97, 45] : List Nat).toArray[cn]? = some cc; rw [List.getElem?_toArray]; exact hcc, ?_⟩
      have mem1 : ∀ (a b : List Nat), (∀ x ∈ a, x < 128) → (∀ x ∈ b, x < 128) → ∀ x ∈ a ++ b, x < 128 := fun a b ha hb x hx => (List.mem_append.mp hx).elim (ha x) (hb x)
      have tk : ∀ j, ∀ x ∈ ls.take j, x < 128 := fun j x hx => c128 x (List.mem_of_mem_take hx)
      have dr : ∀ j, ∀ x ∈ ls.drop j, x < 128 := fun j x hx => c128 x (List.mem_of_mem_drop hx)
      have on : ∀ x ∈ [cc], x < 128 := fun x hx => by rw [List.mem_singleton.mp hx]; exact c128'
      have tkl : ∀ j, (ls.take j).length ≤ N := fun j => by rw [List.length_take]; omega
      have drl : ∀ j, (ls.drop j).length ≤ N := fun j => Nat.le_trans (by rw [List.length_drop]; exact Nat.sub_le _ _) ll
      have k1 : (fun i j : Int => V.int (i + j)) (k : Int) 1 = V.int ((k + 1 : Nat) : Int) := by
        show V.int ((k : Int) + 1) = _
        rfl
      -- some
      refine ⟨.str (SX.S ls), rfl, .int (k : Nat), rfl, (k : Int), rfl, SX.S ls, rfl, zl, .str ⟨#[cc]⟩, rfl, _, _, rfl, rfl, ?_, ?_⟩
      · rw [cutS_to, SX.S_len]
        have := tkl k
        exact big _ (show (ls.take k).length + 1 ≤ _ by omega)
      refine ⟨.str (SX.S ls), rfl, .int (k : Nat), rfl, (k : Int), rfl, ?_⟩
      refine ⟨SX.S ls, rfl, zl, _, _, rfl, rfl, ?_, ?_⟩
      · rw [cutS_to, cutS_from, show (⟨#[cc]⟩ : Str) = SX.S [cc] from rfl, SX.S_cat, SX.S_len, SX.S_len, List.length_append]
        have := tkl k
        have := drl k
        exact big _ (show (ls.take k).length + 1 + (ls.drop k).length ≤ _ by omega)
      have k1' : ((k : Int) + 1) = ((k + 1 : Nat) : Int) := rfl
      refine ⟨.str (SX.S ls), rfl, .int (k : Nat), rfl, (k : Int), rfl, SX.S ls, rfl, zl, .str ⟨#[cc]⟩, rfl, _, _, rfl, rfl, ?_, ?_⟩
      · rw [cutS_to, SX.S_len]
        have := tkl k
        exact big _ (show (ls.take k).length + 1 ≤ _ by omega)
      refine ⟨.str (SX.S ls), rfl, .int (k : Nat), rfl, _, _, rfl, rfl, ((k + 1 : Nat) : Int), rfl, ?_⟩
      refine ⟨SX.S ls, rfl, zl, _, _, rfl, rfl, ?_, ?_⟩
      · rw [cutS_to, cutS_from, show (⟨#[cc]⟩ : Str) = SX.S [cc] from rfl, SX.S_cat, SX.S_len, SX.S_len, List.length_append]
        have := tkl k
        have := drl (k + 1)
        exact big _ (show (ls.take k).length + 1 + (ls.drop (k + 1)).length ≤ _ by omega)
      refine ⟨.str (SX.S ls), rfl, .int (k : Nat), rfl, (k : Int), rfl, SX.S ls, rfl, zl, .str (SX.S ls), rfl, .int (k : Nat), rfl, _, _, rfl, rfl, ((k + 1 : Nat) : Int), rfl, ?_⟩
      refine ⟨SX.S ls, rfl, zl, _, _, rfl, rfl, ?_, sl3, fun p1 n1 => ?_⟩
      · rw [cutS_to, cutS_from, SX.S_len, SX.S_len]
        have := tkl k
        have := drl (k + 1)
        exact big _ (show (ls.take k).length + (ls.drop (k + 1)).length ≤ _ by omega)
      have l1 : (⟨#[cc]⟩ : Str) = SX.S [cc] := rfl
      rw [cutS_to, cutS_from, cutS_from, l1, SX.S_cat, SX.S_cat, SX.S_cat, SX.S_cat]
      have s4 := same_upd (o := HO.lst [V.str (SX.S ((ls.take k ++ [cc]) ++ ls.drop k)), .str (SX.S ((ls.take k ++ [cc]) ++ ls.drop (k + 1))), .str (SX.S (ls.take k ++ ls.drop (k + 1)))]) n1
      refine ⟨.ref p1, rfl, .str (SX.S ls), rfl, .str (SX.S ls), rfl, _, _, rfl, rfl, ?_, ?_⟩
      · rw [SX.S_len]
        exact big _ (by omega)
      refine ⟨.str (SX.S ls), rfl, _, _, rfl, rfl, ?_, .str (SX.S ls), rfl, sl1, fun p2 n2 => ⟨.str (SX.S ls), rfl, sl1, fun p3 n3 m3 => ⟨sl4, fun p4 n4 => ?_⟩⟩⟩
      · rw [zero_S, SX.S_len, SX.S_len]
        exact big _ (show ls.length + 1 ≤ _ by omega)
      rw [zero_S, SX.S_cat, SX.S_cat]
      have s5 := same_upd (o := HO.tup [V.str (SX.S ls)]) n2
      have s6 := same_upd (o := HO.lst [V.str (SX.S ls)]) n3
      have s7 := same_upd (o := HO.lst [V.str (SX.S (ls ++ ls)), .str (SX.S (ls ++ [48])), .ref p2, .ref p3]) n4
      refine ⟨p1, p4, _, _, rfl, rfl, s7 _ _ (s6 _ _ (s5 _ _ upd_same)), upd_same, (show 3 + 4 ≤ sizeLine by decide), fun p5 n5 => ?_⟩
      have D4 := D3.same s4
      have o2 := D4.out n2
      have o3 := (D4.same s5).out n3
      have s8 := same_upd (o := HO.lst ([V.str (SX.S ((ls.take k ++ [cc]) ++ ls.drop k)), .str (SX.S ((ls.take k ++ [cc]) ++ ls.drop (k + 1))), .str (SX.S (ls.take k ++ ls.drop (k + 1)))] ++ [V.str (SX.S (ls ++ ls)), .str (SX.S (ls ++ [48])), .ref p2, .ref p3])) n5
      have e2 := s8 _ _ (s7 _ _ (s6 _ _ (show (upd (upd H3 p1 _) p2 (.tup [V.str (SX.S ls)])) p2 = _ from upd_same)))
      have e3 := s8 _ _ (s7 _ _ (show (upd (upd (upd H3 p1 _) p2 (.tup [V.str (SX.S ls)])) p3 (.lst [V.str (SX.S ls)])) p3 = _ from upd_same))
      have sA := (((s4.trans s5).trans s6).trans s7).trans s8
      generalize h9 : upd _ p5 _ = H9
      replace sA : Same H3 H9 := by rw [← h9]; exact sA
      replace e2 : H9 p2 = some (.tup [V.str (SX.S ls)]) := by rw [← h9]; exact e2
      replace e3 : H9 p3 = some (.lst [V.str (SX.S ls)]) := by rw [← h9]; exact e3
      have e9 : H9 p5 = some (.lst [V.str (SX.S ((ls.take k ++ [cc]) ++ ls.drop k)), .str (SX.S ((ls.take k ++ [cc]) ++ ls.drop (k + 1))), .str (SX.S (ls.take k ++ ls.drop (k + 1))), V.str (SX.S (ls ++ ls)), .str (SX.S (ls ++ [48])), .ref p2, .ref p3]) := by rw [← h9]; exact upd_same
      have f0 : ∀ (l' : List Nat), (∀ x ∈ l', x < 128) → l'.length ≤ 2 * N + 1 → Fit (B + 10 ^ 39 + 10) (2 * N + 400) (M + 3) (.str (SX.S l')) := fun l' h1 h2 => fit_S h1 (by omega)
      have fz := f0 ls c128 (by omega)
      have all : ShAll (hid as H9) [V.str (SX.S ((ls.take k ++ [cc]) ++ ls.drop k)), .str (SX.S ((ls.take k ++ [cc]) ++ ls.drop (k + 1))), .str (SX.S (ls.take k ++ ls.drop (k + 1))), V.str (SX.S (ls ++ ls)), .str (SX.S (ls ++ [48])), .ref p2, .ref p3] [.str (SX.S ((ls.take k ++ [cc]) ++ ls.drop k)), .str (SX.S ((ls.take k ++ [cc]) ++ ls.drop (k + 1))), .str (SX.S (ls.take k ++ ls.drop (k + 1))), .str (SX.S (ls ++ ls)), .str (SX.S (ls ++ [48])), .tuple [.str (SX.S ls)], .list [.str (SX.S ls)]] :=
        .cons (.str _) (.cons (.str _) (.cons (.str _) (.cons (.str _) (.cons (.str _) (.cons (.tup (by rw [hid_at o2]; exact e2) (.cons (.str _) .nil)) (.cons (.lst (by rw [hid_at o3]; exact e3) m3 (.cons (.str _) .nil)) .nil))))))
      have t1 : ∀ x ∈ [48], x < 128 := fun x hx => by rw [List.mem_singleton.mp hx]; decide
      have fits : ∀ dd ∈ [PyData.str (SX.S ((ls.take k ++ [cc]) ++ ls.drop k)), .str (SX.S ((ls.take k ++ [cc]) ++ ls.drop (k + 1))), .str (SX.S (ls.take k ++ ls.drop (k + 1))), .str (SX.S (ls ++ ls)), .str (SX.S (ls ++ [48])), .tuple [.str (SX.S ls)], .list [.str (SX.S ls)]], Fit (B + 10 ^ 39 + 10) (2 * N + 400) (M + 3) dd := by
        have a1 := tkl k
        have a2 := drl k
        have a3 := drl (k + 1)
        have sml : ls.length ≤ N := ll
        have w1 : Fit (B + 10 ^ 39 + 10) N (M + 2) (.str (SX.S ls)) := fit_S c128 ll
        intro dd hdd
        rcases List.mem_cons.mp hdd with rfl | hdd
        · exact f0 _ (mem1 _ _ (mem1 _ _ (tk k) on) (dr k)) (by rw [List.length_append, List.length_append, List.length_take, List.length_drop]; simp only [List.length_cons, List.length_nil]; omega)
        rcases List.mem_cons.mp hdd with rfl | hdd
        · exact f0 _ (mem1 _ _ (mem1 _ _ (tk k) on) (dr (k + 1))) (by rw [List.length_append, List.length_append, List.length_take, List.length_drop]; simp only [List.length_cons, List.length_nil]; omega)
        rcases List.mem_cons.mp hdd with rfl | hdd
        · exact f0 _ (mem1 _ _ (tk k) (dr (k + 1))) (by rw [List.length_append, List.length_take, List.length_drop]; omega)
        rcases List.mem_cons.mp hdd with rfl | hdd
        · exact f0 _ (mem1 _ _ c128 c128) (by rw [List.length_append]; omega)
        rcases List.mem_cons.mp hdd with rfl | hdd
        · exact f0 _ (mem1 _ _ c128 t1) (by rw [List.length_append]; simp only [List.length_cons, List.length_nil]; omega)
        rcases List.mem_cons.mp hdd with rfl | hdd
        · exact (Fit.tup (FitL.one w1)).mono (Nat.le_refl _) (by omega) (Nat.le_refl _)
        · rw [List.mem_singleton.mp hdd]
          exact (Fit.lst (FitL.one w1)).mono (Nat.le_refl _) (by omega) (Nat.le_refl _)
      obtain ⟨x, dx, hx, sx, fx⟩ := pick_sh all fits (j := way - 1) (by omega) (show way - 1 < 7 by omega)
      refine ⟨.int way, rfl, _, _, rfl, rfl, p5, _, way - 1, x, rfl, rfl, SqL.of e9, hx, ?_⟩
      exact fin x _ dx 3 ((D3.same sA).mono (by omega)) (by decide) (((fr1.trans fr2).trans fr3).trans (Fr.of sA)) sx fx
    refine ⟨v, rfl, _, _, _, _, _, rfl, .ty _, shH.ty, kit_ty (kitInt dd), _, rfl, ite2 (fun ei => ?_) (fun ei => ?_)⟩
    · -- a number
      obtain ⟨i, hi, bi, dp, shp⟩ : ∃ i, NumZ.nz v = some i ∧ i.natAbs ≤ B + 1 ∧ Dp K H1 v dd ∧ SeqAt.shaped dd = true := by
        rcases isInt_of ei with ⟨i, rfl⟩ | ⟨b, rfl⟩
        · have hv : v = .int i := by cases shH; rfl
          subst hv
          exact ⟨i, rfl, Nat.le_trans (of_decide_eq_true fit.1) (Nat.le_succ _), .int i, rfl⟩
        · have hv : v = .bl b := by cases shH; rfl
          subst hv
          refine ⟨_, rfl, ?_, .bl b, rfl⟩
          cases b <;> simp
      have lg : i.natAbs.log2 < 1920 := Nat.lt_trans (small_log (B := B + 1) bi (by omega)) (by decide)
      refine ⟨v, rfl, i, 1, hi, rfl, v, rfl, i, 1, hi, rfl, .inr ⟨_, rfl⟩, 1, rfl, v, rfl, -1, i, rfl, hi, .inl ⟨_, rfl⟩, v, rfl, dd, .int 1, dp, .int 1, shp, rfl, v, rfl, i, 6, hi, rfl, v, rfl, v, i, rfl, hi, lg, v, rfl, sl1, fun p1 n1 => ⟨(show 7 ≤ sizeLine by decide), fun p2 n2 => ?_⟩⟩
      have s1 := same_upd (o := HO.tup [v]) n1
      have o1 := D1.out n1
      have s2 := same_upd (o := HO.lst [V.int (i + 1), .int (i - 1), .int (-1 - i), .bl (PyData.eqv dd (.int 1)), .int (i + 6), .str (NumZ.strZ v), .ref p1]) n2
      have e1 := s2 _ _ (show (upd H1 p1 (.tup [v])) p1 = _ from upd_same)
      have sA := s1.trans s2
      generalize h9 : upd _ p2 _ = H9
      replace sA : Same H1 H9 := by rw [← h9]; exact sA
      replace e1 : H9 p1 = some (.tup [v]) := by rw [← h9]; exact e1
      have e9 : H9 p2 = some (.lst [V.int (i + 1), .int (i - 1), .int (-1 - i), .bl (PyData.eqv dd (.int 1)), .int (i + 6), .str (NumZ.strZ v), .ref p1]) := by rw [← h9]; exact upd_same
      have all : ShAll (hid as H9) [V.int (i + 1), .int (i - 1), .int (-1 - i), .bl (PyData.eqv dd (.int 1)), .int (i + 6), .str (NumZ.strZ v), .ref p1] [.int (i + 1), .int (i - 1), .int (-1 - i), .bool (PyData.eqv dd (.int 1)), .int (i + 6), .str (NumZ.strZ v), .tuple [dd]] :=
        .cons (.int _) (.cons (.int _) (.cons (.int _) (.cons (.bl _) (.cons (.int _) (.cons (.str _) (.cons (.tup (by rw [hid_at o1]; exact e1) (.cons (sh1.same (hid_same sA)) .nil)) .nil))))))
      have fI : ∀ j : Int, j.natAbs ≤ B + 9 → Fit (B + 10 ^ 39 + 10) (2 * N + 400) (M + 3) (.int j) := fun j hj => by
        refine ⟨decide_eq_true (Nat.le_trans hj (Nat.le_trans (by omega) (b39 B))), ?_, Nat.zero_le _⟩
        show (if j == 0 then 0 else j.natAbs.log2 + 1) ≤ _
        split
        · exact Nat.zero_le _
        · have := small_log (B := B + 9) hj (by omega)
          omega
      have fits : ∀ x ∈ [PyData.int (i + 1), .int (i - 1), .int (-1 - i), .bool (PyData.eqv dd (.int 1)), .int (i + 6), .str (NumZ.strZ v), .tuple [dd]], Fit (B + 10 ^ 39 + 10) (2 * N + 400) (M + 3) x := by
        intro x hx
        rcases List.mem_cons.mp hx with rfl | hx
        · exact fI _ (by omega)
        rcases List.mem_cons.mp hx with rfl | hx
        · exact fI _ (by omega)
        rcases List.mem_cons.mp hx with rfl | hx
        · exact fI _ (by omega)
        rcases List.mem_cons.mp hx with rfl | hx
        · exact ⟨rfl, Nat.zero_le _, Nat.zero_le _⟩
        rcases List.mem_cons.mp hx with rfl | hx
        · exact fI _ (by omega)
        rcases List.mem_cons.mp hx with rfl | hx
        · exact fit_strZ (k := 200) hi (by decide) (by have := small_log (B := B + 1) bi (by omega); omega) (by omega)
        · rw [List.mem_singleton.mp hx]
          exact (Fit.tup (FitL.one fit)).mono (Nat.le_trans (Nat.le_add_right B 10) (b39 B)) (by omega) (by omega)
      obtain ⟨x, dx, hx, sx, fx⟩ := pick_sh all fits (j := way - 1) (by omega) (show way - 1 < 7 by omega)
      refine ⟨.int way, rfl, _, _, rfl, rfl, p2, _, way - 1, x, rfl, rfl, SqL.of e9, hx, ?_⟩
      exact fin x _ dx 1 (D1.same sA) (by decide) (fr1.trans (Fr.of sA)) sx fx
    · have f3 : ∀ u : Int, 0 ≤ u → u < 3 → Fit (B + 10 ^ 39 + 10) (2 * N + 400) (M + 3) (.tuple [.int u]) := fun u a b => by
        have f : Fit 3 399 0 (.int u) := by
          refine ⟨decide_eq_true (by omega), ?_, Nat.zero_le _⟩
          show (if u == 0 then 0 else u.natAbs.log2 + 1) ≤ _
          split
          · exact Nat.zero_le _
          · have := small_log (i := u) (B := 3) (by omega) (by decide)
            omega
        exact (Fit.tup (FitL.one f)).mono (Nat.le_trans (show 3 ≤ B + 10 by omega) (b39 B)) (by omega) (by omega)
      refine ⟨v, rfl, _, _, _, _, _, rfl, .ty _, shH.ty, kit_ty (kitTup dd), _, rfl, ite2 (fun nt => ?_) (fun it => ?_)⟩
      · refine ite2 (fun _ => ?_) (fun z => absurd rfl z)
        refine ⟨.ref d, rfl, d, l, 3, _, rfl, D1.d1, by omega, by decide, by decide, fun H2 u D2 fr2 u0 u1 => ⟨sl1, fun p np => ?_⟩⟩
        replace D2 := D1.fr D2 fr2
        have s3 := same_upd (o := HO.tup [V.int u]) np
        exact fin (.ref p) _ _ 2 ((D2.same s3).mono (by omega)) (by decide) ((fr1.trans fr2).trans (Fr.of s3)) (sh_tup (D2.same s3) upd_same (.cons (.int _) .nil)) (f3 u u0 u1)
      have it' : isTupD dd = true := by
        cases hb : isTupD dd
        · rw [hb] at it
          exact absurd rfl it
        · rfl
      obtain ⟨ds, rfl⟩ := tup_of it'
      cases sh1 with
      | @tup a xs _ ha0 t =>
        have ha : H1 a = some (.tup xs) := hid_le _ _ ha0
        have oa := D1.tupOut ha
        have oad : a ≠ d := fun z => oa (by rw [z]; exact D.hd)
        have oal : a ≠ l := fun z => oa (by rw [z]; exact D.hl)
        refine ⟨.ref a, rfl, Nat.zero_le _, fun p0 n0 => ⟨a, p0, xs, rfl, rfl, SqT.of (same_upd n0 _ _ ha), SqT.of upd_same, _, rfl, ?_⟩⟩
        have s0 := same_upd (o := HO.tup []) n0
        generalize hh2 : upd H1 p0 _ = H2
        replace s0 : Same H1 H2 := by rw [← hh2]; exact s0
        clear hh2
        have D2 := D1.same s0
        refine ite2 (fun em => ?_) (fun ne => ?_)
        · refine ⟨.ref d, rfl, d, l, 3, _, rfl, D2.d1, by omega, by decide, by decide, fun H3 u D3 fr3 u0 u1 => ⟨sl1, fun p np => ?_⟩⟩
          replace D3 := D2.fr D3 fr3
          have s3 := same_upd (o := HO.tup [V.int u]) np
          exact fin (.ref p) _ _ 2 ((D3.same s3).mono (by omega)) (by decide) (((fr1.trans (Fr.of s0)).trans fr3).trans (Fr.of s3)) (sh_tup (D3.same s3) upd_same (.cons (.int _) .nil)) (f3 u u0 u1)
        obtain ⟨x0, hx0⟩ : ∃ x0, xs[0]? = some x0 := by
          cases xs with
          | nil => exact absurd rfl ne
          | cons y r => exact ⟨y, rfl⟩
        have pos : 0 < xs.length := (List.getElem?_eq_some_iff.mp hx0).1
        obtain ⟨m, rfl⟩ : ∃ m, M = m + 1 := by
          cases M with
          | zero => exact absurd fit.2.2 (Nat.not_succ_le_zero _)
          | succ m => exact ⟨m, rfl⟩
        have fl : FitL B N m ds := fit.inv
        have lx := t.length
        have lN : xs.length ≤ N := by
          rw [lx]
          exact Nat.le_trans (len_weight ds) fl.2.1
        have big : ∀ k : Nat, k ≤ 2 * N + 100 → k ≤ sizeLine := fun k hk => Nat.le_trans hk (Nat.le_trans (show 2 * N + 100 ≤ 40000 by omega) (by decide))
        have tkl : ∀ j, (xs.take j).length ≤ N := fun j => by rw [List.length_take]; omega
        have drl : ∀ j, (xs.drop j).length ≤ N := fun j => Nat.le_trans (by rw [List.length_drop]; exact Nat.sub_le _ _) lN
        refine ⟨.ref d, rfl, .ref a, rfl, a, xs, rfl, .inr (SqT.of (s0 _ _ ha)), d, l, _, _, rfl, D2.d1, by omega, by omega, by omega, fun H3 ki D3 fr3 k0 k1 => ?_⟩
        replace D3 := D2.fr D3 fr3
        obtain ⟨k, rfl⟩ := Int.eq_ofNat_of_zero_le k0
        have hk : k < xs.length := by omega
        have ha3 : H3 a = some (.tup xs) := fr3 _ _ oad oal (s0 _ _ ha)
        have t3 : ShAll (hid as H3) xs ds := t.same ((hid_same s0).trans (hid_fr fr3 D.hd D.hl))
        -- t[:at] + t[at + 1:]
        refine ⟨.ref a, rfl, .int k, rfl, (k : Int), rfl, slA ha3 fun q1 H4 s4 h4 => ?_⟩
        rw [cut_to] at h4
        refine ⟨.ref a, rfl, .int k, rfl, _, _, rfl, rfl, ((k + 1 : Nat) : Int), rfl, slAn (s4 _ _ ha3) fun q2 H5 s5 h5 => ?_⟩
        rw [cut_from] at h5
        refine catA (s5 _ _ h4) h5 ?_ fun q3 H6 s6 h6 => ?_
        · have := tkl k
          have := drl (k + 1)
          exact big _ (by omega)
        have g6 := (s4.trans s5).trans s6
        -- t[:at + 1] + t[at:]
        refine ⟨.ref a, rfl, .int k, rfl, _, _, rfl, rfl, ((k + 1 : Nat) : Int), rfl, slA (g6 _ _ ha3) fun q4 H7 s7 h7 => ?_⟩
        rw [cut_to] at h7
        refine ⟨.ref a, rfl, .int k, rfl, (k : Int), rfl, slAn ((g6.trans s7) _ _ ha3) fun q5 H8 s8 h8 => ?_⟩
        rw [cut_from] at h8
        refine catA (s8 _ _ h7) h8 ?_ fun q6 H9 s9 h9 => ?_
        · have := tkl (k + 1)
          have := drl k
          exact big _ (by omega)
        have g9 := ((g6.trans s7).trans s8).trans s9
        -- t[::-1], list(t)
        refine ⟨.ref a, rfl, a, xs, rfl, SqT.of (g9 _ _ ha3), fun q7 n7 => ?_⟩
        have s10 := same_upd (o := HO.tup xs.reverse) n7
        have h10 : (upd H9 q7 (.tup xs.reverse)) q7 = _ := upd_same
        generalize hh10 : upd H9 q7 _ = H10
        replace s10 : Same H9 H10 := by rw [← hh10]; exact s10
        replace h10 : H10 q7 = some (.tup xs.reverse) := by rw [← hh10]; exact h10
        clear hh10
        refine ⟨.ref a, rfl, a, xs, rfl, SqT.of ((g9.trans s10) _ _ ha3), fun q8 n8 m8 => ?_⟩
        have s11 := same_upd (o := HO.lst xs) n8
        have o8 := (D3.same (g9.trans s10)).out n8
        have h11 : (upd H10 q8 (.lst xs)) q8 = _ := upd_same
        generalize hh11 : upd H10 q8 _ = H11
        replace s11 : Same H10 H11 := by rw [← hh11]; exact s11
        replace h11 : H11 q8 = some (.lst xs) := by rw [← hh11]; exact h11
        clear hh11
        refine ⟨(show 4 ≤ sizeLine by decide), fun q9 n9 => ?_⟩
        have s12 := same_upd (o := HO.lst [V.ref q3, .ref q6, .ref q7, .ref q8]) n9
        have h12 : (upd H11 q9 (.lst [V.ref q3, .ref q6, .ref q7, .ref q8])) q9 = _ := upd_same
        generalize hh12 : upd H11 q9 _ = H12
        replace s12 : Same H11 H12 := by rw [← hh12]; exact s12
        replace h12 : H12 q9 = some (.lst [V.ref q3, .ref q6, .ref q7, .ref q8]) := by rw [← hh12]; exact h12
        clear hh12
        have g12 := ((g9.trans s10).trans s11).trans s12
        have ha12 := g12 _ _ ha3
        -- put, one more, the part
        refine ⟨.ref q9, rfl, .ref a, rfl, .int k, rfl, .ref a, rfl, a, xs, 0, x0, rfl, rfl, SqT.of ha12, atI_nat (j := 0) hx0, a, k, x0, xs, rfl, ha12, hk, by omega, fun r1 H13 s13 h13 => ?_⟩
        obtain ⟨xk, hxk⟩ : ∃ xk, xs[k]? = some xk := ⟨_, List.getElem?_eq_getElem hk⟩
        have ha13 := s13 _ _ ha12
        refine ⟨.ref a, rfl, .ref a, rfl, .int k, rfl, a, xs, (k : Int), xk, rfl, rfl, SqT.of ha13, atI_nat hxk, sl1, fun r2 n14 => ?_⟩
        have s14 := same_upd (o := HO.tup [xk]) n14
        have h14 : (upd H13 r2 (.tup [xk])) r2 = _ := upd_same
        generalize hh14 : upd H13 r2 _ = H14
        replace s14 : Same H13 H14 := by rw [← hh14]; exact s14
        replace h14 : H14 r2 = some (.tup [xk]) := by rw [← hh14]; exact h14
        clear hh14
        refine catA (s14 _ _ ha13) h14 ?_ fun r3 H15 s15 h15 => ?_
        · exact big _ (show xs.length + 1 ≤ _ by omega)
        have ha15 := s15 _ _ (s14 _ _ ha13)
        refine ⟨.ref a, rfl, .int k, rfl, a, xs, (k : Int), xk, rfl, rfl, SqT.of ha15, atI_nat hxk, (show 3 ≤ sizeLine by decide), fun r4 n16 => ?_⟩
        have s16 := same_upd (o := HO.lst [V.ref r1, .ref r3, xk]) n16
        have h16 : (upd H15 r4 (.lst [V.ref r1, .ref r3, xk])) r4 = _ := upd_same
        generalize hh16 : upd H15 r4 _ = H16
        replace s16 : Same H15 H16 := by rw [← hh16]; exact s16
        replace h16 : H16 r4 = some (.lst [V.ref r1, .ref r3, xk]) := by rw [← hh16]; exact h16
        clear hh16
        have g16 := ((s13.trans s14).trans s15).trans s16
        refine ⟨q9, r4, _, _, rfl, rfl, g16 _ _ h12, h16, (show 4 + 3 ≤ sizeLine by decide), fun r5 n17 => ?_⟩
        have s17 := same_upd (o := HO.lst ([V.ref q3, .ref q6, .ref q7, .ref q8] ++ [V.ref r1, .ref r3, xk])) n17
        have h17 : (upd H16 r5 (.lst ([V.ref q3, .ref q6, .ref q7, .ref q8] ++ [V.ref r1, .ref r3, xk]))) r5 = _ := upd_same
        generalize hh17 : upd H16 r5 _ = H17
        replace s17 : Same H16 H17 := by rw [← hh17]; exact s17
        replace h17 : H17 r5 = some (.lst [V.ref q3, .ref q6, .ref q7, .ref q8, .ref r1, .ref r3, xk]) := by rw [← hh17]; exact h17
        clear hh17
        have gA := (g12.trans g16).trans s17
        have t17 := t3.same (hid_same gA)
        have D17 := D3.same gA
        obtain ⟨d0, hd0, sd0⟩ := t17.get hx0
        obtain ⟨dk, hdk, sdk⟩ := t17.get hxk
        have z16 := g16.trans s17
        have z11 := s12.trans z16
        have z10 := s11.trans z11
        have z9 := s10.trans z10
        have e3 := ((s7.trans s8).trans (s9.trans z9)) _ _ h6
        have e6 := z9 _ _ h9
        have e7 := z10 _ _ h10
        have e8 := z11 _ _ h11
        have e1 := (((s14.trans s15).trans s16).trans s17) _ _ h13
        rw [← set_put hk] at e1
        have e15 := (s16.trans s17) _ _ h15
        have all : ShAll (hid as H17) [V.ref q3, .ref q6, .ref q7, .ref q8, .ref r1, .ref r3, xk] [.tuple (ds.take k ++ ds.drop (k + 1)), .tuple (ds.take (k + 1) ++ ds.drop k), .tuple ds.reverse, .list ds, .tuple ((ds.take k ++ [d0]) ++ ds.drop (k + 1)), .tuple (ds ++ [dk]), dk] :=
          .cons (sh_tup D17 e3 ((t17.take k).append (t17.drop (k + 1)))) (.cons (sh_tup D17 e6 ((t17.take (k + 1)).append (t17.drop k))) (.cons (sh_tup D17 e7 t17.rev) (.cons (.lst (by rw [hid_at o8]; exact e8) m8 t17) (.cons (sh_tup D17 e1 (((t17.take k).append (.cons sd0 .nil)).append (t17.drop (k + 1)))) (.cons (sh_tup D17 e15 (t17.append (.cons sdk .nil))) (.cons sdk .nil))))))
        have wB : B ≤ B + 10 ^ 39 + 10 := Nat.le_trans (Nat.le_add_right B 10) (b39 B)
        have cl : ∀ n' m' x, Fit B n' m' x → n' ≤ 2 * N + 400 → m' ≤ m + 1 + 3 → Fit (B + 10 ^ 39 + 10) (2 * N + 400) (m + 1 + 3) x := fun n' m' x f a b => f.mono wB a b
        have f0 := fl.get hd0
        have fk := fl.get hdk
        have fits : ∀ x ∈ [PyData.tuple (ds.take k ++ ds.drop (k + 1)), .tuple (ds.take (k + 1) ++ ds.drop k), .tuple ds.reverse, .list ds, .tuple ((ds.take k ++ [d0]) ++ ds.drop (k + 1)), .tuple (ds ++ [dk]), dk], Fit (B + 10 ^ 39 + 10) (2 * N + 400) (m + 1 + 3) x := by
          intro x hx
          rcases List.mem_cons.mp hx with rfl | hx
          · exact cl _ _ _ (Fit.tup ((fl.take k).app (fl.drop (k + 1)))) (by omega) (by omega)
          rcases List.mem_cons.mp hx with rfl | hx
          · exact cl _ _ _ (Fit.tup ((fl.take (k + 1)).app (fl.drop k))) (by omega) (by omega)
          rcases List.mem_cons.mp hx with rfl | hx
          · exact cl _ _ _ (Fit.tup fl.rev) (by omega) (by omega)
          rcases List.mem_cons.mp hx with rfl | hx
          · exact cl _ _ _ (Fit.lst fl) (by omega) (by omega)
          rcases List.mem_cons.mp hx with rfl | hx
          · exact cl _ _ _ (fit_put hdk fl f0) (by omega) (by omega)
          rcases List.mem_cons.mp hx with rfl | hx
          · exact cl _ _ _ (Fit.tup (fl.app (FitL.one fk))) (by omega) (by omega)
          · rw [List.mem_singleton.mp hx]
            exact cl _ _ _ fk (by omega) (by omega)
        obtain ⟨x, dx, hx, sx, fx⟩ := pick_sh all fits (j := way - 1) (by omega) (show way - 1 < 7 by omega)
        refine ⟨.int way, rfl, _, _, rfl, rfl, r5, _, way - 1, x, rfl, rfl, SqL.of h17, hx, ?_⟩
        exact fin x _ dx 2 (D17.mono (by omega)) (by decide) (((fr1.trans (Fr.of s0)).trans fr3).trans (Fr.of gA)) sx fx

end
end Gk

set_option Elab.async false
set_option linter.all false
set_option maxRecDepth 100000
set_option maxHeartbeats 1000000
set_option pp.maxSteps 1500
set_option pp.deepTerms false
namespace Gk
open PySem PySem.Spec PyProof.Rows L2
section
variable {P : Program} {w : World} {K : PySem.W.Frag} {mg : Str → Option Value} {base : Heap}
/-! ### something spoilt within -/
theorem never_ok {f : Addr} {fd : FuncData} {ps : List Str} : FnOk P w K mg base CX0 0 f fd ps (fun _ _ _ _ => False) := ⟨fun _ _ _ _ h => h.elim, fun _ _ _ _ _ _ _ _ _ _ _ _ _ h => h.elim⟩
def sp_spoilt (K : PySem.W.Frag) (e : Nat) : Sp := fun vs H Q _ => ∃ (as : List Addr) (d l : Addr) (n : Int) (v : V) (dd : PyData) (B N M : Nat), vs = [.ref d, v, .int (e : Int)] ∧ DA as H d l n ∧ n + 10 * (e : Int) < 900000 ∧ Sh (hid as H) v dd ∧ Fit B N M dd ∧ B < 2 ^ 180 ∧ N ≤ 10000 ∧
  ∀ v' H' dd', DA as H' d l (n + 5 + 2 * (e : Int)) → Fr d l H H' → Sh (hid as H') v' dd' → Fit (B + 10 ^ 39 + 10) (2 * N + 400 + e) (M + 3) dd' → Q v' H'
theorem ok_spoilt0 (T : Tx w K mg) : FnOk P w K mg base CX0 4 T.f_spoilt T.fd_spoilt ["_law_deck_here", "_law_thing", "_law_deep"] (sp_spoilt K 0) := by
  refine T.F_spoilt.ok sc_spoilt (fun vs H Q E h => ?_) (fun cdv A outer s H vs Q E hr h => ?_)
  · obtain ⟨as, d, l, n, v, dd, B, N, M, rfl, _⟩ := h
    rfl
  · obtain ⟨as, d, l, n, v, dd, B, N, M, rfl, D, hn, sh, fit, hB, hN, q⟩ := h
    refine ⟨_, (pss_cons (ps_if (pw_or (pt_cmpR op_eq (pv 2) pe_int (nomark _)) (pw_or (pt_not (pt_val (pe_callB call_isi (by rfl) T.m_isinstance (by decide +kernel) (pa_cons (pv 1) (pa_cons (pe_bltn (v := .ty "tuple") (u := .type "tuple") (by rfl) T.m_tuple (by decide +kernel) rfl) pa_nil))))) (pw_or (pt_cmpR (TupRev.op_eqE hr.units) (pv 1) (pe_tup pa_nil) (nomark _)) (pw_or1 (pt_cmpR op_eq (pe_call (ok_take T) (hr.mono (by omega)) (by rfl) T.g_take T.F_take.kp T.b_take .nil pass0 (pa_cons (pv 0) (pa_cons pe_int pa_nil))) pe_int (nomark _)))))).pt (pss_one (ps_ret (pe_call (ok_other T) (hr.mono (by omega)) (by rfl) T.g_other T.F_other.kp T.b_other .nil pass0 (pa_cons (pv 0) (pa_cons (pv 1) pa_nil))))) pss_nil) (pss_cons (ps_set (i := 3) sc_spoilt.nd rfl (by first | exact .inl rfl | exact .inr rfl) (pe_call (ok_take T) (hr.mono (by omega)) (by rfl) T.g_take T.F_take.kp T.b_take .nil pass0 (pa_cons (pv 0) (pa_cons (pe_callB call_len_seq (by rfl) T.m_len PySem.boot_len (pa_cons (pv 1) pa_nil)) pa_nil)))) (pss_one (ps_ret (pe_call (ok_put T) (hr.mono (by omega)) (by rfl) T.g_put T.F_put.kp T.b_put .nil pass0 (pa_cons (pv 1) (pa_cons (pv 3) (pa_cons (pe_call (never_ok) (hr.mono (by omega)) (by rfl) T.g_spoilt T.F_spoilt.kp T.b_spoilt .nil pass0 (pa_cons (pv 0) (pa_cons (pe_ix ix_tup (pv 1) (pv 3) (fun _ _ => rfl)) (pa_cons (pe_op op_sub (pv 2) pe_int) pa_nil)))) pa_nil)))))))), ?_⟩
    refine ⟨.int 0, rfl, rfl, _, rfl, ite2 (fun _ => ?_) (fun z => absurd rfl z)⟩
    refine ite2 (fun _ => ?_) (fun z => absurd rfl z)
    refine ⟨.ref d, rfl, v, rfl, as, d, l, n, v, dd, B, N, M, rfl, D, by omega, sh, fit, hB, hN, fun v' H' dd' D' fr' sh' fit' => ?_⟩
    exact q v' H' dd' (D'.mono (by omega)) fr' sh' (fit'.mono (Nat.le_refl _) (by omega) (Nat.le_refl _))
theorem FitL.mono {B n m B' n' m' : Nat} {ds : List PyData} (h : FitL B n m ds) (a : B ≤ B') (b : n ≤ n') (c : m ≤ m') : FitL B' n' m' ds := ⟨gds_iff.mpr fun x hx => gd_mono a (gds_iff.mp h.1 x hx), Nat.le_trans h.2.1 b, Nat.le_trans h.2.2 c⟩
theorem fit_put2 {B n n' m k : Nat} {ds : List PyData} {dk d0 : PyData} (hk : ds[k]? = some dk) (fl : FitL B n m ds) (f0 : Fit B n' m d0) : Fit B (n + n' + 1) (m + 1) (.tuple ((ds.take k ++ [d0]) ++ ds.drop (k + 1))) := by
  have e : ds = ds.take k ++ ([dk] ++ ds.drop (k + 1)) := by
    obtain ⟨hl, e'⟩ := List.getElem?_eq_some_iff.mp hk
    rw [← e', List.singleton_append, List.getElem_cons_drop, List.take_append_drop]
  have w : PyData.weightAll (ds.take k) + (PyData.weightAll [dk] + PyData.weightAll (ds.drop (k + 1))) ≤ n := by
    rw [← weight_app, ← weight_app, ← e]
    exact fl.2.1
  have one := FitL.one f0
  have a := ((fl.take k).app one).app (fl.drop (k + 1))
  refine Fit.tup ⟨a.1, ?_, a.2.2⟩
  rw [weight_app, weight_app]
  have := one.2.1
  omega
theorem fit_put3 {B n m k c : Nat} {ds : List PyData} {dk d0 : PyData} (hk : ds[k]? = some dk) (fl : FitL B n m ds) (f0 : Fit B (2 * dk.weight + c) m d0) : Fit B (2 * n + c) (m + 1) (.tuple ((ds.take k ++ [d0]) ++ ds.drop (k + 1))) := by
  have e : ds = ds.take k ++ ([dk] ++ ds.drop (k + 1)) := by
    obtain ⟨hl, e'⟩ := List.getElem?_eq_some_iff.mp hk
    rw [← e', List.singleton_append, List.getElem_cons_drop, List.take_append_drop]
  have w : PyData.weightAll (ds.take k) + ((dk.weight + 1 + 0) + PyData.weightAll (ds.drop (k + 1))) ≤ n := by
    have h : PyData.weightAll (ds.take k) + (PyData.weightAll [dk] + PyData.weightAll (ds.drop (k + 1))) ≤ n := by
      rw [← weight_app, ← weight_app, ← e]
      exact fl.2.1
    exact h
  have one := FitL.one f0
  have a := ((fl.take k).app one).app (fl.drop (k + 1))
  refine Fit.tup ⟨a.1, ?_, a.2.2⟩
  rw [weight_app, weight_app]
  have := f0.2.1
  have e1 : PyData.weightAll [d0] = d0.weight + 1 + 0 := rfl
  rw [e1]
  omega
theorem ok_spoiltE (T : Tx w K mg) : ∀ e : Nat, FnOk P w K mg base CX0 (e + 4) T.f_spoilt T.fd_spoilt ["_law_deck_here", "_law_thing", "_law_deep"] (sp_spoilt K e)
  | 0 => ok_spoilt0 T
  | e + 1 => by
    have ih := ok_spoiltE T e
    refine T.F_spoilt.ok sc_spoilt (fun vs H Q E h => ?_) (fun cdv A outer s H vs Q E hr h => ?_)
    · obtain ⟨as, d, l, n, v, dd, B, N, M, rfl, _⟩ := h
      rfl
    · obtain ⟨as, d, l, n, v, dd, B, N, M, rfl, D, hn, sh, fit, hB, hN, q⟩ := h
      push_cast at hn q
      refine ⟨_, (pss_cons (ps_if (pw_or (pt_cmpR op_eq (pv 2) pe_int (nomark _)) (pw_or (pt_not (pt_val (pe_callB call_isi (by rfl) T.m_isinstance (by decide +kernel) (pa_cons (pv 1) (pa_cons (pe_bltn (v := .ty "tuple") (u := .type "tuple") (by rfl) T.m_tuple (by decide +kernel) rfl) pa_nil))))) (pw_or (pt_cmpR (TupRev.op_eqE hr.units) (pv 1) (pe_tup pa_nil) (nomark _)) (pw_or1 (pt_cmpR op_eq (pe_call (ok_take T) (hr.mono (by omega)) (by rfl) T.g_take T.F_take.kp T.b_take .nil pass0 (pa_cons (pv 0) (pa_cons pe_int pa_nil))) pe_int (nomark _)))))).pt (pss_one (ps_ret (pe_call (ok_other T) (hr.mono (by omega)) (by rfl) T.g_other T.F_other.kp T.b_other .nil pass0 (pa_cons (pv 0) (pa_cons (pv 1) pa_nil))))) pss_nil) (pss_cons (ps_set (i := 3) sc_spoilt.nd rfl (by first | exact .inl rfl | exact .inr rfl) (pe_call (ok_take T) (hr.mono (by omega)) (by rfl) T.g_take T.F_take.kp T.b_take .nil pass0 (pa_cons (pv 0) (pa_cons (pe_callB call_len_seq (by rfl) T.m_len PySem.boot_len (pa_cons (pv 1) pa_nil)) pa_nil)))) (pss_one (ps_ret (pe_call (ok_put T) (hr.mono (by omega)) (by rfl) T.g_put T.F_put.kp T.b_put .nil pass0 (pa_cons (pv 1) (pa_cons (pv 3) (pa_cons (pe_call (ih) (hr.mono (by omega)) (by rfl) T.g_spoilt T.F_spoilt.kp T.b_spoilt .nil pass0 (pa_cons (pv 0) (pa_cons (pe_ix ix_tup (pv 1) (pv 3) (fun _ _ => rfl)) (pa_cons (pe_op op_sub (pv 2) pe_int) pa_nil)))) pa_nil)))))))), ?_⟩
      have oth : ∀ H1 (j : Int) X, DA as H1 d l (n + j) → 0 ≤ j → j ≤ 1 → Fr d l H H1 → Sh (hid as H1) v dd → sp_other K [.ref d, v] H1 Q X := fun H1 j X D1 j0 j1 fr1 sh1 =>
        ⟨as, d, l, n + j, v, dd, B, N, M, rfl, D1, by omega, sh1, fit, hB, hN, fun v' H' dd' D' fr' sh' fit' => q v' H' dd' (D'.mono (by omega)) (fr1.trans fr') sh' (fit'.mono (Nat.le_refl _) (by omega) (Nat.le_refl _))⟩
      have shH : Sh H v dd := sh.same hid_le
      refine ⟨_, rfl, rfl, _, rfl, ite2 (fun z => ?_) (fun _ => ?_)⟩
      · exact absurd (V.int.inj (of_decide_eq_true z)) (by omega)
      refine ⟨v, rfl, _, _, _, _, _, rfl, .ty _, shH.ty, kit_ty (kitTup dd), _, rfl, ite2 (fun nt => ?_) (fun it => ?_)⟩
      · refine ite2 (fun _ => ?_) (fun z => absurd rfl z)
        exact ⟨.ref d, rfl, v, rfl, oth H 0 E0 (D.mono (by omega)) (by decide) (by decide) (fun _ _ _ _ e => e) sh⟩
      have it' : isTupD dd = true := by
        cases hb : isTupD dd
        · rw [hb] at it
          exact absurd rfl it
        · rfl
      obtain ⟨ds, rfl⟩ := tup_of it'
      obtain ⟨a, xs, rfl, ha0, t⟩ : ∃ a xs, v = .ref a ∧ hid as H a = some (.tup xs) ∧ ShAll (hid as H) xs ds := by
        cases sh with
        | @tup a xs _ ha0 t => exact ⟨a, xs, rfl, ha0, t⟩
      have ha : H a = some (.tup xs) := hid_le _ _ ha0
      have oa := D.tupOut ha
      have oad : a ≠ d := fun z => oa (by rw [z]; exact D.hd)
      have oal : a ≠ l := fun z => oa (by rw [z]; exact D.hl)
      refine ⟨.ref a, rfl, Nat.zero_le _, fun p0 n0 => ⟨a, p0, xs, rfl, rfl, SqT.of (same_upd n0 _ _ ha), SqT.of upd_same, _, rfl, ?_⟩⟩
      have s0 := same_upd (o := HO.tup []) n0
      generalize hh2 : upd H p0 _ = H2
      replace s0 : Same H H2 := by rw [← hh2]; exact s0
      clear hh2
      have D2 := D.same s0
      refine ite2 (fun em => ?_) (fun ne => ?_)
      · refine ite2 (fun _ => ?_) (fun z => absurd rfl z)
        exact ⟨.ref d, rfl, .ref a, rfl, oth H2 0 E0 (D2.mono (by omega)) (by decide) (by decide) (Fr.of s0) (sh.same (hid_same s0))⟩
      refine ⟨.ref d, rfl, d, l, 5, _, rfl, D2.d1, by omega, by decide, by decide, fun H3 u D3 fr3 u0 u1 => ⟨rfl, _, rfl, ?_⟩⟩
      replace D3 := D2.fr D3 fr3
      have f3 := (Fr.of s0).trans fr3
      have sh3 := sh.same (hid_fr f3 D.hd D.hl)
      refine ite2 (fun _ => ?_) (fun _ => ?_)
      · exact ⟨.ref d, rfl, .ref a, rfl, oth H3 1 E0 D3 (by decide) (by decide) f3 sh3⟩
      have pos : 0 < xs.length := by
        cases xs with
        | nil => exact absurd rfl ne
        | cons y r => exact Nat.succ_pos _
      obtain ⟨m, rfl⟩ : ∃ m, M = m + 1 := by
        cases M with
        | zero => exact absurd fit.2.2 (Nat.not_succ_le_zero _)
        | succ m => exact ⟨m, rfl⟩
      have fl : FitL B N m ds := fit.inv
      have lx := t.length
      have lN : xs.length ≤ N := by
        rw [lx]
        exact Nat.le_trans (len_weight ds) fl.2.1
      have ha3 : H3 a = some (.tup xs) := f3 _ _ oad oal ha
      refine ⟨.ref d, rfl, .ref a, rfl, a, xs, rfl, .inr (SqT.of ha3), d, l, _, _, rfl, D3.d1, by omega, by omega, by omega, fun H4 ki D4 fr4 k0 k1 => ?_⟩
      replace D4 := D3.fr D4 fr4
      obtain ⟨k, rfl⟩ := Int.eq_ofNat_of_zero_le k0
      have hk : k < xs.length := by omega
      have f4 := f3.trans fr4
      have ha4 : H4 a = some (.tup xs) := f4 _ _ oad oal ha
      obtain ⟨xk, hxk⟩ : ∃ xk, xs[k]? = some xk := ⟨_, List.getElem?_eq_getElem hk⟩
      obtain ⟨dk, hdk, sdk⟩ := (t.same (hid_fr f4 D.hd D.hl)).get hxk
      have fk := fl.get hdk
      refine ⟨.ref a, rfl, .int k, rfl, .ref d, rfl, .ref a, rfl, .int k, rfl, a, xs, (k : Int), xk, rfl, rfl, SqT.of ha4, atI_nat hxk, _, rfl, _, _, rfl, rfl, ?_⟩
      refine ⟨as, d, l, _, xk, dk, B, dk.weight, m, (by show [V.ref d, xk, V.int (((e + 1 : Nat) : Int) - 1)] = _; rw [show (((e + 1 : Nat) : Int) - 1) = (e : Int) by omega]), D4, by omega, sdk, ⟨fk.1, Nat.le_refl _, fk.2.2⟩, hB, Nat.le_trans fk.2.1 hN, fun v' H5 dd' D5 fr5 sh5 fit5 => ?_⟩
      have f5 := f4.trans fr5
      refine ⟨a, k, v', xs, rfl, f5 _ _ oad oal ha, hk, by omega, fun r H6 s6 h6 => ?_⟩
      rw [← set_put hk] at h6
      have D6 := D5.same s6
      have t6 : ShAll (hid as H6) xs ds := t.same (hid_fr (f5.trans (Fr.of s6)) D.hd D.hl)
      have wB : B ≤ B + 10 ^ 39 + 10 := Nat.le_trans (Nat.le_add_right B 10) (b39 B)
      refine q _ _ _ (D6.mono (by omega)) (f5.trans (Fr.of s6)) (sh_tup D6 h6 (((t6.take k).append (.cons (sh5.same (hid_same s6)) .nil)).append (t6.drop (k + 1)))) ?_
      exact (fit_put3 (c := 400 + e) hdk (fl.mono wB (Nat.le_refl _) (by omega)) (fit5.mono (Nat.le_refl _) (by omega) (Nat.le_refl _))).mono (Nat.le_refl _) (by omega) (by omega)

end
end Gk

set_option Elab.async false
set_option linter.all false
set_option maxRecDepth 100000
set_option maxHeartbeats 1000000
set_option pp.maxSteps 1500
set_option pp.deepTerms false
namespace Gk
open PySem PySem.Spec PyProof.Rows L2
/-! ### forms -/
inductive Fm where
  | st (b : Bool)
  | inp (i : Nat)
  | no (f : Fm)
  | op (c : Bool) (fs : List Fm)
def wSt (b : Bool) : Str := if b = true then wOne else wNou
def wOp (c : Bool) : Str := if c = true then wAnd else wOr
mutual
def Fm.d : Fm → PyData
  | .st b => .tuple [.str (wSt b)]
  | .inp i => .tuple [.str wIn, .int i]
  | .no f => .tuple [.str wNot, f.d]
  | .op c fs => .tuple [.str (wOp c), .tuple (Fm.dl fs)]
def Fm.dl : List Fm → List PyData
  | [] => []
  | f :: r => f.d :: Fm.dl r
end
theorem Fm.dl_map : ∀ fs : List Fm, Fm.dl fs = fs.map Fm.d
  | [] => rfl
  | f :: r => by
    show f.d :: Fm.dl r = _
    rw [Fm.dl_map r]
    rfl
mutual
def Fm.ok (m : Nat) : Fm → Bool
  | .st _ => true
  | .inp i => decide (i < m)
  | .no f => f.ok m
  | .op _ fs => (decide (2 ≤ fs.length) && decide (fs.length ≤ 4)) && Fm.oks m fs
def Fm.oks (m : Nat) : List Fm → Bool
  | [] => true
  | f :: r => f.ok m && Fm.oks m r
end
mutual
def Fm.cnt : Fm → Nat
  | .st _ => 1
  | .inp _ => 1
  | .no f => 1 + f.cnt
  | .op _ fs => 1 + Fm.cnts fs
def Fm.cnts : List Fm → Nat
  | [] => 0
  | f :: r => f.cnt + Fm.cnts r
end
mutual
def Fm.lv : Fm → Nat
  | .st _ => 1
  | .inp _ => 1
  | .no f => f.lv
  | .op _ fs => Fm.lvs fs
def Fm.lvs : List Fm → Nat
  | [] => 0
  | f :: r => f.lv + Fm.lvs r
end
mutual
def Fm.dep : Fm → Nat
  | .st _ => 1
  | .inp _ => 1
  | .no f => f.dep + 1
  | .op _ fs => Fm.deps fs + 1
def Fm.deps : List Fm → Nat
  | [] => 0
  | f :: r => max f.dep (Fm.deps r)
end
def Fm.inner : Fm → List Fm
  | .no f => [f]
  | .op _ fs => fs
  | _ => []
theorem Fm.oks_mem {m : Nat} : ∀ {fs : List Fm}, Fm.oks m fs = true ↔ ∀ f ∈ fs, f.ok m = true
  | [] => ⟨(fun _ f h => by cases h), fun _ => rfl⟩
  | f :: r => by
    show (f.ok m && Fm.oks m r) = true ↔ _
    rw [Bool.and_eq_true, Fm.oks_mem (fs := r)]
    exact ⟨fun ⟨a, b⟩ x hx => (List.mem_cons.mp hx).elim (fun e => e ▸ a) (b x), fun h => ⟨h f List.mem_cons_self, fun x hx => h x (List.mem_cons_of_mem _ hx)⟩⟩
theorem Fm.deps_mem : ∀ {fs : List Fm} {f : Fm}, f ∈ fs → f.dep ≤ Fm.deps fs
  | g :: r, f, h => by
    show f.dep ≤ max g.dep (Fm.deps r)
    rcases List.mem_cons.mp h with e | e
    · rw [e]; exact Nat.le_max_left _ _
    · exact Nat.le_trans (Fm.deps_mem e) (Nat.le_max_right _ _)
theorem Fm.deps_le : ∀ {fs : List Fm} {k : Nat}, (∀ f ∈ fs, f.dep ≤ k) → Fm.deps fs ≤ k
  | [], _, _ => Nat.zero_le _
  | g :: r, k, h => Nat.max_le.mpr ⟨h g List.mem_cons_self, Fm.deps_le fun f hf => h f (List.mem_cons_of_mem _ hf)⟩
theorem Fm.inner_dep {f g : Fm} (h : g ∈ f.inner) : g.dep + 1 ≤ f.dep := by
  cases f with
  | st _ => cases h
  | inp _ => cases h
  | no f => rw [List.mem_singleton.mp h]; exact Nat.le_refl _
  | op c fs => exact Nat.succ_le_succ (Fm.deps_mem h)
theorem Fm.cnts_app : ∀ a b : List Fm, Fm.cnts (a ++ b) = Fm.cnts a + Fm.cnts b
  | [], b => (Nat.zero_add _).symm
  | f :: r, b => by
    show f.cnt + Fm.cnts (r ++ b) = f.cnt + Fm.cnts r + Fm.cnts b
    rw [Fm.cnts_app r b]
    omega
theorem Fm.lvs_app : ∀ a b : List Fm, Fm.lvs (a ++ b) = Fm.lvs a + Fm.lvs b
  | [], b => (Nat.zero_add _).symm
  | f :: r, b => by
    show f.lv + Fm.lvs (r ++ b) = f.lv + Fm.lvs r + Fm.lvs b
    rw [Fm.lvs_app r b]
    omega
theorem Fm.cnt_eq (f : Fm) : f.cnt = 1 + Fm.cnts f.inner := by
  cases f with
  | st _ => rfl
  | inp _ => rfl
  | no f => show 1 + f.cnt = 1 + (f.cnt + 0); omega
  | op c fs => rfl
mutual
theorem Fm.cnt_pos : ∀ f : Fm, 1 ≤ f.cnt
  | .st _ => Nat.le_refl _
  | .inp _ => Nat.le_refl _
  | .no f => by show 1 ≤ 1 + f.cnt; omega
  | .op _ fs => by show 1 ≤ 1 + Fm.cnts fs; omega
end
theorem w_head (z : Str) : ∀ x : Str, (sB z (.str x) = true) = (x = z) := fun x => by
  show (decide (x = z) = true) = _
  simp
theorem heads (c : Bool) : sB wIn (.str (wOp c)) = false ∧ sB wNot (.str (wOp c)) = false ∧ (sB wAnd (.str (wOp c)) || sB wOr (.str (wOp c))) = true := by
  cases c <;> decide +kernel
theorem headsN : sB wIn (.str wNot) = false ∧ sB wNot (.str wNot) = true ∧ (sB wAnd (.str wNot) || sB wOr (.str wNot)) = false := by decide +kernel
theorem headsI : sB wIn (.str wIn) = true ∧ sB wNot (.str wIn) = false ∧ (sB wAnd (.str wIn) || sB wOr (.str wIn)) = false := by decide +kernel
theorem headsS (b : Bool) : sB wIn (.str (wSt b)) = false ∧ sB wNot (.str (wSt b)) = false ∧ (sB wAnd (.str (wSt b)) || sB wOr (.str (wSt b))) = false := by cases b <;> decide +kernel
mutual
theorem Fm.isF {m : Nat} : ∀ {f : Fm}, f.ok m = true → isF m f.d = true
  | .st b, _ => by
    rw [isF_eq]
    show (stillD (.str (wSt b)) && true) = true
    cases b <;> decide +kernel
  | .inp i, h => by
    have h : i < m := of_decide_eq_true h
    rw [isF_eq]
    show (outP m (.str wIn) (.int i) && (inP (.str wIn) (.int i)).all (Gk.isF m)) = true
    unfold outP inP
    rw [if_pos headsI.1, headsI.2.1, if_neg (by decide), headsI.2.2, if_neg (by decide)]
    show ((decide (0 ≤ (i : Int)) && decide ((i : Int) < (m : Int))) && true) = true
    rw [decide_eq_true (by omega), decide_eq_true (by omega)]
    rfl
  | .no f, h => by
    have h : f.ok m = true := h
    rw [isF_eq]
    show (outP m (.str wNot) f.d && (inP (.str wNot) f.d).all (Gk.isF m)) = true
    unfold outP inP
    rw [if_pos headsN.2.1, headsN.1, if_neg (by decide), headsN.2.2, if_neg (by decide), headsN.2.1]
    show (true && (Gk.isF m f.d && true)) = true
    rw [Fm.isF h]
    rfl
  | .op c fs, h => by
    have h : ((decide (2 ≤ fs.length) && decide (fs.length ≤ 4)) && Fm.oks m fs) = true := h
    rw [Bool.and_eq_true] at h
    rw [isF_eq]
    show (outP m (.str (wOp c)) (.tuple (Fm.dl fs)) && (inP (.str (wOp c)) (.tuple (Fm.dl fs))).all (Gk.isF m)) = true
    unfold outP inP
    rw [(heads c).1, if_neg (by decide), (heads c).2.2, if_pos rfl, (heads c).2.1, if_neg (by decide), if_pos rfl]
    show ((decide (2 ≤ (Fm.dl fs).length) && decide ((Fm.dl fs).length ≤ 4)) && (Fm.dl fs).all (Gk.isF m)) = true
    have l : (Fm.dl fs).length = fs.length := by rw [Fm.dl_map, List.length_map]
    rw [l, h.1, Fm.isFs h.2]
    rfl
theorem Fm.isFs {m : Nat} : ∀ {fs : List Fm}, Fm.oks m fs = true → (Fm.dl fs).all (Gk.isF m) = true
  | [], _ => rfl
  | f :: r, h => by
    have h : (f.ok m && Fm.oks m r) = true := h
    rw [Bool.and_eq_true] at h
    show (Gk.isF m f.d && (Fm.dl r).all (Gk.isF m)) = true
    rw [Fm.isF h.1, Fm.isFs h.2]
    rfl
end
theorem w_len (c : Bool) : (wOp c).length ≤ 3 ∧ (wSt c).length ≤ 6 ∧ wIn.length = 2 ∧ wNot.length = 3 := by cases c <;> decide +kernel
theorem w_gd (c : Bool) : gd 100 (.str (wOp c)) = true ∧ gd 100 (.str (wSt c)) = true ∧ gd 100 (.str wIn) = true ∧ gd 100 (.str wNot) = true := by cases c <;> decide +kernel
mutual
theorem Fm.fit {m : Nat} (m6 : m ≤ 6) : ∀ {f : Fm}, f.ok m = true → gd 100 f.d = true ∧ f.d.weight + 1 ≤ 8 * f.cnt ∧ f.d.depth ≤ 2 * f.dep
  | .st b, _ => by cases b <;> decide +kernel
  | .inp i, h => by
    have h : i < m := of_decide_eq_true h
    have : i = 0 ∨ i = 1 ∨ i = 2 ∨ i = 3 ∨ i = 4 ∨ i = 5 := by omega
    rcases this with rfl | rfl | rfl | rfl | rfl | rfl <;> decide +kernel
  | .no f, h => by
    have h : f.ok m = true := h
    obtain ⟨a, b, c⟩ := Fm.fit m6 h
    refine ⟨?_, ?_, ?_⟩
    · show (gd 100 (.str wNot) && (gd 100 f.d && true)) = true
      rw [(w_gd true).2.2.2, a]
      rfl
    · show wNot.length + 1 + (f.d.weight + 1 + 0) + 1 ≤ 8 * (1 + f.cnt)
      have := (w_len true).2.2.2
      omega
    · show max 0 (max f.d.depth 0) + 1 ≤ 2 * (f.dep + 1)
      omega
  | .op c fs, h => by
    have h : ((decide (2 ≤ fs.length) && decide (fs.length ≤ 4)) && Fm.oks m fs) = true := h
    rw [Bool.and_eq_true] at h
    obtain ⟨a, b, e⟩ := Fm.fits m6 h.2
    refine ⟨?_, ?_, ?_⟩
    · show (gd 100 (.str (wOp c)) && (gds 100 (Fm.dl fs) && true)) = true
      rw [(w_gd c).1, a]
      rfl
    · show (wOp c).length + 1 + (PyData.weightAll (Fm.dl fs) + 1 + 0) + 1 ≤ 8 * (1 + Fm.cnts fs)
      have := (w_len c).1
      omega
    · show max 0 (max (PyData.depthAll (Fm.dl fs) + 1) 0) + 1 ≤ 2 * (Fm.deps fs + 1)
      omega
theorem Fm.fits {m : Nat} (m6 : m ≤ 6) : ∀ {fs : List Fm}, Fm.oks m fs = true → gds 100 (Fm.dl fs) = true ∧ PyData.weightAll (Fm.dl fs) ≤ 8 * Fm.cnts fs ∧ PyData.depthAll (Fm.dl fs) ≤ 2 * Fm.deps fs
  | [], _ => ⟨rfl, Nat.le_refl _, Nat.le_refl _⟩
  | f :: r, h => by
    have h : (f.ok m && Fm.oks m r) = true := h
    rw [Bool.and_eq_true] at h
    obtain ⟨a, b, c⟩ := Fm.fit m6 h.1
    obtain ⟨a2, b2, c2⟩ := Fm.fits m6 h.2
    refine ⟨?_, ?_, ?_⟩
    · show (gd 100 f.d && gds 100 (Fm.dl r)) = true
      rw [a, a2]
      rfl
    · show f.d.weight + 1 + PyData.weightAll (Fm.dl r) ≤ 8 * (f.cnt + Fm.cnts r)
      omega
    · show max f.d.depth (PyData.depthAll (Fm.dl r)) ≤ 2 * max f.dep (Fm.deps r)
      omega
end
mutual
theorem Fm.noL : ∀ f : Fm, noL f.d = true
  | .st _ => rfl
  | .inp _ => rfl
  | .no f => by
    show (true && (Gk.noL f.d && true)) = true
    rw [Fm.noL f]
    rfl
  | .op c fs => by
    show (true && (noLs (Fm.dl fs) && true)) = true
    rw [Fm.noLl fs]
    rfl
theorem Fm.noLl : ∀ fs : List Fm, noLs (Fm.dl fs) = true
  | [] => rfl
  | f :: r => by
    show (Gk.noL f.d && noLs (Fm.dl r)) = true
    rw [Fm.noL f, Fm.noLl r]
    rfl
end
theorem Fm.dep_pos (f : Fm) : 1 ≤ f.dep := by
  cases f with
  | st _ => exact Nat.le_refl _
  | inp _ => exact Nat.le_refl _
  | no f => exact Nat.succ_le_succ (Nat.zero_le _)
  | op c fs => exact Nat.succ_le_succ (Nat.zero_le _)
theorem Fm.inner_few {m : Nat} {f : Fm} (h : f.ok m = true) : f.inner.length ≤ 4 := by
  cases f with
  | st _ => exact Nat.zero_le _
  | inp _ => exact Nat.zero_le _
  | no f => show 1 ≤ 4; decide
  | op c fs =>
    have h : ((decide (2 ≤ fs.length) && decide (fs.length ≤ 4)) && Fm.oks m fs) = true := h
    rw [Bool.and_eq_true, Bool.and_eq_true (decide _)] at h
    exact of_decide_eq_true h.1.2
theorem Fm.inner_ok {m : Nat} {f g : Fm} (h : f.ok m = true) (hg : g ∈ f.inner) : g.ok m = true := by
  cases f with
  | st _ => cases hg
  | inp _ => cases hg
  | no f => rw [List.mem_singleton.mp hg]; exact h
  | op c fs =>
    have h : ((decide (2 ≤ fs.length) && decide (fs.length ≤ 4)) && Fm.oks m fs) = true := h
    rw [Bool.and_eq_true] at h
    exact Fm.oks_mem.mp h.2 g hg
theorem Fm.cnts_sum : ∀ fs : List Fm, (fs.map fun g => ((g.cnt : Nat) : Int)).sum = (Fm.cnts fs : Nat)
  | [] => rfl
  | f :: r => by
    rw [List.map_cons, List.sum_cons, Fm.cnts_sum r]
    show ((f.cnt : Nat) : Int) + (Fm.cnts r : Nat) = ((f.cnt + Fm.cnts r : Nat) : Int)
    push_cast
    rfl

end Gk

set_option Elab.async false
set_option linter.all false
set_option maxRecDepth 100000
set_option maxHeartbeats 1000000
set_option pp.maxSteps 1500
set_option pp.deepTerms false
namespace Gk
open PySem PySem.Spec PyProof.Rows L2
section
variable {P : Program} {w : World} {K : PySem.W.Frag} {mg : Str → Option Value} {base : Heap}
/-! ### the law's forms -/
theorem Fm.tk_st {H : Hp} {v : V} {b : Bool} (h : Tk H v (Fm.st b).d) : ∃ a, v = .ref a ∧ H a = some (.tup [.str (wSt b)]) := by
  obtain ⟨a, xs, rfl, ha, t⟩ := Tk.tup_inv (ds := [.str (wSt b)]) h
  match xs, t with
  | [_], .cons (.str _) .nil => exact ⟨a, rfl, ha⟩
theorem Fm.tk_inp {H : Hp} {v : V} {i : Nat} (h : Tk H v (Fm.inp i).d) : ∃ a, v = .ref a ∧ H a = some (.tup [.str wIn, .int i]) := by
  obtain ⟨a, xs, rfl, ha, t⟩ := Tk.tup_inv (ds := [.str wIn, .int i]) h
  match xs, t with
  | [_, _], .cons (.str _) (.cons (.int _) .nil) => exact ⟨a, rfl, ha⟩
theorem Fm.tk_no {H : Hp} {v : V} {f : Fm} (h : Tk H v (Fm.no f).d) : ∃ a w, v = .ref a ∧ H a = some (.tup [.str wNot, w]) ∧ Tk H w f.d := by
  obtain ⟨a, xs, rfl, ha, t⟩ := Tk.tup_inv (ds := [.str wNot, f.d]) h
  match xs, t with
  | [_, w], .cons (.str _) (.cons tw .nil) => exact ⟨a, w, rfl, ha, tw⟩
theorem Fm.tk_op {H : Hp} {v : V} {c : Bool} {fs : List Fm} (h : Tk H v (Fm.op c fs).d) : ∃ a b ys, v = .ref a ∧ H a = some (.tup [.str (wOp c), .ref b]) ∧ H b = some (.tup ys) ∧ TkAll H ys (fs.map Fm.d) := by
  obtain ⟨a, xs, rfl, ha, t⟩ := Tk.tup_inv (ds := [.str (wOp c), .tuple (Fm.dl fs)]) h
  match xs, t with
  | [_, w], .cons (.str _) (.cons tw .nil) =>
    obtain ⟨b, ys, rfl, hb, ty⟩ := tw.tup_inv
    rw [Fm.dl_map] at ty
    exact ⟨a, b, ys, rfl, ha, hb, ty⟩
def sp_l_inner (K : PySem.W.Frag) : Sp := fun vs H Q _ => ∃ (v : V) (f : Fm), vs = [v] ∧ Tk H v f.d ∧ ∀ H' a xs, Same H H' → H' a = some (.tup xs) → TkAll H' xs (f.inner.map Fm.d) → Q (.ref a) H'
theorem ok_inner (T : Tx w K mg) : FnOk P w K mg base CX0 1 T.f_inner T.fd_inner ["_law_form_here"] (sp_l_inner K) := by
  refine T.F_inner.ok sc_inner (fun vs H Q E h => ?_) (fun cdv A outer s H vs Q E hr h => ?_)
  · obtain ⟨v, f, rfl, _⟩ := h
    rfl
  · obtain ⟨v, f, rfl, tk, q⟩ := h
    refine ⟨_, (pss_cons (ps_if (pt_cmpR op_eq (pe_ix ix_tup (pv 0) pe_int (fun _ _ => rfl)) pe_str (nomark _)) (pss_one (ps_ret (pe_slice sl_tupA (pv 0) (po_some pe_int) po_none))) pss_nil) (pss_cons (ps_if (pt_cmpR (EqS.op_inS (EqS.u1 hr.units)) (pe_ix ix_tup (pv 0) pe_int (fun _ _ => rfl)) (pe_tup (pa_cons pe_str (pa_cons pe_str pa_nil))) rfl) (pss_one (ps_ret (pe_ix ix_tup (pv 0) pe_int (fun _ _ => rfl)))) pss_nil) (pss_one (ps_ret (pe_tup pa_nil))))), ?_⟩
    have key : (∃ a z r, v = .ref a ∧ H a = some (.tup (.str z :: r)) ∧ z ≠ wNot ∧ (sB wAnd (.str z) || sB wOr (.str z)) = false ∧ f.inner = []) ∨ (∃ g, f = .no g) ∨ ∃ c fs, f = .op c fs := by
      cases f with
      | st b =>
        obtain ⟨a, rfl, ha⟩ := Fm.tk_st tk
        exact .inl ⟨a, _, _, rfl, ha, by cases b <;> decide +kernel, (headsS b).2.2, rfl⟩
      | inp i =>
        obtain ⟨a, rfl, ha⟩ := Fm.tk_inp tk
        exact .inl ⟨a, _, _, rfl, ha, by decide +kernel, headsI.2.2, rfl⟩
      | no f => exact .inr (.inl ⟨f, rfl⟩)
      | op c fs => exact .inr (.inr ⟨c, fs, rfl⟩)
    rcases key with ⟨a, z, r, rfl, ha, n1, n2, fi⟩ | ⟨g, rfl⟩ | ⟨c, fs, rfl⟩
    · refine ⟨.ref a, rfl, a, _, ((0 : Nat) : Int), .str z, rfl, rfl, SqT.of ha, atI_nat rfl, rfl, _, rfl, ite2 (fun e => absurd (V.str.inj (of_decide_eq_true e)) n1) (fun _ => ?_)⟩
      refine ⟨.ref a, rfl, a, _, ((0 : Nat) : Int), .str z, rfl, rfl, SqT.of ha, atI_nat rfl, sl2, fun p np => ?_⟩
      have s1 := same_upd (o := HO.tup [V.str wAnd, V.str wOr]) np
      refine ⟨.str z, p, [wAnd, wOr], .str z, rfl, upd_same, _, rfl, ?_⟩
      rw [any_and_or, n2]
      exact iteF ⟨Nat.zero_le _, fun p2 np2 => q _ p2 [] (s1.trans (same_upd np2)) upd_same (by rw [fi]; exact .nil)⟩
    · obtain ⟨a, w', rfl, ha, tw⟩ := Fm.tk_no tk
      refine ⟨.ref a, rfl, a, _, 0, .str wNot, rfl, rfl, SqT.of ha, rfl, rfl, _, rfl, iteT ?_⟩
      refine ⟨.ref a, rfl, _, rfl, slAn ha fun p H1 s1 h1 => ?_⟩
      exact q H1 p _ s1 h1 (.cons (tw.same s1) .nil)
    · obtain ⟨a, b, ys, rfl, ha, hb, ty⟩ := Fm.tk_op tk
      refine ⟨.ref a, rfl, a, _, 0, .str (wOp c), rfl, rfl, SqT.of ha, rfl, rfl, _, rfl, ite2 (fun e => absurd (V.str.inj (of_decide_eq_true e)) (by cases c <;> decide +kernel)) (fun _ => ?_)⟩
      refine ⟨.ref a, rfl, a, _, 0, .str (wOp c), rfl, rfl, SqT.of ha, rfl, sl2, fun p np => ?_⟩
      have s1 := same_upd (o := HO.tup [V.str wAnd, V.str wOr]) np
      refine ⟨.str (wOp c), p, [wAnd, wOr], .str _, rfl, upd_same, _, rfl, ?_⟩
      rw [any_and_or, (heads c).2.2]
      exact iteT ⟨.ref a, rfl, a, _, 1, .ref b, rfl, rfl, SqT.of (s1 _ _ ha), rfl, q _ b ys s1 (s1 _ _ hb) (ty.same s1)⟩
/-- how many parts a form has, by its depth -/
def sp_count (K : PySem.W.Frag) (e : Nat) : Sp := fun vs H Q _ => ∃ (v : V) (f : Fm) (m : Nat), vs = [v] ∧ Tk H v f.d ∧ f.ok m = true ∧ f.dep ≤ e ∧ ∀ H', Same H H' → Q (.int (f.cnt : Nat)) H'
theorem ok_countE (T : Tx w K mg) : ∀ e : Nat, FnOk P w K mg base CX0 (e + 2) T.f_count T.fd_count ["_law_form_here"] (sp_count K e)
  | 0 => ⟨fun _ _ _ _ h => by obtain ⟨_, f, _, _, _, _, h, _⟩ := h; exact absurd h (by have := Fm.dep_pos f; omega), fun _ _ _ _ _ _ _ _ _ _ _ _ _ h => by obtain ⟨_, f, _, _, _, _, h, _⟩ := h; exact absurd h (by have := Fm.dep_pos f; omega)⟩
  | e + 1 => by
    have ih := ok_countE T e
    refine T.F_count.ok sc_count (fun vs H Q E h => ?_) (fun cdv A outer s H vs Q E hr h => ?_)
    · obtain ⟨v, f, m, rfl, _⟩ := h
      rfl
    · obtain ⟨v, f, m, rfl, tk, ok, de, q⟩ := h
      refine ⟨_, (pss_one (ps_ret (pe_op op_add pe_int (pe_callB (cr_sum rfl) (by rfl) T.m_sum (by decide +kernel) (pa_cons (pe_lc (own := [("_law_part", 1)]) (by rfl) sc_count.nd (pi_tup (pe_call (ok_inner T) (hr.mono (by omega)) (by rfl) T.g_inner T.F_inner.kp T.b_inner .nil pass0 (pa_cons (pv 0) pa_nil))) (blkOk_by (own := [("_law_part", 1)]) (N := ["_law_form_here", "_law_part"]) (sc := defScope s_count) (by decide +kernel)) (fun _ _ _ _ _ => (pg_name (i := 1) sc_count.nd rfl (by first | exact .inl rfl | exact .inr rfl))) (fun _ _ _ _ _ => pts_nil) (fun _ _ _ _ _ => (pe_call (ih) (hr.mono (by omega)) (by rfl) T.g_count T.F_count.kp T.b_count .nil pass0 (pa_cons (pv 1) pa_nil)))) pa_nil))))), ?_⟩
      refine ⟨v, rfl, v, f, rfl, tk, fun H1 a xs s1 ha txs => ⟨a, rfl, ⟨_, SqT.of ha⟩, fun D nD => ?_⟩⟩
      have lxs : xs.length = f.inner.length := by rw [txs.length, List.length_map]
      have few : f.inner.length ≤ 4 := Fm.inner_few ok
      refine lc_tup (K := K) (a := a) (xs := xs) (fun i H' => Same H1 (hd1 D H') ∧ H' D = some (.lst (((f.inner.take i).map fun g => ((g.cnt : Nat) : Int)).map V.int))) ⟨hd1_of (same_upd nD) nD, upd_same⟩ (fun i H' _ z => SqT.of (hd1_le _ _ (z.1 _ _ ha))) ?_ ?_
      · rintro i u H2 hu ⟨s2, hD⟩
        obtain ⟨g, hg, tg⟩ := txs.at hu
        have gm := List.mem_of_getElem? hg
        have k2 : Same H1 H2 := fun b o z => hd1_le _ _ (s2 b o z)
        have il := (List.getElem?_eq_some_iff.mp hg).1
        refine ⟨rfl, u, rfl, u, g, m, rfl, tg.same k2, Fm.inner_ok ok gm, by have := Fm.inner_dep gm; omega, fun H3 s3 => ⟨_, s3 _ _ hD, ?_, (s2.trans (hd1_same s3)).trans hd1_upd, ?_⟩⟩
        · rw [List.length_map, List.length_map, List.length_take]
          exact Nat.lt_of_le_of_lt (show min i f.inner.length ≤ 4 by omega) (by decide)
        · rw [upd_same, List.take_add_one, hg, List.map_append, List.map_append]
          rfl
      · rintro H2 ⟨s2, hD⟩
        rw [lxs, List.take_length] at hD
        have k2 : Same H1 H2 := fun b o z => hd1_le _ _ (s2 b o z)
        refine ⟨D, _, rfl, SqL.of hD, _, _, rfl, rfl, ?_⟩
        have e1 : (f.inner.map fun g => ((g.cnt : Nat) : Int)).sum = (Fm.cnts f.inner : Nat) := Fm.cnts_sum _
        rw [e1]
        have q := q H2 (s1.trans k2)
        rw [Fm.cnt_eq f] at q
        have e2 : ((1 + Fm.cnts f.inner : Nat) : Int) = 1 + (Fm.cnts f.inner : Nat) := by push_cast; rfl
        rw [e2] at q
        exact q

end
end Gk

set_option Elab.async false
set_option linter.all false
set_option maxRecDepth 100000
set_option maxHeartbeats 1000000
set_option pp.maxSteps 1500
set_option pp.deepTerms false
namespace Gk
open PySem PySem.Spec PyProof.Rows L2
section
variable {P : Program} {w : World} {K : PySem.W.Frag} {mg : Str → Option Value} {base : Heap}
/-! ### forms drawn -/
def Kp3 (a b c : Addr) (H H' : Hp) : Prop := ∀ x o, x ≠ a → x ≠ b → x ≠ c → H x = some o → H' x = some o
theorem Kp3.refl {a b c : Addr} {H : Hp} : Kp3 a b c H H := fun _ _ _ _ _ e => e
theorem Kp3.trans {a b c : Addr} {H H1 H2 : Hp} (s : Kp3 a b c H H1) (t : Kp3 a b c H1 H2) : Kp3 a b c H H2 := fun x o h1 h2 h3 e => t x o h1 h2 h3 (s x o h1 h2 h3 e)
theorem Kp3.fr {a b c : Addr} {H H' : Hp} (f : Fr a b H H') : Kp3 a b c H H' := fun x o h1 h2 _ e => f x o h1 h2 e
theorem Kp3.of {a b c : Addr} {H H' : Hp} (s : Same H H') : Kp3 a b c H H' := fun x o _ _ _ e => s x o e
theorem Kp3.ts {d l L : Addr} {n : Int} {b : V} {H H' : Hp} (k : Kp3 d l L H H') (D : DeckC H d l n) (hL : H L = some (.lst [b])) : Ts H H' := fun x xs e => by
  obtain ⟨_, cs, y, z, h1, h2, _⟩ := D
  exact k x _ (ne_of e h1 (by intro z; cases z)) (ne_of e h2 (by intro z; cases z)) (ne_of e hL (by intro z; cases z)) e
theorem Kp3.add {d l L : Addr} {H H' : Hp} {p : Addr} {o : HO} (k : Kp3 d l L H H') (n : H p = none) : Kp3 d l L H (upd H' p o) := fun x u h1 h2 h3 e => by
  rw [upd_ne (ne_of_none e n)]
  exact k x u h1 h2 h3 e
def sp_form (K : PySem.W.Frag) (e : Nat) : Sp := fun vs H Q _ => ∃ (d l L : Addr) (n : Int) (m : Nat) (b : Int), vs = [.ref d, .int (m : Nat), .int (e : Nat), .ref L] ∧ DeckC H d l n ∧ n + 40000 * (e + 1) ≤ 100000000 ∧ e ≤ 9 ∧ H L = some (.lst [.int b]) ∧ L ≠ d ∧ L ≠ l ∧ 1 ≤ m ∧ m ≤ 6 ∧ b ≤ 1000 ∧
  ∀ (v : V) (H' : Hp) (f : Fm), DeckC H' d l (n + 3 * ((e : Int) + 1) * (f.lv : Nat)) → Kp3 d l L H H' → H' L = some (.lst [.int (b - (f.lv : Nat))]) → Tk H' v f.d → f.ok m = true → f.dep ≤ e + 1 → 1 ≤ f.lv → (f.lv = 1 ∨ (f.lv : Int) ≤ b + 3 * e) → Q v H'
theorem never_okF {f : Addr} {fd : FuncData} {ps : List Str} : FnOk P w K mg base CX0 0 f fd ps (fun _ _ _ _ => False) := ⟨fun _ _ _ _ h => h.elim, fun _ _ _ _ _ _ _ _ _ _ _ _ _ h => h.elim⟩
theorem st_at {x : Int} (h0 : 7 < x) (h1 : x < 10) (u v : V) : ∃ b : Bool, atI [u, v] (x - 8) = some (if b = true then u else v) := by
  have : x = 8 ∨ x = 9 := by omega
  rcases this with rfl | rfl
  · exact ⟨true, rfl⟩
  · exact ⟨false, rfl⟩
theorem op_at {x : Int} (h0 : 0 ≤ x) (h1 : x < 2) : ∃ c : Bool, atI [V.str wAnd, V.str wOr] x = some (.str (wOp c)) := by
  have : x = 0 ∨ x = 1 := by omega
  rcases this with rfl | rfl
  · exact ⟨true, rfl⟩
  · exact ⟨false, rfl⟩
theorem num_at {x : Int} (h0 : 0 ≤ x) (h1 : x < 4) : ∃ c : Nat, atI [V.int 2, V.int 2, V.int 3, V.int 4] x = some (.int (c : Nat)) ∧ 2 ≤ c ∧ c ≤ 4 := by
  have : x = 0 ∨ x = 1 ∨ x = 2 ∨ x = 3 := by omega
  rcases this with rfl | rfl | rfl | rfl
  · exact ⟨2, rfl, by decide, by decide⟩
  · exact ⟨2, rfl, by decide, by decide⟩
  · exact ⟨3, rfl, by decide, by decide⟩
  · exact ⟨4, rfl, by decide, by decide⟩
theorem ok_formB (T : Tx w K mg) (e : Nat) (sub : Sp) (lvl : Nat) (hl : lvl + 3 ≤ e + 3) (ih : FnOk P w K mg base CX0 (lvl + 2) T.f_form T.fd_form ["_law_deck_here", "_law_many", "_law_deep", "_law_left"] sub) (hsub : ∀ k, e = k + 1 → ∀ vs H Q E, sp_form K k vs H Q E → sub vs H Q E) : FnOk P w K mg base CX0 (e + 3) T.f_form T.fd_form ["_law_deck_here", "_law_many", "_law_deep", "_law_left"] (sp_form K e) := by
  refine T.F_form.ok sc_form (fun vs H Q E h => ?_) (fun cdv A outer s H vs Q E hr h => ?_)
  · obtain ⟨d, l, L, n, m, b, rfl, _⟩ := h
    rfl
  · obtain ⟨d, l, L, n, m, b, rfl, D, hn, e9, hL, Ld, Ll, m1, m6, b1, q⟩ := h
    refine ⟨_, (pss_cons (ps_set (i := 4) sc_form.nd rfl (by first | exact .inl rfl | exact .inr rfl) (pe_call (ok_take T) (hr.mono (by omega)) (by rfl) T.g_take T.F_take.kp T.b_take .nil pass0 (pa_cons (pv 0) (pa_cons pe_int pa_nil)))) (pss_cons (ps_if (pt_cut (pw_or (pt_cmpR op_eq (pv 2) pe_int (nomark _)) (pw_or (pt_cmpR op_lt (pe_ix ix_list (pv 3) pe_int (fun _ _ => rfl)) pe_int (nomark _)) (pw_or1 (pt_cmpR op_lt (pv 4) pe_int (nomark _))))).pt) (pss_cons (ps_asg (pe_op op_sub (pe_ix ix_list (pv 3) pe_int (fun _ _ => rfl)) pe_int) (pg_sub (pv 3) pe_int set_list)) (pss_cons (ps_set (i := 5) sc_form.nd rfl (by first | exact .inl rfl | exact .inr rfl) (pe_call (ok_take T) (hr.mono (by omega)) (by rfl) T.g_take T.F_take.kp T.b_take .nil pass0 (pa_cons (pv 0) (pa_cons pe_int pa_nil)))) (pss_cons (ps_if (pt_cmpR op_gt (pv 5) pe_int (nomark _)) (pss_one (ps_ret (pe_ix ix_list (pe_lst (pa_cons (pe_tup (pa_cons pe_str pa_nil)) (pa_cons (pe_tup (pa_cons pe_str pa_nil)) pa_nil))) (pe_op op_sub (pv 5) pe_int) (fun _ _ => rfl)))) pss_nil) (pss_one (ps_ret (pe_tup (pa_cons pe_str (pa_cons (pe_call (ok_take T) (hr.mono (by omega)) (by rfl) T.g_take T.F_take.kp T.b_take .nil pass0 (pa_cons (pv 0) (pa_cons (pv 1) pa_nil))) pa_nil)))))))) pss_nil) (pss_cons (ps_if (pt_cmpR op_lt (pv 4) pe_int (nomark _)) (pss_one (ps_ret (pe_tup (pa_cons pe_str (pa_cons (pe_call (ih) (hr.mono (by omega)) (by rfl) T.g_form T.F_form.kp T.b_form .nil pass0 (pa_cons (pv 0) (pa_cons (pv 1) (pa_cons (pe_op op_sub (pv 2) pe_int) (pa_cons (pv 3) pa_nil))))) pa_nil))))) pss_nil) (pss_cons (ps_set (i := 6) sc_form.nd rfl (by first | exact .inl rfl | exact .inr rfl) (pe_ix ix_list (pe_lst (pa_cons pe_str (pa_cons pe_str pa_nil))) (pe_call (ok_take T) (hr.mono (by omega)) (by rfl) T.g_take T.F_take.kp T.b_take .nil pass0 (pa_cons (pv 0) (pa_cons pe_int pa_nil))) (fun _ _ => rfl))) (pss_cons (ps_set (i := 7) sc_form.nd rfl (by first | exact .inl rfl | exact .inr rfl) (pe_lst pa_nil)) (pss_cons (ps_for PassesOwn.never rfl (pi_range1 (by rfl) T.m_range (pa_cons (pe_ix ix_list (pe_lst (pa_cons pe_int (pa_cons pe_int (pa_cons pe_int (pa_cons pe_int pa_nil))))) (pe_call (ok_take T) (hr.mono (by omega)) (by rfl) T.g_take T.F_take.kp T.b_take .nil pass0 (pa_cons (pv 0) (pa_cons pe_int pa_nil))) (fun _ _ => rfl)) pa_nil)) (pg_name (i := 8) sc_form.nd rfl (by first | exact .inl rfl | exact .inr rfl)) (pss_one (ps_expr (pe_bm PySem.F.plainAttrs_list PySem.F.slot_list_append PySem.F.type_list_append mt_append (pv 7) (pa_cons (pe_call (ih) (hr.mono (by omega)) (by rfl) T.g_form T.F_form.kp T.b_form .nil pass0 (pa_cons (pv 0) (pa_cons (pv 1) (pa_cons (pe_op op_sub (pv 2) pe_int) (pa_cons (pv 3) pa_nil))))) pa_nil))))) (pss_one (ps_ret (pe_tup (pa_cons (pv 6) (pa_cons (pe_callTy call_tuple_of (by rfl) T.m_tuple (by decide +kernel) (pa_cons (pv 7) pa_nil)) pa_nil))))))))))), ?_⟩
    refine ⟨.ref d, rfl, d, l, 8, _, rfl, D, by omega, by decide, by decide, fun H1 way D1 fr1 w0 w1 => ?_⟩
    have hL1 := fr1 _ _ Ld Ll hL
    refine ⟨fun c H' => H' = H1 ∧ (c = false → e ≠ 0 ∧ 2 ≤ b), ?_, ?_⟩
    · refine ⟨.int (e : Nat), rfl, rfl, _, rfl, ite2 (fun _ => ⟨rfl, fun z => by cases z⟩) (fun ne => ?_)⟩
      have ne : e ≠ 0 := fun z => ne (by rw [z]; exact decide_eq_true rfl)
      refine ⟨.ref L, rfl, L, _, 0, .int b, rfl, rfl, SqL.of hL1, rfl, _, _, rfl, rfl, _, rfl, ite2 (fun _ => ⟨rfl, fun z => by cases z⟩) (fun nb => ?_)⟩
      have nb : ¬ b < 2 := fun z => nb (decide_eq_true z)
      exact ⟨.int way, rfl, _, _, rfl, rfl, _, rfl, rfl, fun _ => ⟨ne, by omega⟩⟩
    rintro c H2 ⟨h21, hc⟩
    have h21 := h21.symm
    subst h21
    cases c with
    | true =>
      refine iteT ?_
      refine ⟨.ref L, rfl, L, _, 0, .int b, rfl, rfl, SqL.of hL1, rfl, _, _, rfl, rfl, .ref L, rfl, L, _, _, 0, rfl, rfl, hL1, rfl, ?_⟩
      have D3 := D1.upd (p := L) (o := .lst [.int (b - 1)]) Ld Ll
      have k3 : Kp3 d l L H (upd H1 L (.lst [.int (b - 1)])) := (Kp3.fr fr1).trans fun x o _ _ h3 e => by
        rw [upd_ne h3]
        exact e
      have hL3 : upd H1 L (.lst [.int (b - 1)]) L = some (.lst [.int (b - 1)]) := upd_same
      show tSeq _ _ _ _ (upd H1 L (HO.lst [.int (b - 1)]))
      generalize upd H1 L (.lst [.int (b - 1)]) = H3 at D3 k3 hL3 ⊢
      have c1 : (1 : Int) ≤ 3 * ((e : Int) + 1) := by omega
      refine ⟨.ref d, rfl, d, l, 10, _, rfl, D3, by omega, by decide, by decide, fun H4 x D4 fr4 x0 x1 => ?_⟩
      have hL4 := fr4 _ _ Ld Ll hL3
      have k4 := k3.trans (Kp3.fr fr4)
      refine ⟨.int x, rfl, _, _, rfl, rfl, _, rfl, ite2 (fun x7 => ?_) (fun x7 => ?_)⟩
      · have x7 : 7 < x := of_decide_eq_true x7
        refine ⟨sl1, fun p1 np1 => ?_⟩
        have s5 := same_upd (o := (HO.tup [V.str (Str.ofString "one")])) np1
        have h5 : upd H4 p1 (HO.tup [V.str (Str.ofString "one")]) p1 = some (HO.tup [V.str (Str.ofString "one")]) := upd_same
        generalize upd H4 p1 (HO.tup [V.str (Str.ofString "one")]) = H5 at s5 h5 ⊢
        refine ⟨sl1, fun p2 np2 => ?_⟩
        have s6 := same_upd (o := (HO.tup [V.str (Str.ofString "nought")])) np2
        have h6 : upd H5 p2 (HO.tup [V.str (Str.ofString "nought")]) p2 = some (HO.tup [V.str (Str.ofString "nought")]) := upd_same
        generalize upd H5 p2 (HO.tup [V.str (Str.ofString "nought")]) = H6 at s6 h6 ⊢
        refine ⟨sl2, fun p3 np3 => ?_⟩
        have s7 := same_upd (o := (HO.lst [V.ref p1, V.ref p2])) np3
        have h7 : upd H6 p3 (HO.lst [V.ref p1, V.ref p2]) p3 = some (HO.lst [V.ref p1, V.ref p2]) := upd_same
        generalize upd H6 p3 (HO.lst [V.ref p1, V.ref p2]) = H7 at s7 h7 ⊢
        obtain ⟨sb, hsb⟩ := st_at x7 x1 (V.ref p1) (V.ref p2)
        have sA := s5.trans (s6.trans s7)
        refine ⟨.int x, rfl, _, _, rfl, rfl, p3, _, _, _, rfl, rfl, SqL.of h7, hsb, ?_⟩
        refine q _ H7 (.st sb) ((D4.same sA).mono (by show n + 1 + 1 ≤ n + 3 * ((e : Int) + 1) * 1; omega)) (k4.trans (Kp3.of sA)) (sA _ _ hL4) ?_ rfl (Nat.succ_le_succ (Nat.zero_le _)) (Nat.le_refl _) (.inl rfl)
        cases sb
        · exact .tup (s7 _ _ h6) (.cons (.str _) .nil)
        · exact .tup (s7 _ _ (s6 _ _ h5)) (.cons (.str _) .nil)
      · refine ⟨.ref d, rfl, .int (m : Nat), rfl, d, l, (m : Nat), _, rfl, D4, by omega, by omega, by omega, fun H5 i D5 fr5 i0 i1 => ?_⟩
        obtain ⟨i, rfl⟩ := Int.eq_ofNat_of_zero_le i0
        refine ⟨sl2, fun p np => ?_⟩
        have s6 := same_upd (o := HO.tup [V.str (Str.ofString "in"), V.int (i : Nat)]) np
        refine q _ _ (.inp i) ((D5.same s6).mono (by show n + 1 + 1 + 1 ≤ n + 3 * ((e : Int) + 1) * 1; omega)) ((k4.trans (Kp3.fr fr5)).trans (Kp3.of s6)) (s6 _ _ (fr5 _ _ Ld Ll hL4)) (.tup upd_same (.cons (.str _) (.cons (.int _) .nil))) (decide_eq_true (by omega)) (Nat.succ_le_succ (Nat.zero_le _)) (Nat.le_refl _) (.inl rfl)
    | false =>
      obtain ⟨ne, b2⟩ := hc rfl
      obtain ⟨k, rfl⟩ : ∃ k, e = k + 1 := ⟨e - 1, by omega⟩
      have e1 : (((k + 1 : Nat) : Int) - 1) = (k : Nat) := by omega
      have cc : 3 * (((k + 1 : Nat) : Int) + 1) = 3 * ((k : Int) + 1) + 3 := by omega
      rw [cc] at q
      refine iteF ?_
      refine ⟨.int way, rfl, _, _, rfl, rfl, _, rfl, ite2 (fun w4 => ?_) (fun w4 => ?_)⟩
      · refine ⟨.ref d, rfl, .int (m : Nat), rfl, .int ((k + 1 : Nat) : Int), rfl, _, _, rfl, rfl, .ref L, rfl, hsub k rfl _ _ _ _ ⟨d, l, L, _, m, b, (by show [V.ref d, V.int (m : Nat), V.int (((k + 1 : Nat) : Int) - 1), V.ref L] = _; rw [e1]), D1, by omega, by omega, hL1, Ld, Ll, m1, m6, b1, fun v H3 f D3 k3 hL3 tk ok de lp lb => ?_⟩⟩
        refine ⟨sl2, fun p np => ?_⟩
        have s4 := same_upd (o := HO.tup [V.str (Str.ofString "not"), v]) np
        have e2 : (3 * ((k : Int) + 1) + 3) * (f.lv : Nat) = 3 * ((k : Int) + 1) * (f.lv : Nat) + 3 * (f.lv : Nat) := Int.add_mul ..
        refine q _ _ (.no f) ((D3.same s4).mono (by show _ ≤ n + (3 * ((k : Int) + 1) + 3) * (f.lv : Nat); rw [e2]; omega)) (((Kp3.fr fr1).trans k3).trans (Kp3.of s4)) (s4 _ _ hL3) (.tup upd_same (.cons (.str _) (.cons (tk.same s4) .nil))) ok (Nat.succ_le_succ de) lp (by
          rcases lb with z | z
          · exact .inl z
          · exact .inr (by show (f.lv : Int) ≤ _; omega))
      · refine ⟨sl2, fun p np => ?_⟩
        have op := D1.off np
        have Lp : L ≠ p := ne_of_none hL1 np
        have s2 := same_upd (o := (HO.lst [V.str (Str.ofString "and"), V.str (Str.ofString "or")])) np
        have h2 : upd H1 p (HO.lst [V.str (Str.ofString "and"), V.str (Str.ofString "or")]) p = some (HO.lst [V.str (Str.ofString "and"), V.str (Str.ofString "or")]) := upd_same
        generalize upd H1 p (HO.lst [V.str (Str.ofString "and"), V.str (Str.ofString "or")]) = H2 at s2 h2 ⊢
        have D2 := D1.same s2
        refine ⟨.ref d, rfl, d, l, 2, _, rfl, D2, by omega, by decide, by decide, fun H3 x D3 fr3 x0 x1 => ?_⟩
        obtain ⟨cw, hcw⟩ := op_at x0 x1
        refine ⟨p, _, x, .str (wOp cw), rfl, rfl, SqL.of (fr3 _ _ op.1 op.2 h2), hcw, ?_⟩
        have hL3 := fr3 _ _ Ld Ll (s2 _ _ hL1)
        have k3 : Kp3 d l L H H3 := ((Kp3.fr fr1).trans (Kp3.of s2)).trans (Kp3.fr fr3)
        refine ⟨Nat.zero_le _, fun W nW => ?_⟩
        have oW := D3.off nW
        have LW : L ≠ W := ne_of_none hL3 nW
        have s4 := same_upd (o := (HO.lst [])) nW
        have hW : upd H3 W (HO.lst []) W = some (HO.lst []) := upd_same
        generalize upd H3 W (HO.lst []) = H4 at s4 hW ⊢
        have D4 := D3.same s4
        refine ⟨sl4, fun p5 np5 => ?_⟩
        have o5 := D4.off np5
        have s5 := same_upd (o := (HO.lst [V.int 2, V.int 2, V.int 3, V.int 4])) np5
        have h5 : upd H4 p5 (HO.lst [V.int 2, V.int 2, V.int 3, V.int 4]) p5 = some (HO.lst [V.int 2, V.int 2, V.int 3, V.int 4]) := upd_same
        generalize upd H4 p5 (HO.lst [V.int 2, V.int 2, V.int 3, V.int 4]) = H5 at s5 h5 ⊢
        have D5 := D4.same s5
        refine ⟨.ref d, rfl, d, l, 4, _, rfl, D5, by omega, by decide, by decide, fun H6 y D6 fr6 y0 y1 => ?_⟩
        obtain ⟨c, hcn, c2, c4⟩ := num_at y0 y1
        refine ⟨p5, _, y, .int (c : Nat), rfl, rfl, SqL.of (fr6 _ _ o5.1 o5.2 h5), hcn, c, rfl, by omega, by omega, ?_⟩
        have hW6 := fr6 _ _ oW.1 oW.2 (s5 _ _ hW)
        have hL6 := fr6 _ _ Ld Ll (s5 _ _ (s4 _ _ hL3))
        have k6 : Kp3 d l L H H6 := ((k3.trans (Kp3.of s4)).trans (Kp3.of s5)).trans (Kp3.fr fr6)
        have nW0 : H W = none := by
          cases z : H W with
          | none => rfl
          | some o =>
            have := k3 W o oW.1 oW.2 LW.symm z
            rw [nW] at this
            cases this
        refine for_range (lo := 0) (n := (c : Int).toNat) (fun i σ H' => ∃ y8 vs fs, σ = [some (.ref d), some (.int (m : Nat)), some (.int ((k + 1 : Nat) : Int)), some (.ref L), some (.int way), none, some (.str (wOp cw)), some (.ref W), y8] ∧ DeckC H' d l (n + 3 + 3 * ((k : Int) + 1) * (Fm.lvs fs : Nat)) ∧ Kp3 d l L H H' ∧ H' L = some (.lst [.int (b - (Fm.lvs fs : Nat))]) ∧ H' W = some (.lst vs) ∧ TkAll H' vs (fs.map Fm.d) ∧ fs.length = i ∧ Fm.oks m fs = true ∧ Fm.deps fs ≤ k + 1 ∧ i ≤ Fm.lvs fs ∧ (Fm.lvs fs : Int) ≤ b + 3 * (k : Int) + (i : Int) - 1)
          ⟨_, [], [], rfl, D6.mono (by show n + 1 + 1 + 1 ≤ n + 3 + 3 * ((k : Int) + 1) * ((0 : Nat) : Int); omega), k6, by show H6 L = some (.lst [.int (b - ((0 : Nat) : Int))]); rw [show b - ((0 : Nat) : Int) = b by omega]; exact hL6, hW6, .nil, rfl, rfl, Nat.zero_le _, Nat.le_refl _, by show ((0 : Nat) : Int) ≤ _; omega⟩ ?_ ?_
        · rintro i σ H7 hi ⟨y8, vs, fs, rfl, D7, k7, hL7, hW7, tv, lf, okf, df, ilv, lvb⟩
          have hi' : i < c := by omega
          have lvs : vs.length = i := by rw [tv.length, List.length_map, lf]
          have small : 3 * ((k : Int) + 1) * (Fm.lvs fs : Nat) ≤ 27 * 1050 := Int.mul_le_mul (by omega) (by omega) (by omega) (by decide)
          refine ⟨.ref W, rfl, .inl ⟨rfl, _, SqL.of hW7⟩, .ref d, rfl, .int (m : Nat), rfl, .int ((k + 1 : Nat) : Int), rfl, _, _, rfl, rfl, .ref L, rfl, hsub k rfl _ _ _ _ ⟨d, l, L, _, m, b - (Fm.lvs fs : Nat), (by show [V.ref d, V.int (m : Nat), V.int (((k + 1 : Nat) : Int) - 1), V.ref L] = _; rw [e1]), D7, by omega, by omega, hL7, Ld, Ll, m1, m6, by omega, fun v H8 f D8 k8 hL8 tk ok de lp lb => ?_⟩⟩
          have hW8 := k8 _ _ oW.1 oW.2 LW.symm hW7
          have ts8 := k8.ts D7 hL7
          have ts9 := Ts.set (ys := vs ++ [v]) hW8
          have la : Fm.lvs (fs ++ [f]) = Fm.lvs fs + f.lv := by rw [Fm.lvs_app]; rfl
          have e3 : 3 * ((k : Int) + 1) * ((Fm.lvs (fs ++ [f]) : Nat) : Int) = 3 * ((k : Int) + 1) * (Fm.lvs fs : Nat) + 3 * ((k : Int) + 1) * (f.lv : Nat) := by
            rw [la]
            push_cast
            rw [Int.mul_add]
          refine ⟨W, _, _, rfl, rfl, hW8, Nat.lt_of_lt_of_le (show vs.length < 64 by omega) (by decide), _, vs ++ [v], fs ++ [f], rfl, ?_, ?_, ?_, upd_same, ?_, by rw [List.length_append, lf]; rfl, ?_, ?_, ?_, ?_⟩
          · exact (D8.upd oW.1 oW.2).mono (by rw [e3]; omega)
          · exact fun x o h1 h2 h3 z => by
              rw [upd_ne (ne_of_none z nW0)]
              exact (k7.trans k8) x o h1 h2 h3 z
          · rw [upd_ne LW, hL8, la]
            congr 4
            push_cast
            omega
          · rw [List.map_append]
            exact ((tv.ts (ts8.trans ts9) (by rw [← Fm.dl_map]; exact Fm.noLl fs))).append (.cons (tk.ts ts9 (Fm.noL f)) .nil)
          · exact Fm.oks_mem.mpr fun g hg => by
              rcases List.mem_append.mp hg with z | z
              · exact Fm.oks_mem.mp okf g z
              · rw [List.mem_singleton.mp z]; exact ok
          · exact Fm.deps_le fun g hg => by
              rcases List.mem_append.mp hg with z | z
              · exact Nat.le_trans (Fm.deps_mem z) df
              · rw [List.mem_singleton.mp z]; exact de
          · rw [la]; omega
          · rw [la]
            push_cast
            rcases lb with z | z <;> omega
        · rintro σ H7 ⟨y8, vs, fs, rfl, D7, k7, hL7, hW7, tv, lf, okf, df, ilv, lvb⟩
          have ec : (c : Int).toNat = c := by omega
          rw [ec] at lf ilv lvb
          refine ⟨.str (wOp cw), rfl, .ref W, rfl, W, _, rfl, .inl ⟨SqL.of hW7, fun p8 np8 => ?_⟩⟩
          have s8 := same_upd (o := (HO.tup vs)) np8
          have h8 : upd H7 p8 (HO.tup vs) p8 = some (HO.tup vs) := upd_same
          generalize upd H7 p8 (HO.tup vs) = H8 at s8 h8 ⊢
          refine ⟨sl2, fun p9 np9 => ?_⟩
          have s9 := same_upd (o := HO.tup [V.str (wOp cw), V.ref p8]) np9
          have e2 : (3 * ((k : Int) + 1) + 3) * (Fm.lvs fs : Nat) = 3 * ((k : Int) + 1) * (Fm.lvs fs : Nat) + 3 * (Fm.lvs fs : Nat) := Int.add_mul ..
          refine q _ _ (.op cw fs) (((D7.same s8).same s9).mono (by show _ ≤ n + (3 * ((k : Int) + 1) + 3) * (Fm.lvs fs : Nat); rw [e2]; omega)) ((k7.trans (Kp3.of s8)).trans (Kp3.of s9)) (s9 _ _ (s8 _ _ hL7)) (.tup upd_same (.cons (.str _) (.cons (.tup (s9 _ _ h8) (by rw [Fm.dl_map]; exact tv.same (s8.trans s9))) .nil))) ?_ (Nat.succ_le_succ df) (by show 1 ≤ Fm.lvs fs; omega) (.inr (by show (Fm.lvs fs : Int) ≤ _; omega))
          show ((decide (2 ≤ fs.length) && decide (fs.length ≤ 4)) && Fm.oks m fs) = true
          rw [decide_eq_true (by omega), decide_eq_true (by omega), okf]
          rfl
theorem ok_formE (T : Tx w K mg) : ∀ e : Nat, FnOk P w K mg base CX0 (e + 3) T.f_form T.fd_form ["_law_deck_here", "_law_many", "_law_deep", "_law_left"] (sp_form K e)
  | 0 => ok_formB T 0 (fun _ _ _ _ => False) 0 (by omega) (never_okF.mono (by omega)) (fun k h => by cases h)
  | e + 1 => ok_formB T (e + 1) (sp_form K e) (e + 1) (by omega) (ok_formE T e) (fun k h vs H Q E z => by cases h; exact z)
def sp_formA (K : PySem.W.Frag) : Sp := fun vs H Q E => ∃ e ≤ 9, sp_form K e vs H Q E
theorem ok_form (T : Tx w K mg) : FnOk P w K mg base CX0 12 T.f_form T.fd_form ["_law_deck_here", "_law_many", "_law_deep", "_law_left"] (sp_formA K) :=
  ⟨fun vs H Q E ⟨e, _, h⟩ => (ok_formE (P := P) (base := base) T e).len vs H Q E h, fun A outer s H args us vs Q E hr e0 hb r ⟨e, he, h⟩ => (ok_formE (P := P) (base := base) T e).run A outer s H args us vs Q E (hr.mono (by omega)) e0 hb r h⟩

end
end Gk

set_option Elab.async false
set_option linter.all false
set_option maxRecDepth 100000
set_option maxHeartbeats 1000000
set_option pp.maxSteps 1500
set_option pp.deepTerms false
namespace Gk
open PySem PySem.Spec PyProof.Rows L2
section
variable {P : Program} {w : World} {K : PySem.W.Frag} {mg : Str → Option Value} {base : Heap}
/-! ### towers, some form -/
theorem third_at {k : Nat} {u w : V} : atI [u, w] (if decide (((k : Nat) : Int) > 0) = true then 1 else 0) = some (if 0 < k then w else u) := by
  by_cases z : 0 < k
  · rw [if_pos (decide_eq_true (by omega)), if_pos z]
    rfl
  · rw [if_neg (fun y => z (by have := of_decide_eq_true y; omega)), if_neg z]
    rfl
theorem five_at {x : Int} (h0 : 0 ≤ x) (h1 : x < 5) {P : V → Prop} {a b c d e : V} (ha : P a) (hb : P b) (hc : P c) (hd : P d) (he : P e) : ∃ v, atI ([a, b, c, d] ++ [e]) x = some v ∧ P v := by
  have : x = 0 ∨ x = 1 ∨ x = 2 ∨ x = 3 ∨ x = 4 := by omega
  rcases this with rfl | rfl | rfl | rfl | rfl
  · exact ⟨a, rfl, ha⟩
  · exact ⟨b, rfl, hb⟩
  · exact ⟨c, rfl, hc⟩
  · exact ⟨d, rfl, hd⟩
  · exact ⟨e, rfl, he⟩
/-- a form at v, of so many parts at most, so deep at most -/
def FmAt (H : Hp) (m c e : Nat) (v : V) : Prop := ∃ f : Fm, Tk H v f.d ∧ f.ok m = true ∧ f.cnt ≤ c ∧ f.dep ≤ e
theorem FmAt.same {H H' : Hp} {m c e : Nat} {v : V} (h : FmAt H m c e v) (s : Same H H') : FmAt H' m c e v := by
  obtain ⟨f, t, r⟩ := h
  exact ⟨f, t.same s, r⟩
theorem FmAt.ts {H H' : Hp} {m c e : Nat} {v : V} (h : FmAt H m c e v) (s : Ts H H') : FmAt H' m c e v := by
  obtain ⟨f, t, r⟩ := h
  exact ⟨f, t.ts s (Fm.noL f), r⟩
theorem FmAt.mono {H : Hp} {m c e c' e' : Nat} {v : V} (h : FmAt H m c e v) (a : c ≤ c') (b : e ≤ e') : FmAt H m c' e' v := by
  obtain ⟨f, t, o, h1, h2⟩ := h
  exact ⟨f, t, o, Nat.le_trans h1 a, Nat.le_trans h2 b⟩
theorem FmAt.inp {H : Hp} {m i : Nat} {a : Addr} (h : H a = some (.tup [.str (Str.ofString "in"), .int (i : Nat)])) (hi : i < m) : FmAt H m 1 1 (.ref a) :=
  ⟨.inp i, .tup h (.cons (.str _) (.cons (.int _) .nil)), decide_eq_true hi, Nat.le_refl _, Nat.le_refl _⟩
theorem FmAt.no {H : Hp} {m c e : Nat} {a : Addr} {v : V} (h : H a = some (.tup [.str (Str.ofString "not"), v])) (hv : FmAt H m c e v) : FmAt H m (1 + c) (e + 1) (.ref a) := by
  obtain ⟨f, t, o, h1, h2⟩ := hv
  exact ⟨.no f, .tup h (.cons (.str _) (.cons t .nil)), o, Nat.add_le_add_left h1 1, Nat.succ_le_succ h2⟩
theorem FmAt.op {H : Hp} {m : Nat} {a b : Addr} {vs : List V} {fs : List Fm} (c : Bool) (h : H a = some (.tup [.str (wOp c), .ref b])) (hb : H b = some (.tup vs)) (t : TkAll H vs (fs.map Fm.d)) (l2 : 2 ≤ fs.length) (l4 : fs.length ≤ 4) (ok : Fm.oks m fs = true) {C E : Nat} (hc : 1 + Fm.cnts fs ≤ C) (he : Fm.deps fs + 1 ≤ E) : FmAt H m C E (.ref a) :=
  ⟨.op c fs, .tup h (.cons (.str _) (.cons (.tup hb (by rw [Fm.dl_map]; exact t)) .nil)), by
    show ((decide (2 ≤ fs.length) && decide (fs.length ≤ 4)) && Fm.oks m fs) = true
    rw [decide_eq_true l2, decide_eq_true l4, ok]
    rfl, hc, he⟩
def sp_tower (K : PySem.W.Frag) : Sp := fun vs H Q _ => ∃ (d l : Addr) (n : Int) (m : Nat), vs = [.ref d, .int (m : Nat)] ∧ DeckC H d l n ∧ n ≤ 100000000 ∧ 1 ≤ m ∧ m ≤ 6 ∧ ∀ v H', DeckC H' d l (n + 19) → Fr d l H H' → FmAt H' m 37 11 v → Q v H'
theorem ok_tower (T : Tx w K mg) : FnOk P w K mg base CX0 3 T.f_tower T.fd_tower ["_law_deck_here", "_law_many"] (sp_tower K) := by
  refine T.F_tower.ok sc_tower (fun vs H Q E h => ?_) (fun cdv A outer s H vs Q E hr h => ?_)
  · obtain ⟨d, l, n, m, rfl, _⟩ := h
    rfl
  · obtain ⟨d, l, n, m, rfl, D, hn, m1, m6, q⟩ := h
    refine ⟨_, (pss_cons (ps_set (i := 2) sc_tower.nd rfl (by first | exact .inl rfl | exact .inr rfl) (pe_tup (pa_cons pe_str (pa_cons (pe_call (ok_take T) (hr.mono (by decide)) (by rfl) T.g_take T.F_take.kp T.b_take .nil pass0 (pa_cons (pv 0) (pa_cons (pv 1) pa_nil))) pa_nil)))) (pss_cons (ps_for PassesOwn.never rfl (pi_range1 (by rfl) T.m_range (pa_cons pe_int pa_nil)) (pg_name (i := 3) sc_tower.nd rfl (by first | exact .inl rfl | exact .inr rfl)) (pss_cons (ps_set (i := 4) sc_tower.nd rfl (by first | exact .inl rfl | exact .inr rfl) (pe_call (ok_take T) (hr.mono (by decide)) (by rfl) T.g_take T.F_take.kp T.b_take .nil pass0 (pa_cons (pv 0) (pa_cons pe_int pa_nil)))) (pss_cons (ps_set (i := 5) sc_tower.nd rfl (by first | exact .inl rfl | exact .inr rfl) (pe_tup (pa_cons pe_str (pa_cons (pe_call (ok_take T) (hr.mono (by decide)) (by rfl) T.g_take T.F_take.kp T.b_take .nil pass0 (pa_cons (pv 0) (pa_cons (pv 1) pa_nil))) pa_nil)))) (pss_cons (ps_set (i := 6) sc_tower.nd rfl (by first | exact .inl rfl | exact .inr rfl) (pe_ix ix_list (pe_lst (pa_cons (pv 5) (pa_cons (pe_tup (pa_cons pe_str (pa_cons (pv 5) pa_nil))) pa_nil))) (pe_callTy call_int1 (by rfl) T.m_int (by decide +kernel) (pa_cons (pe_cmpR op_gt (pv 3) pe_int (nomark _)) pa_nil)) (fun _ _ => rfl))) (pss_cons (ps_set (i := 7) sc_tower.nd rfl (by first | exact .inl rfl | exact .inr rfl) (pe_lst (pa_cons (pe_tup (pa_cons pe_str (pa_cons (pv 2) pa_nil))) (pa_cons (pe_tup (pa_cons pe_str (pa_cons (pe_tup (pa_cons (pv 2) (pa_cons (pv 5) pa_nil))) pa_nil))) (pa_cons (pe_tup (pa_cons pe_str (pa_cons (pe_tup (pa_cons (pv 5) (pa_cons (pv 2) pa_nil))) pa_nil))) (pa_cons (pe_tup (pa_cons pe_str (pa_cons (pe_tup (pa_cons (pv 5) (pa_cons (pv 2) (pa_cons (pv 6) pa_nil)))) pa_nil))) pa_nil)))))) (pss_one (ps_set (i := 2) sc_tower.nd rfl (by first | exact .inl rfl | exact .inr rfl) (pe_ix ix_list (pe_op op_cat (pv 7) (pe_lst (pa_cons (pe_tup (pa_cons pe_str (pa_cons (pe_tup (pa_cons (pv 2) (pa_cons (pv 5) (pa_cons (pe_tup (pa_cons pe_str pa_nil)) (pa_cons (pe_tup (pa_cons pe_str pa_nil)) pa_nil))))) pa_nil))) pa_nil))) (pv 4) (fun _ _ => rfl))))))))) (pss_one (ps_ret (pv 2))))), ?_⟩
    refine ⟨.ref d, rfl, .int (m : Nat), rfl, d, l, (m : Nat), _, rfl, D, by omega, by omega, by omega, fun H1 i D1 fr1 i0 i1 => ?_⟩
    obtain ⟨i, rfl⟩ := Int.eq_ofNat_of_zero_le i0
    refine ⟨sl2, fun p np => ?_⟩
    have s2 := same_upd (o := (HO.tup [V.str (Str.ofString "in"), V.int (i : Nat)])) np
    have h2 : upd H1 p (HO.tup [V.str (Str.ofString "in"), V.int (i : Nat)]) p = some (HO.tup [V.str (Str.ofString "in"), V.int (i : Nat)]) := upd_same
    generalize upd H1 p (HO.tup [V.str (Str.ofString "in"), V.int (i : Nat)]) = H2 at s2 h2 ⊢
    refine ⟨9, rfl, by decide, by decide, ?_⟩
    refine for_range (lo := 0) (n := (9 : Int).toNat) (fun k σ H' => ∃ v y3 y4 y5 y6 y7, σ = [some (.ref d), some (.int (m : Nat)), some v, y3, y4, y5, y6, y7] ∧ DeckC H' d l (n + 1 + 2 * (k : Nat)) ∧ Fr d l H H' ∧ FmAt H' m (1 + 4 * k) (2 + k) v)
      ⟨_, _, _, _, _, _, rfl, (D1.same s2).mono (by omega), fr1.trans (Fr.of s2), (FmAt.inp h2 (by omega)).mono (by omega) (by omega)⟩ ?_ ?_
    · rintro k σ H3 hk ⟨v, y3, y4, y5, y6, y7, rfl, D3, fr3, fm3⟩
      have hk' : k < 9 := hk
      refine ⟨.ref d, rfl, d, l, 5, _, rfl, D3, by omega, by decide, by decide, fun H4 way D4 fr4 w0 w1 => ?_⟩
      refine ⟨.ref d, rfl, .int (m : Nat), rfl, d, l, (m : Nat), _, rfl, D4, by omega, by omega, by omega, fun H5 j D5 fr5 j0 j1 => ?_⟩
      obtain ⟨j, rfl⟩ := Int.eq_ofNat_of_zero_le j0
      obtain ⟨f, tf, okf, cf, df⟩ := (fm3.ts (Ts.frC D3 fr4)).ts (Ts.frC D4 fr5)
      have fr05 := (fr3.trans fr4).trans fr5
      refine ⟨sl2, fun p1 np1 => ?_⟩
      have s6 := same_upd (o := (HO.tup [V.str (Str.ofString "in"), V.int (j : Nat)])) np1
      have h6 : upd H5 p1 (HO.tup [V.str (Str.ofString "in"), V.int (j : Nat)]) p1 = some (HO.tup [V.str (Str.ofString "in"), V.int (j : Nat)]) := upd_same
      generalize upd H5 p1 (HO.tup [V.str (Str.ofString "in"), V.int (j : Nat)]) = H6 at s6 h6 ⊢
      refine ⟨.ref p1, rfl, .ref p1, rfl, sl2, fun p2 np2 => ?_⟩
      have s7 := same_upd (o := (HO.tup [V.str (Str.ofString "not"), V.ref p1])) np2
      have h7 : upd H6 p2 (HO.tup [V.str (Str.ofString "not"), V.ref p1]) p2 = some (HO.tup [V.str (Str.ofString "not"), V.ref p1]) := upd_same
      generalize upd H6 p2 (HO.tup [V.str (Str.ofString "not"), V.ref p1]) = H7 at s7 h7 ⊢
      refine ⟨sl2, fun p3 np3 => ?_⟩
      have s8 := same_upd (o := (HO.lst [V.ref p1, V.ref p2])) np3
      have h8 : upd H7 p3 (HO.lst [V.ref p1, V.ref p2]) p3 = some (HO.lst [V.ref p1, V.ref p2]) := upd_same
      generalize upd H7 p3 (HO.lst [V.ref p1, V.ref p2]) = H8 at s8 h8 ⊢
      have e0 : (0 : Int) + (k : Int) = (k : Int) := Int.zero_add _
      rw [e0]
      refine ⟨.int (k : Nat), rfl, _, _, rfl, rfl, .inr ⟨_, rfl, p3, _, _, _, rfl, rfl, SqL.of h8, third_at, ?_⟩⟩
      generalize ew : (if 0 < k then V.ref p2 else V.ref p1) = w'
      refine ⟨v, rfl, sl2, fun p4 np4 => ?_⟩
      have s9 := same_upd (o := (HO.tup [V.str (Str.ofString "not"), v])) np4
      have h9 : upd H8 p4 (HO.tup [V.str (Str.ofString "not"), v]) p4 = some (HO.tup [V.str (Str.ofString "not"), v]) := upd_same
      generalize upd H8 p4 (HO.tup [V.str (Str.ofString "not"), v]) = H9 at s9 h9 ⊢
      refine ⟨v, rfl, .ref p1, rfl, sl2, fun p5 np5 => ?_⟩
      have s10 := same_upd (o := (HO.tup [v, V.ref p1])) np5
      have h10 : upd H9 p5 (HO.tup [v, V.ref p1]) p5 = some (HO.tup [v, V.ref p1]) := upd_same
      generalize upd H9 p5 (HO.tup [v, V.ref p1]) = H10 at s10 h10 ⊢
      refine ⟨sl2, fun p6 np6 => ?_⟩
      have s11 := same_upd (o := (HO.tup [V.str (Str.ofString "and"), V.ref p5])) np6
      have h11 : upd H10 p6 (HO.tup [V.str (Str.ofString "and"), V.ref p5]) p6 = some (HO.tup [V.str (Str.ofString "and"), V.ref p5]) := upd_same
      generalize upd H10 p6 (HO.tup [V.str (Str.ofString "and"), V.ref p5]) = H11 at s11 h11 ⊢
      refine ⟨.ref p1, rfl, v, rfl, sl2, fun p7 np7 => ?_⟩
      have s12 := same_upd (o := (HO.tup [V.ref p1, v])) np7
      have h12 : upd H11 p7 (HO.tup [V.ref p1, v]) p7 = some (HO.tup [V.ref p1, v]) := upd_same
      generalize upd H11 p7 (HO.tup [V.ref p1, v]) = H12 at s12 h12 ⊢
      refine ⟨sl2, fun p8 np8 => ?_⟩
      have s13 := same_upd (o := (HO.tup [V.str (Str.ofString "or"), V.ref p7])) np8
      have h13 : upd H12 p8 (HO.tup [V.str (Str.ofString "or"), V.ref p7]) p8 = some (HO.tup [V.str (Str.ofString "or"), V.ref p7]) := upd_same
      generalize upd H12 p8 (HO.tup [V.str (Str.ofString "or"), V.ref p7]) = H13 at s13 h13 ⊢
      refine ⟨.ref p1, rfl, v, rfl, w', rfl, sl3, fun p9 np9 => ?_⟩
      have s14 := same_upd (o := (HO.tup [V.ref p1, v, w'])) np9
      have h14 : upd H13 p9 (HO.tup [V.ref p1, v, w']) p9 = some (HO.tup [V.ref p1, v, w']) := upd_same
      generalize upd H13 p9 (HO.tup [V.ref p1, v, w']) = H14 at s14 h14 ⊢
      refine ⟨sl2, fun p10 np10 => ?_⟩
      have s15 := same_upd (o := (HO.tup [V.str (Str.ofString "and"), V.ref p9])) np10
      have h15 : upd H14 p10 (HO.tup [V.str (Str.ofString "and"), V.ref p9]) p10 = some (HO.tup [V.str (Str.ofString "and"), V.ref p9]) := upd_same
      generalize upd H14 p10 (HO.tup [V.str (Str.ofString "and"), V.ref p9]) = H15 at s15 h15 ⊢
      refine ⟨sl4, fun p11 np11 => ?_⟩
      have s16 := same_upd (o := (HO.lst [V.ref p4, V.ref p6, V.ref p8, V.ref p10])) np11
      have h16 : upd H15 p11 (HO.lst [V.ref p4, V.ref p6, V.ref p8, V.ref p10]) p11 = some (HO.lst [V.ref p4, V.ref p6, V.ref p8, V.ref p10]) := upd_same
      generalize upd H15 p11 (HO.lst [V.ref p4, V.ref p6, V.ref p8, V.ref p10]) = H16 at s16 h16 ⊢
      refine ⟨.ref p11, rfl, v, rfl, .ref p1, rfl, sl1, fun p12 np12 => ?_⟩
      have s17 := same_upd (o := (HO.tup [V.str (Str.ofString "one")])) np12
      have h17 : upd H16 p12 (HO.tup [V.str (Str.ofString "one")]) p12 = some (HO.tup [V.str (Str.ofString "one")]) := upd_same
      generalize upd H16 p12 (HO.tup [V.str (Str.ofString "one")]) = H17 at s17 h17 ⊢
      refine ⟨sl1, fun p13 np13 => ?_⟩
      have s18 := same_upd (o := (HO.tup [V.str (Str.ofString "nought")])) np13
      have h18 : upd H17 p13 (HO.tup [V.str (Str.ofString "nought")]) p13 = some (HO.tup [V.str (Str.ofString "nought")]) := upd_same
      generalize upd H17 p13 (HO.tup [V.str (Str.ofString "nought")]) = H18 at s18 h18 ⊢
      refine ⟨sl4, fun p14 np14 => ?_⟩
      have s19 := same_upd (o := (HO.tup [v, V.ref p1, V.ref p12, V.ref p13])) np14
      have h19 : upd H18 p14 (HO.tup [v, V.ref p1, V.ref p12, V.ref p13]) p14 = some (HO.tup [v, V.ref p1, V.ref p12, V.ref p13]) := upd_same
      generalize upd H18 p14 (HO.tup [v, V.ref p1, V.ref p12, V.ref p13]) = H19 at s19 h19 ⊢
      refine ⟨sl2, fun p15 np15 => ?_⟩
      have s20 := same_upd (o := (HO.tup [V.str (Str.ofString "or"), V.ref p14])) np15
      have h20 : upd H19 p15 (HO.tup [V.str (Str.ofString "or"), V.ref p14]) p15 = some (HO.tup [V.str (Str.ofString "or"), V.ref p14]) := upd_same
      generalize upd H19 p15 (HO.tup [V.str (Str.ofString "or"), V.ref p14]) = H20 at s20 h20 ⊢
      refine ⟨sl1, fun p16 np16 => ?_⟩
      have s21 := same_upd (o := (HO.lst [V.ref p15])) np16
      have h21 : upd H20 p16 (HO.lst [V.ref p15]) p16 = some (HO.lst [V.ref p15]) := upd_same
      generalize upd H20 p16 (HO.lst [V.ref p15]) = H21 at s21 h21 ⊢
      have k20 : Same H20 H21 := s21
      have k19 := s20.trans k20
      have k18 := s19.trans k19
      have k17 := s18.trans k18
      have k16 := s17.trans k17
      have k15 := s16.trans k16
      have k14 := s15.trans k15
      have k13 := s14.trans k14
      have k12 := s13.trans k13
      have k11 := s12.trans k12
      have k10 := s11.trans k11
      have k9 := s10.trans k10
      have k8 := s9.trans k9
      have k7 := s8.trans k8
      have k6 := s7.trans k7
      have k5 := s6.trans k6
      refine ⟨p11, p16, _, _, rfl, rfl, k16 _ _ h16, h21, (by show 5 ≤ sizeLine; decide), fun p17 np17 => ?_⟩
      have s22 := same_upd (o := (HO.lst ([V.ref p4, V.ref p6, V.ref p8, V.ref p10] ++ [V.ref p15]))) np17
      have h22 : upd H21 p17 (HO.lst ([V.ref p4, V.ref p6, V.ref p8, V.ref p10] ++ [V.ref p15])) p17 = some (HO.lst ([V.ref p4, V.ref p6, V.ref p8, V.ref p10] ++ [V.ref p15])) := upd_same
      generalize upd H21 p17 (HO.lst ([V.ref p4, V.ref p6, V.ref p8, V.ref p10] ++ [V.ref p15])) = H22 at s22 h22 ⊢
      have kk : ∀ {a : Addr} {o : HO}, H21 a = some o → H22 a = some o := fun e => s22 _ _ e
      have tf' : Tk H22 v f.d := tf.same (k5.trans s22)
      have t1 : Tk H22 (.ref p1) (Fm.inp j).d := .tup (kk (k6 _ _ h6)) (.cons (.str _) (.cons (.int _) .nil))
      obtain ⟨g, tg, okg, cg, dg⟩ : FmAt H22 m 2 2 w' := by
        rw [← ew]
        split
        · exact FmAt.no (kk (k7 _ _ h7)) (FmAt.inp (kk (k6 _ _ h6)) (by omega))
        · exact (FmAt.inp (kk (k6 _ _ h6)) (by omega)).mono (by omega) (by omega)
      have o1 : (Fm.inp j).ok m = true := decide_eq_true (by omega)
      have oks2 : ∀ {a b : Fm}, a.ok m = true → b.ok m = true → Fm.oks m [a, b] = true := fun x y => by
        show (_ && (_ && true)) = true
        rw [x, y]
        rfl
      have md : ∀ {a b c : Nat}, a ≤ c → b ≤ c → max a b ≤ c := fun x y => Nat.max_le.mpr ⟨x, y⟩
      have a1 : FmAt H22 m (1 + 4 * (k + 1)) (2 + (k + 1)) (.ref p4) := (FmAt.no (kk (k9 _ _ h9)) ⟨f, tf', okf, cf, df⟩).mono (by omega) (by omega)
      have a2 : FmAt H22 m (1 + 4 * (k + 1)) (2 + (k + 1)) (.ref p6) := FmAt.op (fs := [f, .inp j]) true (kk (k11 _ _ h11)) (kk (k10 _ _ h10)) (.cons tf' (.cons t1 .nil)) (Nat.le_refl 2) (by show 2 ≤ 4; decide) (oks2 okf o1) (by show 1 + (f.cnt + (1 + 0)) ≤ _; omega) (by show max f.dep (max 1 0) + 1 ≤ _; omega)
      have a3 : FmAt H22 m (1 + 4 * (k + 1)) (2 + (k + 1)) (.ref p8) := FmAt.op (fs := [.inp j, f]) false (kk (k13 _ _ h13)) (kk (k12 _ _ h12)) (.cons t1 (.cons tf' .nil)) (Nat.le_refl 2) (by show 2 ≤ 4; decide) (oks2 o1 okf) (by show 1 + (1 + (f.cnt + 0)) ≤ _; omega) (by show max 1 (max f.dep 0) + 1 ≤ _; omega)
      have a4 : FmAt H22 m (1 + 4 * (k + 1)) (2 + (k + 1)) (.ref p10) := FmAt.op (fs := [.inp j, f, g]) true (kk (k15 _ _ h15)) (kk (k14 _ _ h14)) (.cons t1 (.cons tf' (.cons tg .nil))) (by show 2 ≤ 3; decide) (by show 3 ≤ 4; decide) (by show (_ && (_ && (_ && true))) = true; rw [o1, okf, okg]; rfl) (by show 1 + (1 + (f.cnt + (g.cnt + 0))) ≤ _; omega) (by show max 1 (max f.dep (max g.dep 0)) + 1 ≤ _; omega)
      have a5 : FmAt H22 m (1 + 4 * (k + 1)) (2 + (k + 1)) (.ref p15) := FmAt.op (fs := [f, .inp j, .st true, .st false]) false (kk (k20 _ _ h20)) (kk (k19 _ _ h19)) (.cons tf' (.cons t1 (.cons (.tup (kk (k17 _ _ h17)) (.cons (.str _) .nil)) (.cons (.tup (kk (k18 _ _ h18)) (.cons (.str _) .nil)) .nil)))) (by show 2 ≤ 4; decide) (Nat.le_refl 4) (by show (_ && (_ && (true && (true && true)))) = true; rw [okf, o1]; rfl) (by show 1 + (f.cnt + (1 + (1 + (1 + 0)))) ≤ _; omega) (by show max f.dep (max 1 (max 1 (max 1 0))) + 1 ≤ _; omega)
      obtain ⟨u, hu, au⟩ := five_at w0 w1 (P := FmAt H22 m (1 + 4 * (k + 1)) (2 + (k + 1))) a1 a2 a3 a4 a5
      refine ⟨.int way, rfl, p17, _, way, u, rfl, rfl, SqL.of h22, hu, ?_⟩
      exact ⟨_, _, _, _, _, _, rfl, (D5.same (k5.trans s22)).mono (by push_cast; omega), fr05.trans (Fr.of (k5.trans s22)), au⟩
    · rintro σ H3 ⟨v, y3, y4, y5, y6, y7, rfl, D3, fr3, fm3⟩
      exact ⟨v, rfl, q _ H3 (D3.mono (by show n + 1 + 2 * ((9 : Nat) : Int) ≤ _; omega)) fr3 fm3⟩
theorem ok_count (T : Tx w K mg) : FnOk P w K mg base CX0 24 T.f_count T.fd_count ["_law_form_here"] (sp_count K 22) := ok_countE T 22
theorem deep_at {x : Int} (h0 : 0 ≤ x) (h1 : x < 8) (n7 : x ≠ 7) : (∃ e : Nat, atI [V.int 0, V.int 2, V.int 3, V.int 4, V.int 6, V.int 9, V.int 3] x = some (.int (e : Nat)) ∧ e ≤ 9) ∧ ∃ b : Int, atI [V.int 1, V.int 4, V.int 6, V.int 9, V.int 9, V.int 9, V.int 24] x = some (.int b) ∧ b ≤ 24 := by
  have : x = 0 ∨ x = 1 ∨ x = 2 ∨ x = 3 ∨ x = 4 ∨ x = 5 ∨ x = 6 := by omega
  rcases this with rfl | rfl | rfl | rfl | rfl | rfl | rfl
  · exact ⟨⟨0, rfl, by decide⟩, 1, rfl, by decide⟩
  · exact ⟨⟨2, rfl, by decide⟩, 4, rfl, by decide⟩
  · exact ⟨⟨3, rfl, by decide⟩, 6, rfl, by decide⟩
  · exact ⟨⟨4, rfl, by decide⟩, 9, rfl, by decide⟩
  · exact ⟨⟨6, rfl, by decide⟩, 9, rfl, by decide⟩
  · exact ⟨⟨9, rfl, by decide⟩, 9, rfl, by decide⟩
  · exact ⟨⟨3, rfl, by decide⟩, 24, rfl, by decide⟩
def sp_some_form (K : PySem.W.Frag) : Sp := fun vs H Q _ => ∃ (d l : Addr) (n : Int) (m : Nat), vs = [.ref d, .int (m : Nat)] ∧ DeckC H d l n ∧ n ≤ 90000000 ∧ 1 ≤ m ∧ m ≤ 6 ∧ ∀ v H', DeckC H' d l (n + 1600) → Fr d l H H' → FmAt H' m 40 11 v → Q v H'
theorem ok_some_form (T : Tx w K mg) : FnOk P w K mg base CX0 25 T.f_some_form T.fd_some_form ["_law_deck_here", "_law_many"] (sp_some_form K) := by
  refine T.F_some_form.ok sc_some_form (fun vs H Q E h => ?_) (fun cdv A outer s H vs Q E hr h => ?_)
  · obtain ⟨d, l, n, m, rfl, _⟩ := h
    rfl
  · obtain ⟨d, l, n, m, rfl, D, hn, m1, m6, q⟩ := h
    refine ⟨_, (pss_cons (ps_set (i := 2) sc_some_form.nd rfl (by first | exact .inl rfl | exact .inr rfl) (pe_call (ok_take T) (hr.mono (by decide)) (by rfl) T.g_take T.F_take.kp T.b_take .nil pass0 (pa_cons (pv 0) (pa_cons pe_int pa_nil)))) (pss_cons (ps_if (pt_cmpR op_eq (pv 2) pe_int (nomark _)) (pss_one (ps_ret (pe_call (ok_tower T) (hr.mono (by decide)) (by rfl) T.g_tower T.F_tower.kp T.b_tower .nil pass0 (pa_cons (pv 0) (pa_cons (pv 1) pa_nil))))) pss_nil) (pss_cons (ps_set (i := 3) sc_some_form.nd rfl (by first | exact .inl rfl | exact .inr rfl) (pe_call (ok_form T) (hr.mono (by decide)) (by rfl) T.g_form T.F_form.kp T.b_form .nil pass0 (pa_cons (pv 0) (pa_cons (pv 1) (pa_cons (pe_ix ix_list (pe_lst (pa_cons pe_int (pa_cons pe_int (pa_cons pe_int (pa_cons pe_int (pa_cons pe_int (pa_cons pe_int (pa_cons pe_int pa_nil)))))))) (pv 2) (fun _ _ => rfl)) (pa_cons (pe_lst (pa_cons (pe_ix ix_list (pe_lst (pa_cons pe_int (pa_cons pe_int (pa_cons pe_int (pa_cons pe_int (pa_cons pe_int (pa_cons pe_int (pa_cons pe_int pa_nil)))))))) (pv 2) (fun _ _ => rfl)) pa_nil)) pa_nil)))))) (pss_cons (ps_if (pt_cmpR op_gt (pe_call (ok_count T) (hr.mono (by decide)) (by rfl) T.g_count T.F_count.kp T.b_count .nil pass0 (pa_cons (pv 3) pa_nil)) pe_int (nomark _)) (pss_one (ps_ret (pe_tup (pa_cons pe_str (pa_cons (pe_tup (pa_cons (pe_tup (pa_cons pe_str (pa_cons pe_int pa_nil))) (pa_cons (pe_tup (pa_cons pe_str (pa_cons (pe_tup (pa_cons pe_str (pa_cons (pe_op op_sub (pv 1) pe_int) pa_nil))) pa_nil))) pa_nil))) pa_nil))))) pss_nil) (pss_one (ps_ret (pv 3))))))), ?_⟩
    refine ⟨.ref d, rfl, d, l, 8, _, rfl, D, by omega, by decide, by decide, fun H1 way D1 fr1 w0 w1 => ?_⟩
    refine ⟨.int way, rfl, rfl, _, rfl, ite2 (fun e7 => ?_) (fun n7 => ?_)⟩
    · exact ⟨.ref d, rfl, .int (m : Nat), rfl, d, l, _, m, rfl, D1, by omega, m1, m6, fun v H2 D2 fr2 fm => q v H2 (D2.mono (by omega)) (fr1.trans fr2) (fm.mono (by omega) (by omega))⟩
    have n7 : way ≠ 7 := fun z => n7 (by rw [z]; exact decide_eq_true rfl)
    obtain ⟨⟨e, he, e9⟩, b, hb, b24⟩ := deep_at w0 w1 n7
    refine ⟨.ref d, rfl, .int (m : Nat), rfl, (by show 7 ≤ sizeLine; decide), fun p1 np1 => ?_⟩
    have s2 := same_upd (o := (HO.lst [V.int 0, V.int 2, V.int 3, V.int 4, V.int 6, V.int 9, V.int 3])) np1
    have h2 : upd H1 p1 (HO.lst [V.int 0, V.int 2, V.int 3, V.int 4, V.int 6, V.int 9, V.int 3]) p1 = some (HO.lst [V.int 0, V.int 2, V.int 3, V.int 4, V.int 6, V.int 9, V.int 3]) := upd_same
    generalize upd H1 p1 (HO.lst [V.int 0, V.int 2, V.int 3, V.int 4, V.int 6, V.int 9, V.int 3]) = H2 at s2 h2 ⊢
    refine ⟨.int way, rfl, p1, _, way, _, rfl, rfl, SqL.of h2, he, (by show 7 ≤ sizeLine; decide), fun p2 np2 => ?_⟩
    have s3 := same_upd (o := (HO.lst [V.int 1, V.int 4, V.int 6, V.int 9, V.int 9, V.int 9, V.int 24])) np2
    have h3 : upd H2 p2 (HO.lst [V.int 1, V.int 4, V.int 6, V.int 9, V.int 9, V.int 9, V.int 24]) p2 = some (HO.lst [V.int 1, V.int 4, V.int 6, V.int 9, V.int 9, V.int 9, V.int 24]) := upd_same
    generalize upd H2 p2 (HO.lst [V.int 1, V.int 4, V.int 6, V.int 9, V.int 9, V.int 9, V.int 24]) = H3 at s3 h3 ⊢
    refine ⟨.int way, rfl, p2, _, way, _, rfl, rfl, SqL.of h3, hb, sl1, fun L nL => ?_⟩
    have D3 := D1.same (s2.trans s3)
    obtain ⟨Ld, Ll⟩ := D3.off nL
    have s4 := same_upd (o := (HO.lst [V.int b])) nL
    have hL : upd H3 L (HO.lst [V.int b]) L = some (HO.lst [V.int b]) := upd_same
    generalize upd H3 L (HO.lst [V.int b]) = H4 at s4 hL ⊢
    have D4 := D3.same s4
    have s14 := s2.trans (s3.trans s4)
    refine ⟨e, e9, d, l, L, _, m, b, rfl, D4, by omega, e9, hL, Ld, Ll, m1, m6, by omega, fun v H5 f D5 k5 hL5 tk ok de lp lb => ?_⟩
    have fr5 : Fr d l H3 H5 := fun x o h1 h2 z => k5 x o h1 h2 (ne_of_none z nL) (s4 _ _ z)
    have fr05 : Fr d l H H5 := (fr1.trans (Fr.of (s2.trans s3))).trans fr5
    have used : 3 * ((e : Int) + 1) * (f.lv : Nat) ≤ 30 * 51 := Int.mul_le_mul (by omega) (by omega) (by omega) (by decide)
    refine ⟨v, rfl, v, f, m, rfl, tk, ok, by omega, fun H6 s6 => ⟨_, _, rfl, rfl, _, rfl, ite2 (fun big => ?_) (fun small => ?_)⟩⟩
    · have D6 := D5.same s6
      refine ⟨sl2, fun p1 np1 => ?_⟩
      have s7 := same_upd (o := (HO.tup [V.str (Str.ofString "in"), V.int 0])) np1
      have h7 : upd H6 p1 (HO.tup [V.str (Str.ofString "in"), V.int 0]) p1 = some (HO.tup [V.str (Str.ofString "in"), V.int 0]) := upd_same
      generalize upd H6 p1 (HO.tup [V.str (Str.ofString "in"), V.int 0]) = H7 at s7 h7 ⊢
      refine ⟨.int (m : Nat), rfl, _, _, rfl, rfl, sl2, fun p2 np2 => ?_⟩
      have s8 := same_upd (o := (HO.tup [V.str (Str.ofString "in"), V.int ((m : Nat) - 1)])) np2
      have h8 : upd H7 p2 (HO.tup [V.str (Str.ofString "in"), V.int ((m : Nat) - 1)]) p2 = some (HO.tup [V.str (Str.ofString "in"), V.int ((m : Nat) - 1)]) := upd_same
      generalize upd H7 p2 (HO.tup [V.str (Str.ofString "in"), V.int ((m : Nat) - 1)]) = H8 at s8 h8 ⊢
      refine ⟨sl2, fun p3 np3 => ?_⟩
      have s9 := same_upd (o := (HO.tup [V.str (Str.ofString "not"), V.ref p2])) np3
      have h9 : upd H8 p3 (HO.tup [V.str (Str.ofString "not"), V.ref p2]) p3 = some (HO.tup [V.str (Str.ofString "not"), V.ref p2]) := upd_same
      generalize upd H8 p3 (HO.tup [V.str (Str.ofString "not"), V.ref p2]) = H9 at s9 h9 ⊢
      refine ⟨sl2, fun p4 np4 => ?_⟩
      have s10 := same_upd (o := (HO.tup [V.ref p1, V.ref p3])) np4
      have h10 : upd H9 p4 (HO.tup [V.ref p1, V.ref p3]) p4 = some (HO.tup [V.ref p1, V.ref p3]) := upd_same
      generalize upd H9 p4 (HO.tup [V.ref p1, V.ref p3]) = H10 at s10 h10 ⊢
      refine ⟨sl2, fun p5 np5 => ?_⟩
      have s11 := same_upd (o := (HO.tup [V.str (Str.ofString "and"), V.ref p4])) np5
      have h11 : upd H10 p5 (HO.tup [V.str (Str.ofString "and"), V.ref p4]) p5 = some (HO.tup [V.str (Str.ofString "and"), V.ref p4]) := upd_same
      generalize upd H10 p5 (HO.tup [V.str (Str.ofString "and"), V.ref p4]) = H11 at s11 h11 ⊢
      have em : ((m : Nat) : Int) - 1 = ((m - 1 : Nat) : Int) := by omega
      rw [em] at h8
      have sB := s10.trans s11
      have sA := s9.trans sB
      refine q _ H11 ((D6.same ((s7.trans s8).trans sA)).mono (by omega)) (fr05.trans (Fr.of (s6.trans ((s7.trans s8).trans sA)))) (FmAt.op (fs := [.inp 0, .no (.inp (m - 1))]) true h11 (s11 _ _ h10) (.cons (.tup ((s8.trans sA) _ _ h7) (.cons (.str _) (.cons (.int _) .nil))) (.cons (.tup (sB _ _ h9) (.cons (.str _) (.cons (.tup (sA _ _ h8) (.cons (.str _) (.cons (.int _) .nil))) .nil))) .nil)) (Nat.le_refl 2) (by show 2 ≤ 4; decide) (by show (decide (0 < m) && (decide (m - 1 < m) && true)) = true; rw [decide_eq_true (by omega), decide_eq_true (by omega)]; rfl) (by show 1 + (1 + ((1 + 1) + 0)) ≤ 40; decide) (by show max 1 (max (1 + 1) 0) + 1 ≤ 11; decide))
    · have small : ¬ ((f.cnt : Nat) : Int) > 40 := fun z => small (decide_eq_true z)
      exact ⟨v, rfl, q v H6 ((D5.same s6).mono (by omega)) (fr05.trans (Fr.of s6)) ⟨f, tk.same s6, ok, by omega, by omega⟩⟩

end
end Gk

set_option Elab.async false
set_option linter.all false
set_option maxRecDepth 100000
set_option maxHeartbeats 1000000
set_option pp.maxSteps 1500
set_option pp.deepTerms false
namespace Gk
open PySem PySem.Spec PyProof.Rows L2
section
variable {P : Program} {w : World} {K : PySem.W.Frag} {mg : Str → Option Value} {base : Heap}
/-! ### great forms: wide ones, many nots -/
def sp_nots (K : PySem.W.Frag) : Sp := fun vs H Q _ => ∃ (d l : Addr) (n : Int) (m : Nat), vs = [.ref d, .int (m : Nat)] ∧ DeckC H d l n ∧ n ≤ 100000000 ∧ 1 ≤ m ∧ m ≤ 6 ∧ ∀ v H', DeckC H' d l (n + 2) → Fr d l H H' → FmAt H' m 22 22 v → Q v H'
theorem ok_nots (T : Tx w K mg) : FnOk P w K mg base CX0 3 T.f_nots T.fd_nots ["_law_deck_here", "_law_many"] (sp_nots K) := by
  refine T.F_nots.ok sc_nots (fun vs H Q E h => ?_) (fun cdv A outer s H vs Q E hr h => ?_)
  · obtain ⟨d, l, n, m, rfl, _⟩ := h
    rfl
  · obtain ⟨d, l, n, m, rfl, D, hn, m1, m6, q⟩ := h
    refine ⟨_, (pss_cons (ps_set (i := 2) sc_nots.nd rfl (by first | exact .inl rfl | exact .inr rfl) (pe_tup (pa_cons pe_str (pa_cons (pe_call (ok_take T) (hr.mono (by decide)) (by rfl) T.g_take T.F_take.kp T.b_take .nil pass0 (pa_cons (pv 0) (pa_cons (pv 1) pa_nil))) pa_nil)))) (pss_cons (ps_for PassesOwn.never rfl (pi_range1 (by rfl) T.m_range (pa_cons (pe_op op_add pe_int (pe_call (ok_take T) (hr.mono (by decide)) (by rfl) T.g_take T.F_take.kp T.b_take .nil pass0 (pa_cons (pv 0) (pa_cons pe_int pa_nil)))) pa_nil)) (pg_name (i := 3) sc_nots.nd rfl (by first | exact .inl rfl | exact .inr rfl)) (pss_one (ps_set (i := 2) sc_nots.nd rfl (by first | exact .inl rfl | exact .inr rfl) (pe_tup (pa_cons pe_str (pa_cons (pv 2) pa_nil)))))) (pss_one (ps_ret (pv 2))))), ?_⟩
    refine ⟨.ref d, rfl, .int (m : Nat), rfl, d, l, (m : Nat), _, rfl, D, by omega, by omega, by omega, fun H1 i D1 fr1 i0 i1 => ?_⟩
    obtain ⟨i, rfl⟩ := Int.eq_ofNat_of_zero_le i0
    refine ⟨sl2, fun p np => ?_⟩
    have s2 := same_upd (o := (HO.tup [V.str (Str.ofString "in"), V.int (i : Nat)])) np
    have h2 : upd H1 p (HO.tup [V.str (Str.ofString "in"), V.int (i : Nat)]) p = some (HO.tup [V.str (Str.ofString "in"), V.int (i : Nat)]) := upd_same
    generalize upd H1 p (HO.tup [V.str (Str.ofString "in"), V.int (i : Nat)]) = H2 at s2 h2 ⊢
    refine ⟨.ref d, rfl, d, l, 10, _, rfl, D1.same s2, by omega, by decide, by decide, fun H3 x D3 fr3 x0 x1 => ?_⟩
    refine ⟨_, _, rfl, rfl, _, rfl, by omega, by omega, ?_⟩
    refine for_range (lo := 0) (n := (11 + x : Int).toNat) (fun k σ H' => ∃ v y3, σ = [some (.ref d), some (.int (m : Nat)), some v, y3] ∧ DeckC H' d l (n + 2) ∧ Fr d l H H' ∧ FmAt H' m (1 + k) (1 + k) v)
      ⟨_, _, rfl, D3.mono (by omega), (fr1.trans (Fr.of s2)).trans fr3, (FmAt.inp h2 (by omega)).ts (Ts.frC (D1.same s2) fr3)⟩ ?_ ?_
    · rintro k σ H4 hk ⟨v, y3, rfl, D4, fr4, fm⟩
      refine ⟨v, rfl, sl2, fun p np => ?_⟩
      have s5 := same_upd (o := HO.tup [V.str (Str.ofString "not"), v]) np
      exact ⟨_, _, rfl, D4.same s5, fr4.trans (Fr.of s5), (FmAt.no upd_same (fm.same s5)).mono (by omega) (by omega)⟩
    · rintro σ H4 ⟨v, y3, rfl, D4, fr4, fm⟩
      exact ⟨v, rfl, q v H4 D4 fr4 (fm.mono (by omega) (by omega))⟩
theorem lc_rangeC {lo c : Int} {n : Nat} {g : TG} {tt : TT} {te : TE} {vs : List Nat} {σ : L2.St} {H1 : Hp} {D : Addr} {Qd : Hp → Prop} (Pv : Nat → Hp → Prop) (h0 : Pv 0 (upd H1 D (.lst [])))
    (hs : ∀ i H, i < n → Pv i H → g (.int (lo + (i : Nat) * c)) (wipe σ vs) H fun σ2 H2 => wipe σ2 vs = wipe σ vs ∧ tt σ2 H2 fun b H3 =>
      if b = true then te σ2 H3 fun y H4 => ∃ acc, H4 D = some (.lst acc) ∧ acc.length < sizeLine ∧ Pv (i + 1) (upd H4 D (.lst (acc ++ [y]))) else Pv (i + 1) H3) (hd : ∀ H, Pv n H → Qd H) :
    ∃ W : Nat → Nat → Hp → Prop, (∃ m, W 0 m (upd H1 D (.lst []))) ∧ ∀ i m H, W i m H →
      ((Itc lo c n).stop i H ∧ Qd H) ∨ ((Itc lo c n).go i H ∧ ∃ Nx : Hp → Prop, (∀ H', Nx H' → ∃ m', m' < m ∧ W (i + 1) m' H') ∧ ∀ x H', (Itc lo c n).yld i H x H' → g x (wipe σ vs) H' fun σ2 H2 => wipe σ2 vs = wipe σ vs ∧ tt σ2 H2 fun b H3 =>
        if b = true then te σ2 H3 fun y H4 => ∃ acc, H4 D = some (.lst acc) ∧ acc.length < sizeLine ∧ Nx (upd H4 D (.lst (acc ++ [y]))) else Nx H3) := by
  refine ⟨fun i m H => m = n - i ∧ i ≤ n ∧ Pv i H, ⟨n, by simp, Nat.zero_le _, h0⟩, ?_⟩
  rintro i m H ⟨rfl, hi, p⟩
  by_cases hlt : i < n
  · refine .inr ⟨hlt, Pv (i + 1), fun H' p' => ⟨n - (i + 1), by omega, rfl, hlt, p'⟩, fun x H' y => ?_⟩
    obtain ⟨e, y⟩ := y
    subst e y
    exact hs i _ hlt p
  · have e : i = n := by omega
    subst e
    exact .inl ⟨Nat.le_refl _, hd H p⟩
theorem cut_mid {xs : List V} {a b : Nat} (h : a ≤ xs.length) : cutV xs (some (a : Int)) (some ((a + b : Nat) : Int)) = (xs.drop a).take b := by
  unfold cutV
  rw [HT.sIx_nat, HT.sIx_nat, Nat.min_eq_left h]
  apply List.ext_getElem?
  intro i
  rw [List.getElem?_take, List.getElem?_take]
  by_cases z : i < b
  · rw [if_pos z]
    by_cases y : a + i < xs.length
    · rw [if_pos (by omega)]
    · rw [List.getElem?_eq_none (by rw [List.length_drop]; omega)]
      split <;> rfl
  · rw [if_neg z, if_neg (by omega)]
def Wd54 (N e : Nat) : Prop := ((N = 64 ∨ N = 32) ∧ e ≤ 1) ∨ ((N = 16 ∨ N = 8) ∧ e ≤ 2) ∨ ((N = 4 ∨ N = 2) ∧ e ≤ 3) ∨ (N = 1 ∧ e ≤ 4)
theorem wd_next {N e : Nat} (h : Wd54 N e) (h1 : 1 < N) : ∃ n' : Nat, RgC 0 N 4 n' ∧ Wd54 n' (e + 1) ∧ 4 * n' ≤ N + 2 ∧ N ≤ 4 * n' ∧ 2 * n' ≤ N ∧ 1 ≤ n' ∧ ∀ j, j < n' → 4 * j + 2 ≤ N := by
  have rg : ∀ (N : Nat) (n' : Nat), (Builtin.Range.small 0 (N : Int) 4 = true ∧ Builtin.Range.rangeSize 0 (N : Int) 4 = n') → RgC 0 N 4 n' := fun N n' h => ⟨by decide, by decide, h.1, h.2⟩
  rcases h with ⟨h | h, he⟩ | ⟨h | h, he⟩ | ⟨h | h, he⟩ | ⟨h, he⟩
  · subst h; exact ⟨16, rg _ _ (by decide +kernel), .inr (.inl ⟨.inl rfl, by omega⟩), by omega, by omega, by omega, by omega, fun j hj => by omega⟩
  · subst h; exact ⟨8, rg _ _ (by decide +kernel), .inr (.inl ⟨.inr rfl, by omega⟩), by omega, by omega, by omega, by omega, fun j hj => by omega⟩
  · subst h; exact ⟨4, rg _ _ (by decide +kernel), .inr (.inr (.inl ⟨.inl rfl, by omega⟩)), by omega, by omega, by omega, by omega, fun j hj => by omega⟩
  · subst h; exact ⟨2, rg _ _ (by decide +kernel), .inr (.inr (.inl ⟨.inr rfl, by omega⟩)), by omega, by omega, by omega, by omega, fun j hj => by omega⟩
  · subst h; exact ⟨1, rg _ _ (by decide +kernel), .inr (.inr (.inr ⟨rfl, by omega⟩)), by omega, by omega, by omega, by omega, fun j hj => by omega⟩
  · subst h; exact ⟨1, rg _ _ (by decide +kernel), .inr (.inr (.inr ⟨rfl, by omega⟩)), by omega, by omega, by omega, by omega, fun j hj => by omega⟩
  · omega
theorem two_at {x : Int} (h0 : 0 ≤ x) (h1 : x < 2) : ∃ c : Nat, atI [V.int 32, V.int 64] x = some (.int (c : Nat)) ∧ (c = 32 ∨ c = 64) := by
  have : x = 0 ∨ x = 1 := by omega
  rcases this with rfl | rfl
  · exact ⟨32, rfl, .inl rfl⟩
  · exact ⟨64, rfl, .inr rfl⟩
def chunk (c : Bool) (fs : List Fm) (j : Nat) : Fm := .op c ((fs.drop (4 * j)).take 4)
theorem chunk_cnt (c : Bool) (fs : List Fm) : ∀ j : Nat, Fm.cnts ((List.range j).map (chunk c fs)) = j + Fm.cnts (fs.take (4 * j))
  | 0 => rfl
  | j + 1 => by
    have e : fs.take (4 * (j + 1)) = fs.take (4 * j) ++ (fs.drop (4 * j)).take 4 := by rw [show 4 * (j + 1) = 4 * j + 4 by omega, List.take_add]
    rw [List.range_succ, List.map_append, Fm.cnts_app, chunk_cnt c fs j, e, Fm.cnts_app]
    show _ + (1 + Fm.cnts ((fs.drop (4 * j)).take 4) + 0) = _
    omega
def sp_wide (K : PySem.W.Frag) : Sp := fun vs H Q _ => ∃ (d l : Addr) (n : Int) (m : Nat), vs = [.ref d, .int (m : Nat)] ∧ DeckC H d l n ∧ n ≤ 100000000 ∧ 1 ≤ m ∧ m ≤ 6 ∧ ∀ v H', DeckC H' d l (n + 130) → Fr d l H H' → FmAt H' m 128 4 v → Q v H'
theorem ok_wide (T : Tx w K mg) : FnOk P w K mg base CX0 3 T.f_wide T.fd_wide ["_law_deck_here", "_law_many"] (sp_wide K) := by
  refine T.F_wide.ok sc_wide (fun vs H Q E h => ?_) (fun cdv A outer s H vs Q E hr h => ?_)
  · obtain ⟨d, l, n, m, rfl, _⟩ := h
    rfl
  · obtain ⟨d, l, n, m, rfl, D, hn, m1, m6, q⟩ := h
    refine ⟨_, (pss_cons (ps_set (i := 2) sc_wide.nd rfl (by first | exact .inl rfl | exact .inr rfl) (pe_lc (own := [("_law_k", 4)]) (by rfl) sc_wide.nd (pi_range1 (by rfl) T.m_range (pa_cons (pe_ix ix_list (pe_lst (pa_cons pe_int (pa_cons pe_int pa_nil))) (pe_call (ok_take T) (hr.mono (by decide)) (by rfl) T.g_take T.F_take.kp T.b_take .nil pass0 (pa_cons (pv 0) (pa_cons pe_int pa_nil))) (fun _ _ => rfl)) pa_nil)) (blkOk_by (own := [("_law_k", 4)]) (N := ["_law_deck_here", "_law_many", "_law_forms", "_law_word", "_law_k"]) (sc := defScope s_wide) (by decide +kernel)) (fun _ _ _ _ _ => (pg_name (i := 4) sc_wide.nd rfl (by first | exact .inl rfl | exact .inr rfl))) (fun _ _ _ _ _ => pts_nil) (fun _ _ _ _ _ => (pe_tup (pa_cons pe_str (pa_cons (pe_call (ok_take T) (hr.mono (by decide)) (by rfl) T.g_take T.F_take.kp T.b_take .nil pass0 (pa_cons (pv 0) (pa_cons (pv 1) pa_nil))) pa_nil)))))) (pss_cons (ps_while PassesOwn.never (pt_cmpR op_gt (pe_callB call_len_seq (by rfl) T.m_len PySem.boot_len (pa_cons (pv 2) pa_nil)) pe_int (nomark _)) (pss_cons (ps_set (i := 3) sc_wide.nd rfl (by first | exact .inl rfl | exact .inr rfl) (pe_ix ix_list (pe_lst (pa_cons pe_str (pa_cons pe_str pa_nil))) (pe_call (ok_take T) (hr.mono (by decide)) (by rfl) T.g_take T.F_take.kp T.b_take .nil pass0 (pa_cons (pv 0) (pa_cons pe_int pa_nil))) (fun _ _ => rfl))) (pss_one (ps_set (i := 2) sc_wide.nd rfl (by first | exact .inl rfl | exact .inr rfl) (pe_lc (own := [("_law_k", 4)]) (by rfl) sc_wide.nd (pi_range3 (by rfl) T.m_range (pa_cons pe_int (pa_cons (pe_callB call_len_seq (by rfl) T.m_len PySem.boot_len (pa_cons (pv 2) pa_nil)) (pa_cons pe_int pa_nil)))) (blkOk_by (own := [("_law_k", 4)]) (N := ["_law_deck_here", "_law_many", "_law_forms", "_law_word", "_law_k"]) (sc := defScope s_wide) (by decide +kernel)) (fun _ _ _ _ _ => (pg_name (i := 4) sc_wide.nd rfl (by first | exact .inl rfl | exact .inr rfl))) (fun _ _ _ _ _ => pts_nil) (fun _ _ _ _ _ => (pe_tup (pa_cons (pv 3) (pa_cons (pe_callTy (show CallR _ _ (rTupK K) from call_tuple_of) (by rfl) T.m_tuple (by decide +kernel) (pa_cons (pe_slice (show SlR _ (rSlL K) from sl_list) (pv 2) (po_some (pv 4)) (po_some (pe_op op_add (pv 4) pe_int))) pa_nil)) pa_nil))))))))) (pss_one (ps_ret (pe_ix ix_list (pv 2) pe_int (fun _ _ => rfl)))))), ?_⟩
    refine ⟨sl2, fun p np => ?_⟩
    have op := D.off np
    have s1 := same_upd (o := (HO.lst [V.int 32, V.int 64])) np
    have h1 : upd H p (HO.lst [V.int 32, V.int 64]) p = some (HO.lst [V.int 32, V.int 64]) := upd_same
    generalize upd H p (HO.lst [V.int 32, V.int 64]) = H1 at s1 h1 ⊢
    refine ⟨.ref d, rfl, d, l, 2, _, rfl, D.same s1, by omega, by decide, by decide, fun H2 x D2 fr2 x0 x1 => ?_⟩
    obtain ⟨c, hc, c36⟩ := two_at x0 x1
    refine ⟨p, _, x, .int (c : Nat), rfl, rfl, SqL.of (fr2 _ _ op.1 op.2 h1), hc, c, rfl, by omega, by omega, fun W nW => ?_⟩
    have oW := D2.off nW
    have fr02 := (Fr.of s1).trans fr2
    have nW0 : H W = none := none_of_frC fr02 D2 nW
    refine lc_range (lo := 0) (n := (c : Int).toNat) (fun j H' => DeckC H' d l (n + 1 + j) ∧ Fr d l H H' ∧ ∃ vs fs, H' W = some (.lst vs) ∧ TkAll H' vs (fs.map Fm.d) ∧ fs.length = j ∧ Fm.oks m fs = true ∧ Fm.cnts fs = j ∧ Fm.deps fs ≤ 1)
      ⟨(D2.same (same_upd nW)).mono (by omega), fr02.trans (Fr.new nW), [], [], upd_same, .nil, rfl, rfl, rfl, Nat.zero_le _⟩ ?_ ?_
    · rintro j H3 hj ⟨D3, fr3, vs, fs, hW, tv, lf, okf, cf, df⟩
      have hj' : j < c := by omega
      refine ⟨rfl, .ref d, rfl, .int (m : Nat), rfl, d, l, (m : Nat), _, rfl, D3, by omega, by omega, by omega, fun H4 i D4 fr4 i0 i1 => ?_⟩
      obtain ⟨i, rfl⟩ := Int.eq_ofNat_of_zero_le i0
      have hW4 := fr4 _ _ oW.1 oW.2 hW
      refine ⟨sl2, fun p1 np1 => ?_⟩
      have s5 := same_upd (o := (HO.tup [V.str (Str.ofString "in"), V.int (i : Nat)])) np1
      have h5 : upd H4 p1 (HO.tup [V.str (Str.ofString "in"), V.int (i : Nat)]) p1 = some (HO.tup [V.str (Str.ofString "in"), V.int (i : Nat)]) := upd_same
      generalize upd H4 p1 (HO.tup [V.str (Str.ofString "in"), V.int (i : Nat)]) = H5 at s5 h5 ⊢
      have hW5 := s5 _ _ hW4
      have ts := Ts.set (ys := vs ++ [V.ref p1]) hW5
      have lv : vs.length = j := by rw [tv.length, List.length_map, lf]
      refine ⟨vs, hW5, Nat.lt_of_lt_of_le (show vs.length < 64 by omega) (by decide), ((D4.same s5).upd oW.1 oW.2).mono (by push_cast; omega), Fr.upd (fr3.trans (fr4.trans (Fr.of s5))) nW0, vs ++ [.ref p1], fs ++ [.inp i], upd_same, ?_, by rw [List.length_append, lf]; rfl, ?_, by rw [Fm.cnts_app, cf]; rfl, Fm.deps_le fun g hg => ?_⟩
      · rw [List.map_append]
        exact (((tv.ts (Ts.frC D3 fr4) (by rw [← Fm.dl_map]; exact Fm.noLl fs)).same s5).ts ts (by rw [← Fm.dl_map]; exact Fm.noLl fs)).append (.cons (.tup (ts _ _ h5) (.cons (.str _) (.cons (.int _) .nil))) .nil)
      · exact Fm.oks_mem.mpr fun g hg => by
          rcases List.mem_append.mp hg with z | z
          · exact Fm.oks_mem.mp okf g z
          · rw [List.mem_singleton.mp z]; exact decide_eq_true (by omega)
      · rcases List.mem_append.mp hg with z | z
        · exact Nat.le_trans (Fm.deps_mem z) df
        · rw [List.mem_singleton.mp z]; exact Nat.le_refl _
    rintro H3 ⟨D3, fr3, vs, fs, hW, tv, lf, okf, cf, df⟩
    have ec : (c : Int).toNat = c := by omega
    rw [ec] at lf cf D3
    have wd0 : Wd54 c (Fm.deps fs) := .inl ⟨by omega, df⟩
    refine ⟨fun N σ H' => ∃ W y3 vs fs, σ = [some (.ref d), some (.int (m : Nat)), some (.ref W), y3, none] ∧ DeckC H' d l (n + 65 + (64 - (N : Int))) ∧ Fr d l H H' ∧ (W ≠ d ∧ W ≠ l) ∧ H' W = some (.lst vs) ∧ TkAll H' vs (fs.map Fm.d) ∧ fs.length = N ∧ 1 ≤ N ∧ Fm.oks m fs = true ∧ Fm.cnts fs + N ≤ 128 ∧ Wd54 N (Fm.deps fs), ⟨c, W, _, vs, fs, rfl, D3.mono (by omega), fr3, oW, hW, tv, lf, by omega, okf, by omega, wd0⟩, ?_⟩
    rintro N σ H4 ⟨W, y3, vs, fs, rfl, D4, fr4, oW, hW4, tv4, lf4, N1, okf4, cf4, wd4⟩
    have lv : vs.length = N := by rw [tv4.length, List.length_map, lf4]
    have N64 : N ≤ 64 := by
      rcases wd4 with ⟨h | h, _⟩ | ⟨h | h, _⟩ | ⟨h | h, _⟩ | ⟨h, _⟩ <;> omega
    refine ⟨.ref W, rfl, W, _, rfl, .inl (SqL.of hW4), _, _, rfl, rfl, _, rfl, ?_⟩
    rw [lv]
    by_cases big : 1 < N
    · rw [decide_eq_true (show ((N : Nat) : Int) > 1 by omega)]
      obtain ⟨n', rg, wdn, h4, h4', h2, hn1, hj2⟩ := wd_next wd4 big
      refine iteT ⟨fun σ' H' => ∃ m', m' < N ∧ ∃ W y3 vs fs, σ' = [some (.ref d), some (.int (m : Nat)), some (.ref W), y3, none] ∧ DeckC H' d l (n + 65 + (64 - (m' : Int))) ∧ Fr d l H H' ∧ (W ≠ d ∧ W ≠ l) ∧ H' W = some (.lst vs) ∧ TkAll H' vs (fs.map Fm.d) ∧ fs.length = m' ∧ 1 ≤ m' ∧ Fm.oks m fs = true ∧ Fm.cnts fs + m' ≤ 128 ∧ Wd54 m' (Fm.deps fs), fun σ' H' h => h, ?_⟩
      refine ⟨sl2, fun p np => ?_⟩
      have op := D4.off np
      have s5 := same_upd (o := (HO.lst [V.str (Str.ofString "and"), V.str (Str.ofString "or")])) np
      have h5 : upd H4 p (HO.lst [V.str (Str.ofString "and"), V.str (Str.ofString "or")]) p = some (HO.lst [V.str (Str.ofString "and"), V.str (Str.ofString "or")]) := upd_same
      generalize upd H4 p (HO.lst [V.str (Str.ofString "and"), V.str (Str.ofString "or")]) = H5 at s5 h5 ⊢
      refine ⟨.ref d, rfl, d, l, 2, _, rfl, D4.same s5, by omega, by decide, by decide, fun H6 x D6 fr6 x0 x1 => ?_⟩
      obtain ⟨cw, hcw⟩ := op_at x0 x1
      refine ⟨p, _, x, .str (wOp cw), rfl, rfl, SqL.of (fr6 _ _ op.1 op.2 h5), hcw, ?_⟩
      have hW6 := fr6 _ _ oW.1 oW.2 (s5 _ _ hW4)
      have tv6 := (tv4.same s5).ts (Ts.frC (D4.same s5) fr6) (by rw [← Fm.dl_map]; exact Fm.noLl fs)
      have fr06 := (fr4.trans (Fr.of s5)).trans fr6
      refine ⟨.ref W, rfl, W, _, rfl, .inl (SqL.of hW6), 0, (N : Int), 4, n', (by rw [lv]), rg, fun Z nZ => ?_⟩
      have nZ0 : H Z = none := none_of_frC fr06 D6 nZ
      have oZ := D6.off nZ
      refine lc_rangeC (lo := 0) (c := 4) (n := n') (fun j H' => Same H6 (hd1 Z H') ∧ ∃ us, H' Z = some (.lst us) ∧ TkAll H' us (((List.range j).map (chunk cw fs)).map Fm.d))
        ⟨hd1_of (same_upd nZ) nZ, [], upd_same, .nil⟩ ?_ ?_
      · rintro j H7 hj ⟨s7, us, hZ7, tu7⟩
        have k7 : Same H6 H7 := fun b o e => hd1_le _ _ (s7 b o e)
        have e4 : (0 : Int) + (j : Int) * 4 = ((4 * j : Nat) : Int) := by push_cast; omega
        rw [e4]
        have hW7 := k7 _ _ hW6
        have lj : 4 * j + 2 ≤ N := hj2 j hj
        refine ⟨rfl, .str (wOp cw), rfl, .ref W, rfl, .int ((4 * j : Nat) : Int), rfl, _, rfl, .int ((4 * j : Nat) : Int), rfl, _, _, rfl, rfl, _, rfl, W, vs, rfl, SqL.of hW7, fun q1 nq1 => ?_⟩
        have ec : cutV vs (some ((4 * j : Nat) : Int)) (some (((4 * j : Nat) : Int) + 4)) = (vs.drop (4 * j)).take 4 := by
          have := cut_mid (xs := vs) (a := 4 * j) (b := 4) (by omega)
          rw [← this]
          congr 2
        rw [ec]
        have s8 := same_upd (o := (HO.lst ((vs.drop (4 * j)).take 4))) nq1
        have h8 : upd H7 q1 (HO.lst ((vs.drop (4 * j)).take 4)) q1 = some (HO.lst ((vs.drop (4 * j)).take 4)) := upd_same
        generalize upd H7 q1 (HO.lst ((vs.drop (4 * j)).take 4)) = H8 at s8 h8 ⊢
        refine ⟨q1, _, rfl, .inl ⟨SqL.of h8, fun q2 nq2 => ?_⟩⟩
        have s9 := same_upd (o := (HO.tup ((vs.drop (4 * j)).take 4))) nq2
        have h9 : upd H8 q2 (HO.tup ((vs.drop (4 * j)).take 4)) q2 = some (HO.tup ((vs.drop (4 * j)).take 4)) := upd_same
        generalize upd H8 q2 (HO.tup ((vs.drop (4 * j)).take 4)) = H9 at s9 h9 ⊢
        refine ⟨sl2, fun q3 nq3 => ?_⟩
        have s10 := same_upd (o := (HO.tup [V.str (wOp cw), V.ref q2])) nq3
        have h10 : upd H9 q3 (HO.tup [V.str (wOp cw), V.ref q2]) q3 = some (HO.tup [V.str (wOp cw), V.ref q2]) := upd_same
        generalize upd H9 q3 (HO.tup [V.str (wOp cw), V.ref q2]) = H10 at s10 h10 ⊢
        have sA := (s8.trans s9).trans s10
        have hZ10 := sA _ _ hZ7
        have ts := Ts.set (ys := us ++ [V.ref q3]) hZ10
        have lus : us.length = j := by rw [tu7.length, List.length_map, List.length_map, List.length_range]
        refine ⟨us, hZ10, Nat.lt_of_lt_of_le (show us.length < 64 by omega) (by decide), (s7.trans (hd1_same sA)).trans hd1_upd, us ++ [.ref q3], upd_same, ?_⟩
        have tch : TkAll H10 ((vs.drop (4 * j)).take 4) (((fs.drop (4 * j)).take 4).map Fm.d) := by
          have := ((tv6.same (k7.trans sA)).drop (4 * j)).take 4
          rw [← List.map_drop, ← List.map_take] at this
          exact this
        rw [List.range_succ, List.map_append, List.map_append]
        refine ((tu7.same sA).ts ts (by rw [← Fm.dl_map]; exact Fm.noLl _)).append (.cons ?_ .nil)
        exact (Tk.tup h10 (.cons (.str _) (.cons (.tup (s10 _ _ h9) (by rw [Fm.dl_map]; exact tch)) .nil))).ts ts (Fm.noL (chunk cw fs j))
      · rintro H7 ⟨s7, us, hZ7, tu7⟩
        have k7 : Same H6 H7 := fun b o e => hd1_le _ _ (s7 b o e)
        have cc := chunk_cnt cw fs n'
        have full : fs.take (4 * n') = fs := List.take_of_length_le (by omega)
        rw [full] at cc
        have ln : ((List.range n').map (chunk cw fs)).length = n' := by rw [List.length_map, List.length_range]
        refine ⟨n', by omega, Z, _, us, (List.range n').map (chunk cw fs), rfl, (D6.same k7).mono (by omega), fr06.trans (Fr.of k7), oZ, hZ7, tu7, ln, hn1, ?_, by omega, ?_⟩
        · refine Fm.oks_mem.mpr fun g hg => ?_
          obtain ⟨j, hj, rfl⟩ := List.mem_map.mp hg
          have hj := List.mem_range.mp hj
          have lj := hj2 j hj
          show ((decide (2 ≤ ((fs.drop (4 * j)).take 4).length) && decide (((fs.drop (4 * j)).take 4).length ≤ 4)) && Fm.oks m ((fs.drop (4 * j)).take 4)) = true
          rw [List.length_take, List.length_drop, decide_eq_true (by omega), decide_eq_true (by omega)]
          refine Fm.oks_mem.mpr fun f hf => Fm.oks_mem.mp okf4 f (List.mem_of_mem_drop (List.mem_of_mem_take hf))
        · have dd : Fm.deps ((List.range n').map (chunk cw fs)) ≤ Fm.deps fs + 1 := Fm.deps_le fun g hg => by
            obtain ⟨j, hj, rfl⟩ := List.mem_map.mp hg
            exact Nat.succ_le_succ (Fm.deps_le fun f hf => Fm.deps_mem (List.mem_of_mem_drop (List.mem_of_mem_take hf)))
          rcases wdn with ⟨h, k⟩ | ⟨h, k⟩ | ⟨h, k⟩ | ⟨h, k⟩
          · exact .inl ⟨h, Nat.le_trans dd k⟩
          · exact .inr (.inl ⟨h, Nat.le_trans dd k⟩)
          · exact .inr (.inr (.inl ⟨h, Nat.le_trans dd k⟩))
          · exact .inr (.inr (.inr ⟨h, Nat.le_trans dd k⟩))
    · rw [decide_eq_false (show ¬ ((N : Nat) : Int) > 1 by omega)]
      refine iteF ?_
      have N1' : N = 1 := by omega
      subst N1'
      match fs, lf4, tv4, okf4, cf4, wd4 with
      | [f], _, tv4, okf4, cf4, wd4 =>
        match vs, tv4 with
        | [v], .cons tf .nil =>
          refine ⟨.ref W, rfl, W, _, 0, v, rfl, rfl, SqL.of hW4, rfl, q v H4 (D4.mono (by omega)) fr4 ⟨f, tf, Fm.oks_mem.mp okf4 f List.mem_cons_self, by have : f.cnt + 0 + 1 ≤ 128 := cf4; omega, ?_⟩⟩
          have e4 : Fm.deps [f] ≤ 4 := by
            rcases wd4 with ⟨h | h, k⟩ | ⟨h | h, k⟩ | ⟨h | h, k⟩ | ⟨h, k⟩ <;> first | omega | exact k
          exact Nat.le_trans (Fm.deps_mem List.mem_cons_self) e4

end
end Gk

set_option Elab.async false
set_option linter.all false
set_option maxRecDepth 100000
set_option maxHeartbeats 1000000
set_option pp.maxSteps 1500
set_option pp.deepTerms false
namespace Gk
open PySem PySem.Spec PyProof.Rows L2
/-! ### l != [] of any list -/
namespace NeL
section
open PySem.W PySem.Calls HT
variable {X : Cx}
def rNeN (K : PySem.W.Frag) : R2 := fun x y H Q => ∃ a b xs, x = .ref a ∧ y = .ref b ∧ SqL K H a xs ∧ SqL K H b [] ∧ Q (.bl (!xs.isEmpty)) H
theorem op_neN (hu : X.A.units + 64 < cLine) : OpR X (compareOp .NotEq) (rNeN X.K) := by
  intro pins s σ H x y v u Q I rx ry h
  obtain ⟨a, b, xs, rfl, rfl, ha, hb, q⟩ := h
  cases rx
  cases ry
  obtain ⟨us, r1, t1, _⟩ := I.list ha
  obtain ⟨ws, r2, t2, _⟩ := I.list hb
  cases r2
  cases r1 with
  | nil => exact SeqAt.RcNeAt.lists (e := fun _ => true) t1.isList t2.isList rfl (by omega) (fun j h1 _ => absurd h1 (Nat.not_lt_zero _)) _ _ _ _ ⟨.bl false, H, I, rfl, q⟩
  | cons _ _ => exact SeqAt.RcNeAt.lists_lengths t1.isList t2.isList (by simp) (by omega) _ _ _ _ ⟨.bl true, H, I, rfl, q⟩
def rEqN (K : PySem.W.Frag) : R2 := fun x y H Q => ∃ a b xs, x = .ref a ∧ y = .ref b ∧ SqL K H a xs ∧ SqL K H b [] ∧ Q (.bl xs.isEmpty) H
theorem op_eqN (hu : X.A.units + 64 < cLine) : OpR X (compareOp .Eq) (rEqN X.K) := by
  intro pins s σ H x y v u Q I rx ry h
  obtain ⟨a, b, xs, rfl, rfl, ha, hb, q⟩ := h
  cases rx
  cases ry
  obtain ⟨us, r1, t1, _⟩ := I.list ha
  obtain ⟨ws, r2, t2, _⟩ := I.list hb
  cases r2
  cases r1 with
  | nil => exact SeqAt.RcAt.lists (e := fun _ => true) t1.isList t2.isList rfl (by omega) (fun j h1 _ => absurd h1 (Nat.not_lt_zero _)) _ _ _ _ ⟨.bl true, H, I, rfl, q⟩
  | cons _ _ => exact SeqAt.RcAt.lists_lengths t1.isList t2.isList (by simp) (by omega) _ _ _ _ ⟨.bl false, H, I, rfl, q⟩
end
end NeL

/-! ### i not in r -/
theorem op_notIn_rng {X : Cx} : OpR X (compareOp .NotIn) (fun x y H Q => ∃ i a lo hi, x = V.int i ∧ y = V.ref a ∧ H a = some (.rng lo hi) ∧ Q (.bl (!decide (lo ≤ i ∧ i < hi))) H) := by
  intro pins s σ H x y v u Q I rx ry h
  obtain ⟨i, a, lo, hi, rfl, rfl, ha, q⟩ := h
  obtain ⟨k, rfl⟩ := rx
  obtain rfl : u = Value.ref a := ry
  obtain ⟨t1, t2, t3, ho⟩ := I.hok a _ ha
  show wpAny _ _ (do return Value.bool (!(← contains (Value.ref a) (Value.int i k)))) _ _ s
  refine wpAny_bind (wpAny_contains_slot (T := "range") ⟨_, ho, rfl⟩ F.slot_range_contains (call_meets F.slot_range_contains ⟨_, ho, rfl⟩ F.entry_range_contains (F.args_range_contains_2 _ _) (q_contains a lo hi i t1 t2 t3 k)
    ⟨ho, wpAny_truthy_bool (wpAny_pure ⟨.bl _, H, I, rfl, ?_⟩)⟩))
  rw [place1]
  exact q

section
variable {P : Program} {w : World} {K : PySem.W.Frag} {mg : Str → Option Value} {base : Heap}
/-! ### the law's own judge -/
theorem at_0 (v : V) (r : List V) : atI (v :: r) 0 = some v := atI_nat (j := 0) (xs := v :: r) rfl
theorem at_1 (u v : V) (r : List V) : atI (u :: v :: r) 1 = some v := atI_nat (j := 1) (xs := u :: v :: r) rfl
theorem in234 (n : Nat) : inV (.int (n : Int)) [V.int 2, V.int 3, V.int 4] = (decide (2 ≤ n) && decide (n ≤ 4)) := by
  have h : ∀ j : Int, eqV (.int j) (.int (n : Int)) = decide (j = n) := fun j => by
    first
      | rfl
      | simp [eqV]
  show (eqV (.int 2) (.int n) || (eqV (.int 3) (.int n) || (eqV (.int 4) (.int n) || false))) = _
  rw [h, h, h, Bool.or_false, Bool.eq_iff_iff]
  simp only [Bool.or_eq_true, Bool.and_eq_true, decide_eq_true_eq]
  omega
theorem any_still (h : PyData) : ([wOne, wNou].any fun z => sB z h) = stillD h := by
  show (sB wOne h || (sB wNou h || false)) = _
  rw [Bool.or_false]
  rfl
theorem out_odd {m : Int} {x : PyData} : ∀ {r : List PyData}, isStrD x = false → outD m (.tuple (x :: r)) = false
  | [], h => by
    show stillD x = false
    cases x <;> first | rfl | cases h
  | [y], h => by
    show outP m x y = false
    unfold outP
    cases x <;> first | rfl | cases h
  | _ :: _ :: _, _ => rfl
theorem still_not {x : PyData} (h : stillD x = true) : sB wIn x = false ∧ sB wNot x = false ∧ (sB wAnd x || sB wOr x) = false := by
  cases x with
  | str z =>
    have h : (decide (z = wOne) || decide (z = wNou)) = true := h
    have : z = wOne ∨ z = wNou := by
      rw [Bool.or_eq_true] at h
      rcases h with k | k
      · exact .inl (of_decide_eq_true k)
      · exact .inr (of_decide_eq_true k)
    rcases this with rfl | rfl <;> decide +kernel
  | _ => cases h
theorem out_still {m : Int} {x : PyData} (h : ¬ stillD x = true) : outD m (.tuple [x]) = false := by
  show stillD x = false
  cases e : stillD x
  · rfl
  · exact absurd e h
def sp_l_is_form (K : PySem.W.Frag) : Sp := fun vs H Q _ => ∃ (m : Int) (v : V) (d : PyData), vs = [.int m, v] ∧ Sh H v d ∧ d.weight ≤ 50000 ∧ ∀ H', Same H H' → Q (.bl (isF m d)) H'
theorem ok_l_is_form (T : Tx w K mg) : FnOk P w K mg base CX0 2 T.f_l_is_form T.fd_l_is_form ["_law_many", "_law_thing"] (sp_l_is_form K) := by
  refine T.F_l_is_form.ok sc_l_is_form (fun vs H Q E h => ?_) (fun cdv A outer s H vs Q E hr h => ?_)
  · obtain ⟨m, v, d, rfl, _⟩ := h
    rfl
  · obtain ⟨m, v, d, rfl, sh, wt, q⟩ := h
    refine ⟨_, (pss_cons (ps_set (i := 2) sc_l_is_form.nd rfl (by first | exact .inl rfl | exact .inr rfl) (pe_lst (pa_cons (pv 1) pa_nil))) (pss_cons (ps_while PassesOwn.never (pt_cmpR (NeL.op_neN hr.units) (pv 2) (pe_lst pa_nil) (nomark _)) (pss_cons (ps_set (i := 3) sc_l_is_form.nd rfl (by first | exact .inl rfl | exact .inr rfl) (pe_bm0 PySem.F.plainAttrs_list PySem.F.slot_list_pop PySem.F.type_list_pop mt_pop (pv 2))) (pss_cons (ps_if (pw_or (pt_not (pt_val (pe_callB call_isi (by rfl) T.m_isinstance (by decide +kernel) (pa_cons (pv 3) (pa_cons (pe_bltn (v := .ty "tuple") (u := .type "tuple") (by rfl) T.m_tuple (by decide +kernel) rfl) pa_nil))))) (pw_or (pt_cmpR (TupRev.op_eqE hr.units) (pv 3) (pe_tup pa_nil) (nomark _)) (pw_or1 (pt_not (pt_val (pe_callB call_isi (by rfl) T.m_isinstance (by decide +kernel) (pa_cons (pe_ix ix_tup (pv 3) pe_int (fun _ _ => rfl)) (pa_cons (pe_bltn (v := .ty "str") (u := .type "str") (by rfl) T.m_str (by decide +kernel) rfl) pa_nil)))))))).pt (pss_one (ps_ret pe_bl)) pss_nil) (pss_cons (ps_if (pt_cut (pw_and (pt_cmpR (EqS.op_inS (EqS.u1 hr.units)) (pe_ix ix_tup (pv 3) pe_int (fun _ _ => rfl)) (pe_tup (pa_cons pe_str (pa_cons pe_str pa_nil))) rfl) (pw_and1 (pt_cmpR op_eq (pe_callB call_len_seq (by rfl) T.m_len PySem.boot_len (pa_cons (pv 3) pa_nil)) pe_int (nomark _)))).pt) (pss_one ps_continue) pss_nil) (pss_cons (ps_if (pt_cmpR op_ne (pe_callB call_len_seq (by rfl) T.m_len PySem.boot_len (pa_cons (pv 3) pa_nil)) pe_int (nomark _)) (pss_one (ps_ret pe_bl)) pss_nil) (pss_one (ps_if (pt_cmpR (EqS.op_eqS (EqS.u0 hr.units)) (pe_ix ix_tup (pv 3) pe_int (fun _ _ => rfl)) pe_str (nomark _)) (pss_one (ps_if (pw_or (pt_not (pt_val (pe_call (ok_whole T) (hr.mono (by decide)) (by rfl) T.g_whole T.F_whole.kp T.b_whole .nil pass0 (pa_cons (pe_ix ix_tup (pv 3) pe_int (fun _ _ => rfl)) pa_nil)))) (pw_or1 (pt_cmpR op_notIn_rng (pe_ix ix_tup (pv 3) pe_int (fun _ _ => rfl)) (pe_callTy RngV.cr_range1 (by rfl) T.m_range (by decide +kernel) (pa_cons (pv 0) pa_nil)) rfl))).pt (pss_one (ps_ret pe_bl)) pss_nil)) (pss_one (ps_if (pt_cmpR (EqS.op_eqS (EqS.u0 hr.units)) (pe_ix ix_tup (pv 3) pe_int (fun _ _ => rfl)) pe_str (nomark _)) (pss_one (ps_expr (pe_bm PySem.F.plainAttrs_list PySem.F.slot_list_append PySem.F.type_list_append mt_append (pv 2) (pa_cons (pe_ix ix_tup (pv 3) pe_int (fun _ _ => rfl)) pa_nil)))) (pss_one (ps_if (pw_and (pt_cmpR (EqS.op_inS (EqS.u1 hr.units)) (pe_ix ix_tup (pv 3) pe_int (fun _ _ => rfl)) (pe_tup (pa_cons pe_str (pa_cons pe_str pa_nil))) rfl) (pw_and (pt_val (pe_callB call_isi (by rfl) T.m_isinstance (by decide +kernel) (pa_cons (pe_ix ix_tup (pv 3) pe_int (fun _ _ => rfl)) (pa_cons (pe_bltn (v := .ty "tuple") (u := .type "tuple") (by rfl) T.m_tuple (by decide +kernel) rfl) pa_nil)))) (pw_and1 (pt_cmpR op_in_seq (pe_callB call_len_seq (by rfl) T.m_len PySem.boot_len (pa_cons (pe_ix ix_tup (pv 3) pe_int (fun _ _ => rfl)) pa_nil)) (pe_tup (pa_cons pe_int (pa_cons pe_int (pa_cons pe_int pa_nil)))) rfl)))).pt (pss_one (ps_expr (pe_bm PySem.F.plainAttrs_list PySem.F.slot_list_extend PySem.F.type_list_extend mt_extend (pv 2) (pa_cons (pe_callTy NumZ.call_listN (by rfl) T.m_list (by decide +kernel) (pa_cons (pe_ix ix_tup (pv 3) pe_int (fun _ _ => rfl)) pa_nil)) pa_nil)))) (pss_one (ps_ret pe_bl))))))))))))) (pss_one (ps_ret pe_bl)))), ?_⟩
    refine ⟨v, rfl, sl1, fun L nL => ?_⟩
    have s1 := same_upd (o := (HO.lst [v])) nL
    have hL : upd H L (HO.lst [v]) L = some (HO.lst [v]) := upd_same
    generalize upd H L (HO.lst [v]) = H1 at s1 hL ⊢
    have nin : ∀ {b o}, H b = some o → b ∉ [L] := fun e z => by
      rw [List.mem_singleton.mp z, nL] at e
      cases e
    have k1 : ∀ {H' : Hp}, Same H H' → Same H (hid [L] H') := fun s b o e => by
      rw [hid_at (nin e)]
      exact s b o e
    refine ⟨fun n σ H' => ∃ y vs ds, σ = [some (.int m), some v, some (.ref L), y] ∧ Same H (hid [L] H') ∧ H' L = some (.lst vs) ∧ ShAll (hid [L] H') vs ds ∧ PyData.weightAll ds = n ∧ n ≤ 50001 ∧ isF m d = ds.all (isF m), ⟨_, _, [v], [d], rfl, k1 s1, hL, .cons (sh.same (k1 s1)) .nil, rfl, by show d.weight + 1 + 0 ≤ _; omega, by rw [List.all_cons, List.all_nil, Bool.and_true]⟩, ?_⟩
    rintro n σ H2 ⟨y, vs, ds, rfl, s2, hL2, t2, wn, nl, ev⟩
    have lvs := t2.length
    refine ⟨.ref L, rfl, Nat.zero_le _, fun p0 n0 => ⟨L, p0, vs, rfl, rfl, SqL.of (same_upd n0 _ _ hL2), SqL.of upd_same, _, rfl, ?_⟩⟩
    have s0 := same_upd (o := HO.lst []) n0
    generalize hh2 : upd H2 p0 _ = H3
    replace s0 : Same H2 H3 := by rw [← hh2]; exact s0
    clear hh2
    have hL3 := s0 _ _ hL2
    have s3 := s2.trans (hid_same s0)
    have t3 := t2.same (hid_same s0)
    by_cases em : vs = []
    · subst em
      have : ds = [] := List.eq_nil_of_length_eq_zero lvs.symm
      subst this
      refine iteF ?_
      have q := q H3 (fun b o e => hid_le _ _ (s3 b o e))
      rw [ev] at q
      exact q
    obtain ⟨ws, u, rfl⟩ : ∃ ws u, vs = ws ++ [u] := ⟨vs.dropLast, vs.getLast em, (List.dropLast_concat_getLast em).symm⟩
    have ne : (!(ws ++ [u]).isEmpty) = true := by cases ws <;> rfl
    rw [ne]
    obtain ⟨es, e, rfl, te, tu⟩ : ∃ es e, ds = es ++ [e] ∧ ShAll (hid [L] H3) ws es ∧ Sh (hid [L] H3) u e := by
      have hd : ds ≠ [] := fun z => by rw [z] at lvs; simp at lvs
      refine ⟨ds.dropLast, ds.getLast hd, (List.dropLast_concat_getLast hd).symm, ?_, ?_⟩
      · have := t3.take ws.length
        rw [List.take_left'  rfl] at this
        have l2 : ws.length = ds.length - 1 := by rw [← lvs, List.length_append]; rfl
        rw [l2, ← List.dropLast_eq_take] at this
        exact this
      · obtain ⟨e, he, te⟩ := t3.get (show (ws ++ [u])[ws.length]? = some u by rw [List.getElem?_append_right (Nat.le_refl _), Nat.sub_self]; rfl)
        have l2 : ws.length = ds.length - 1 := by rw [← lvs, List.length_append]; rfl
        rw [l2, ← List.getLast?_eq_getElem?, List.getLast?_eq_some_getLast hd] at he
        rw [Option.some.inj he]
        exact te
    rw [weight_app] at wn
    have wn : PyData.weightAll es + (e.weight + 1 + 0) = n := wn
    refine iteT ⟨fun σ' H' => ∃ m', m' < n ∧ ∃ y vs ds, σ' = [some (.int m), some v, some (.ref L), y] ∧ Same H (hid [L] H') ∧ H' L = some (.lst vs) ∧ ShAll (hid [L] H') vs ds ∧ PyData.weightAll ds = m' ∧ m' ≤ 50001 ∧ isF m d = ds.all (isF m), fun σ' H' h => h, ?_⟩
    refine ⟨.ref L, rfl, .inl ⟨rfl, _, SqL.of hL3⟩, L, ws ++ [u], u, rfl, rfl, hL3, by rw [List.length_append]; show (ws ++ [u])[ws.length + 1 - 1]? = _; rw [Nat.add_sub_cancel, List.getElem?_append_right (Nat.le_refl _), Nat.sub_self]; rfl, ?_⟩
    rw [List.dropLast_concat]
    have h4 := hid_upd (as := [L]) (H := H3) (o := .lst ws) (List.mem_singleton.mpr rfl)
    have hL4 : upd H3 L (.lst ws) L = some (.lst ws) := upd_same
    have no : outD m e = false → isF m d = false := fun z => by
      rw [ev, List.all_append, List.all_cons, isF_out z, Bool.false_and, Bool.and_false]
    have yes : outD m e = true → isF m d = (es ++ inD e).all (isF m) := fun z => by
      rw [ev, List.all_append, List.all_append, List.all_cons, List.all_nil, Bool.and_true, isF_in z]
    generalize upd H3 L (.lst ws) = H4 at h4 hL4 ⊢
    have s4 := s3.trans h4
    have te4 := te.same h4
    have tu4 := tu.same h4
    have lw := inD_weight e
    have lws := te.length
    have l1 := lenW es
    have l2 := lenW (inD e)
    have fin : ∀ H', Same H4 H' → outD m e = false → Q (.bl false) H' := fun H' s5 z => by
      have q := q H' (fun b o k => s5 _ _ (hid_le _ _ (s4 b o k)))
      rw [no z] at q
      exact q
    have go : ∀ (H' : Hp) (y : Option V) (xs : List V), Same (hid [L] H4) (hid [L] H') → H' L = some (.lst (ws ++ xs)) → ShAll (hid [L] H') xs (inD e) → outD m e = true → ∃ m', m' < n ∧ ∃ y' vs ds, [some (.int m), some v, some (.ref L), y] = [some (.int m), some v, some (.ref L), y'] ∧ Same H (hid [L] H') ∧ H' L = some (.lst vs) ∧ ShAll (hid [L] H') vs ds ∧ PyData.weightAll ds = m' ∧ m' ≤ 50001 ∧ isF m d = ds.all (isF m) := fun H' y xs s5 hL5 tx z =>
      ⟨PyData.weightAll (es ++ inD e), (by rw [weight_app]; omega), y, ws ++ xs, es ++ inD e, rfl, s4.trans s5, hL5, (te4.same s5).append tx, rfl, (by rw [weight_app]; omega), yes z⟩
    have sh4 : Sh H4 u e := tu4.same hid_le
    refine ⟨u, rfl, _, _, _, _, _, rfl, .ty _, sh4.ty, kit_ty (kitTup e), _, rfl, ite2 (fun nt => ?_) (fun it => ?_)⟩
    · exact iteT (fin H4 (Same.refl _) (out_not (fun z => by rw [z] at nt; cases nt)))
    obtain ⟨fs, rfl⟩ := tup_of (notF it)
    obtain ⟨a, xs, rfl, ha0, t⟩ : ∃ a xs, u = .ref a ∧ hid [L] H4 a = some (.tup xs) ∧ ShAll (hid [L] H4) xs fs := by
      cases tu4 with
      | @tup a xs _ ha t => exact ⟨a, xs, rfl, ha, t⟩
    have ha : H4 a = some (.tup xs) := hid_le _ _ ha0
    refine ⟨.ref a, rfl, Nat.zero_le _, fun p1 n1 => ⟨a, p1, xs, rfl, rfl, SqT.of (same_upd n1 _ _ ha), SqT.of upd_same, _, rfl, ?_⟩⟩
    have s5 := same_upd (o := HO.tup []) n1
    generalize hh5 : upd H4 p1 _ = H5
    replace s5 : Same H4 H5 := by rw [← hh5]; exact s5
    clear hh5
    have ha5 := s5 _ _ ha
    refine ite2 (fun em => ?_) (fun ne => ?_)
    · exact iteT (fin H5 s5 ((by have : xs = [] := by cases xs <;> first | rfl | cases em
                                 subst this
                                 cases t
                                 rfl)))
    have hL5 := s5 _ _ hL4
    have h5 : Same (hid [L] H4) (hid [L] H5) := hid_same s5
    have t5 := t.same h5
    have lxs := t.length
    match fs, t, t5, lxs, fin, go with
    | [], .nil, _, _, _, _ => exact absurd rfl ne
    | x0 :: fr, .cons (v := v0) (vs := xr) tx tr, .cons tx5 tr5, lxs, fin, go =>
      refine ⟨.ref a, rfl, a, _, 0, v0, rfl, rfl, SqT.of ha5, at_0 _ _, _, _, _, _, _, rfl, .ty _, (tx5.same hid_le).ty, kit_ty (kitStr x0), _, rfl, ite2 (fun ns => ?_) (fun st => ?_)⟩
      · have k : isStrD x0 = false := by
          cases k : isStrD x0
          · rfl
          · rw [k] at ns; cases ns
        exact fin H5 s5 (out_odd k)
      obtain ⟨z, rfl⟩ : ∃ z, x0 = .str z := by
        have st := notF st
        cases x0 <;> first | exact ⟨_, rfl⟩ | cases st
      refine ⟨fun b H' => Same H5 H' ∧ b = (stillD (.str z) && fr.isEmpty), ?_, ?_⟩
      · refine ⟨.ref a, rfl, a, _, 0, v0, rfl, rfl, SqT.of ha5, at_0 _ _, sl2, fun p np => ?_⟩
        have s6 := same_upd (o := HO.tup [V.str wOne, V.str wNou]) np
        refine ⟨.str z, p, [wOne, wNou], (tx5.same hid_le).same s6, rfl, upd_same, _, rfl, ?_⟩
        rw [any_still]
        refine ite2 (fun e => ?_) (fun e => ?_)
        · refine ⟨.ref a, rfl, a, _, rfl, .inr (SqT.of (s6 _ _ ha5)), rfl, _, rfl, s6, ?_⟩
          rw [e, Bool.true_and]
          cases fr with
          | nil => cases tr; rfl
          | cons y r =>
            cases tr with
            | cons _ rr =>
              refine decide_eq_false fun k => ?_
              have k := V.int.inj k
              simp only [List.length_cons] at k
              omega
        · exact ⟨s6, by rw [eq_false_of_ne_true e, Bool.false_and]⟩
      rintro b H6 ⟨s6, hb⟩
      have s46 := s5.trans s6
      have hL6 := s6 _ _ hL5
      have ha6 := s6 _ _ ha5
      have h6 := hid_same (as := [L]) s46
      cases b with
      | true =>
        have hb := hb.symm
        rw [Bool.and_eq_true] at hb
        have fr0 : fr = [] := by cases fr <;> first | rfl | cases hb.2
        subst fr0
        exact iteT (go H6 _ [] h6 (by rw [List.append_nil]; exact hL6) .nil hb.1)
      | false =>
        refine iteF ⟨.ref a, rfl, a, _, rfl, .inr (SqT.of ha6), rfl, _, rfl, ite2 (fun k2 => ?_) (fun k2 => ?_)⟩
        · refine fin H6 s46 ?_
          match fr, lxs, hb with
          | [], lxs, hb => 
            refine out_still fun k => ?_
            rw [k] at hb
            cases hb
          | [y], lxs, _ =>
            exfalso
            rw [lxs, decide_eq_true (show V.int (([PyData.str z, y].length : Nat) : Int) = V.int 2 from rfl)] at k2
            cases k2
          | _ :: _ :: _, _, _ => rfl
        have k2 : ((v0 :: xr).length : Int) = 2 := by
          by_cases k : ((v0 :: xr).length : Int) = 2
          · exact k
          · rw [decide_eq_false fun z => k (V.int.inj z)] at k2
            exact absurd rfl k2
        rw [lxs] at k2
        match fr, xr, tr, tr5, k2 with
        | [], _, _, _, l2 => exfalso; simp only [List.length_cons, List.length_nil] at l2; omega
        | _ :: _ :: _, _, _, _, l2 => exfalso; simp only [List.length_cons] at l2; omega
        | [r], _, .cons (v := v1) t1 .nil, _, _ =>
          have eo : outD m (.tuple [.str z, r]) = outP m (.str z) r := rfl
          have ei : inD (.tuple [.str z, r]) = inP (.str z) r := rfl
          unfold outP at eo
          unfold inP at ei
          have t0' : Sh H6 v0 (.str z) := (tx.same h6).same hid_le
          have t1' : Sh H6 v1 r := (t1.same h6).same hid_le
          refine ⟨.ref a, rfl, a, _, 0, v0, rfl, rfl, SqT.of ha6, at_0 _ _, .str z, wIn, t0', rfl, _, rfl, ite2 (fun e1 => ?_) (fun e1 => ?_)⟩
          · rw [if_pos e1] at eo
            refine ⟨.ref a, rfl, a, _, 1, v1, rfl, rfl, SqT.of ha6, at_1 _ _ _, v1, r, rfl, t1', _, rfl, ite2 (fun nw => ?_) (fun wh => ?_)⟩
            · refine iteT (fin H6 s46 ?_)
              rw [eo]
              cases r <;> first | rfl | cases nw
            obtain ⟨i, rfl⟩ := whole_int (notF wh)
            cases t1'
            refine ⟨.ref a, rfl, a, _, 1, .int i, rfl, rfl, SqT.of ha6, at_1 _ _ _, .int m, rfl, m, rfl, fun p1 np1 => ?_⟩
            have s7 := same_upd (o := HO.rng 0 m) np1
            refine ⟨i, p1, 0, m, rfl, rfl, upd_same, _, rfl, ite2 (fun k => ?_) (fun k => ?_)⟩
            · refine fin _ (s46.trans s7) ?_
              rw [eo]
              show (decide (0 ≤ i) && decide (i < m)) = false
              rw [← Bool.decide_and]
              cases z : decide (0 ≤ i ∧ i < m)
              · rfl
              · rw [z] at k; cases k
            · refine go _ _ [] (hid_same (s46.trans s7)) (by rw [List.append_nil]; exact s7 _ _ hL6) ?_ ?_
              · have ez : z = wIn := of_decide_eq_true e1
                subst ez
                rw [headsI.2.1, if_neg (by decide), headsI.2.2, if_neg (by decide)] at ei
                rw [ei]
                exact .nil
              · rw [eo]
                show (decide (0 ≤ i) && decide (i < m)) = true
                rw [← Bool.decide_and]
                exact notF k
          rw [if_neg e1] at eo
          refine ⟨.ref a, rfl, a, _, 0, v0, rfl, rfl, SqT.of ha6, at_0 _ _, .str z, wNot, t0', rfl, _, rfl, ite2 (fun e2 => ?_) (fun e2 => ?_)⟩
          · have ez : z = wNot := of_decide_eq_true e2
            subst ez
            rw [if_pos e2] at ei
            rw [headsN.2.2, if_neg (by decide), headsN.2.1] at eo
            refine ⟨.ref L, rfl, .inl ⟨rfl, _, SqL.of hL6⟩, .ref a, rfl, a, _, 1, v1, rfl, rfl, SqT.of ha6, at_1 _ _ _, L, ws, v1, rfl, rfl, hL6, Nat.lt_of_lt_of_le (show ws.length < 100000 by omega) (by decide), ?_⟩
            have h7 := hid_upd (as := [L]) (H := H6) (o := .lst (ws ++ [v1])) (List.mem_singleton.mpr rfl)
            refine go _ _ [v1] (h6.trans h7) upd_same ?_ eo
            rw [ei]
            exact .cons ((t1.same h6).same h7) .nil
          rw [if_neg e2] at ei
          refine ⟨.ref a, rfl, a, _, 0, v0, rfl, rfl, SqT.of ha6, at_0 _ _, sl2, fun p1 np1 => ?_⟩
          have s7 := same_upd (o := HO.tup [V.str wAnd, V.str wOr]) np1
          refine ⟨.str z, p1, [wAnd, wOr], t0'.same s7, rfl, upd_same, _, rfl, ?_⟩
          rw [any_and_or]
          refine ite2 (fun e3 => ?_) (fun e3 => ?_)
          · rw [if_pos e3] at eo ei
            generalize hh7 : upd H6 p1 _ = H7
            replace s7 : Same H6 H7 := by rw [← hh7]; exact s7
            clear hh7
            have ha7 := s7 _ _ ha6
            have hL7 := s7 _ _ hL6
            have h7 := h6.trans (hid_same (as := [L]) s7)
            refine ⟨.ref a, rfl, a, _, 1, v1, rfl, rfl, SqT.of ha7, at_1 _ _ _, _, _, _, _, _, rfl, .ty _, (t1'.same s7).ty, kit_ty (kitTup r), _, rfl, ite2 (fun e4 => ?_) (fun e4 => ?_)⟩
            · obtain ⟨ps, rfl⟩ := tup_of e4
              obtain ⟨b, ys, rfl, hb, tb⟩ : ∃ b ys, v1 = .ref b ∧ hid [L] H7 b = some (.tup ys) ∧ ShAll (hid [L] H7) ys ps := by
                cases t1.same h7 with
                | @tup b ys _ hb tb => exact ⟨b, ys, rfl, hb, tb⟩
              have hb7 : H7 b = some (.tup ys) := hid_le _ _ hb
              have ly := tb.length
              have lps := lenW ps
              refine ⟨.ref a, rfl, a, _, 1, .ref b, rfl, rfl, SqT.of ha7, at_1 _ _ _, b, ys, rfl, .inr (SqT.of hb7), sl3, fun p2 np2 => ?_⟩
              have s8 := same_upd (o := (HO.tup [V.int 2, V.int 3, V.int 4])) np2
              have h8 : upd H7 p2 (HO.tup [V.int 2, V.int 3, V.int 4]) p2 = some (HO.tup [V.int 2, V.int 3, V.int 4]) := upd_same
              generalize upd H7 p2 (HO.tup [V.int 2, V.int 3, V.int 4]) = H8 at s8 h8 ⊢
              refine ⟨p2, _, rfl, .inr (SqT.of h8), rfl, rfl, _, rfl, ?_⟩
              have e5 : restD (.tuple ps) = (decide (2 ≤ ys.length) && decide (ys.length ≤ 4)) := by rw [ly]; rfl
              have e6 : (if false = true then !inV (.int (ys.length : Int)) [V.int 2, V.int 3, V.int 4] else inV (.int (ys.length : Int)) [V.int 2, V.int 3, V.int 4]) = (decide (2 ≤ ys.length) && decide (ys.length ≤ 4)) := in234 _
              rw [e6]
              rw [e5] at eo
              refine ite2 (fun k => ?_) (fun k => ?_)
              · rw [k] at eo
                refine ⟨.ref L, rfl, .inl ⟨rfl, _, SqL.of (s8 _ _ hL7)⟩, .ref a, rfl, a, _, 1, .ref b, rfl, rfl, SqT.of (s8 _ _ ha7), at_1 _ _ _, b, ys, rfl, SqT.of (s8 _ _ hb7), fun p3 np3 _ => ?_⟩
                have s9 := same_upd (o := (HO.lst ys)) np3
                have h9 : upd H8 p3 (HO.lst ys) p3 = some (HO.lst ys) := upd_same
                generalize upd H8 p3 (HO.lst ys) = H9 at s9 h9 ⊢
                have s79 := s8.trans s9
                refine ⟨L, p3, ws, ys, rfl, rfl, s79 _ _ hL7, h9, Nat.le_trans (show ws.length + ys.length ≤ 200000 by rw [Bool.and_eq_true] at k; have := of_decide_eq_true k.2; omega) (by decide), ?_⟩
                have hA := hid_upd (as := [L]) (H := H9) (o := .lst (ws ++ ys)) (List.mem_singleton.mpr rfl)
                have hB := (hid_same (as := [L]) s79).trans hA
                refine go _ _ ys (h7.trans hB) upd_same ?_ eo
                rw [ei]
                exact tb.same hB
              · rw [eq_false_of_ne_true k] at eo
                exact fin _ ((s46.trans s7).trans s8) eo
            · refine fin _ (s46.trans s7) ?_
              rw [eo]
              cases r <;> first | rfl | exact absurd rfl e4
          · rw [if_neg e3] at eo
            refine fin _ (s46.trans s7) ?_
            rw [eo]
            exact eq_false_of_ne_true e2

end
end Gk

set_option Elab.async false
set_option linter.all false
set_option maxRecDepth 100000
set_option maxHeartbeats 1000000
set_option pp.maxSteps 1500
set_option pp.deepTerms false
namespace Gk
open PySem PySem.Spec PyProof.Rows L2
mutual
theorem Tk.sh {H : Hp} : ∀ {v : V} {d : PyData}, Tk H v d → noL d = true → Sh H v d
  | _, _, .bl b, _ => .bl b
  | _, _, .int i, _ => .int i
  | _, _, .str x, _ => .str x
  | _, _, .lst h t, n => by cases n
  | _, _, .tup h t, n => .tup h (t.sh n)
theorem TkAll.sh {H : Hp} : ∀ {vs : List V} {ds : List PyData}, TkAll H vs ds → noLs ds = true → ShAll H vs ds
  | _, _, .nil, _ => .nil
  | _, _, .cons (d := d) (ds := ds) h t, n => by
    have n' : noL d = true ∧ noLs ds = true := Bool.and_eq_true_iff.mp n
    exact .cons (h.sh n'.1) (t.sh n'.2)
end

mutual
theorem Tk.shH {as : List Addr} {H : Hp} {d l : Addr} {n : Int} (D : DA as H d l n) : ∀ {v : V} {dd : PyData}, Tk H v dd → noL dd = true → Sh (hid as H) v dd
  | _, _, .bl b, _ => .bl b
  | _, _, .int i, _ => .int i
  | _, _, .str x, _ => .str x
  | _, _, .lst h t, n => by cases n
  | _, _, .tup h t, n => sh_tup D h (t.shH D n)
theorem TkAll.shH {as : List Addr} {H : Hp} {d l : Addr} {n : Int} (D : DA as H d l n) : ∀ {vs : List V} {ds : List PyData}, TkAll H vs ds → noLs ds = true → ShAll (hid as H) vs ds
  | _, _, .nil, _ => .nil
  | _, _, .cons h t, n => .cons (h.shH D (Bool.and_eq_true_iff.mp n).1) (t.shH D (Bool.and_eq_true_iff.mp n).2)
end

section
variable {P : Program} {w : World} {K : PySem.W.Frag} {mg : Str → Option Value} {base : Heap}
/-! ### what is spoilt, of any depth -/
def sp_spoiltA (K : PySem.W.Frag) : Sp := fun vs H Q E => ∃ e ≤ 24, sp_spoilt K e vs H Q E
theorem ok_spoilt (T : Tx w K mg) : FnOk P w K mg base CX0 28 T.f_spoilt T.fd_spoilt ["_law_deck_here", "_law_thing", "_law_deep"] (sp_spoiltA K) :=
  ⟨fun vs H Q E ⟨e, _, h⟩ => (ok_spoiltE (P := P) (base := base) T e).len vs H Q E h, fun A outer s H args us vs Q E hr e0 hb r ⟨e, he, h⟩ => (ok_spoiltE (P := P) (base := base) T e).run A outer s H args us vs Q E (hr.mono (by omega)) e0 hb r h⟩
/-! ### is one thing told rightly -/
def sp_right (T : Tx w K mg) : Sp := fun vs H Q _ => ∃ (m : Int) (v : V) (d : PyData) (B N M : Nat), vs = [.int m, v] ∧ Sh H v d ∧ Fit B N M d ∧ B < 2 ^ 190 ∧ N ≤ 50000 ∧ M ≤ 50 ∧ ∀ H', Gr H H' → Q (.bl true) H'
theorem ok_right (T : Tx w K mg) : FnG P w K mg base CX0 4 T.f_right T.fd_right ["_law_many", "_law_thing"] (sp_right T) := by
  refine okG0 T.F_right sc_right (fun vs H Q E h => ?_) (fun cdv A outer s H vs Q E nothing hr h => ?_)
  · obtain ⟨m, v, d, B, N, M, rfl, _⟩ := h
    rfl
  · obtain ⟨m, v, d, B', N, M, rfl, sh, fit, hB, hN, hM, q⟩ := h
    refine ⟨_, (pss_cons (ps_set (i := 2) sc_right.nd rfl (by first | exact .inl rfl | exact .inr rfl) (pe_callB (call_repr nothing hr.units) (by rfl) T.m_repr (by decide +kernel) (pa_cons (pv 1) pa_nil))) (pss_cons (ps_set (i := 3) sc_right.nd rfl (by first | exact .inl rfl | exact .inr rfl) (pe_call (ok_is_form T) (hr.mono (by decide)) (by rfl) T.g_is_form T.F_is_form.kp T.b_is_form .nil pass0 (pa_cons (pv 0) (pa_cons (pv 1) pa_nil)))) (pss_one (ps_ret (pe_and (pe_callB call_isi (by rfl) T.m_isinstance (by decide +kernel) (pa_cons (pv 3) (pa_cons (pe_bltn (v := .ty "bool") (u := .type "bool") (by rfl) T.m_bool (by decide +kernel) rfl) pa_nil))) (pe_and (pe_cmpR op_eq (pv 3) (pe_call (ok_l_is_form T) (hr.mono (by decide)) (by rfl) T.g_l_is_form T.F_l_is_form.kp T.b_l_is_form .nil pass0 (pa_cons (pv 0) (pa_cons (pv 1) pa_nil))) (nomark _)) (pe_one (pe_cmpR op_eq (pe_callB (call_repr nothing hr.units) (by rfl) T.m_repr (by decide +kernel) (pa_cons (pv 1) pa_nil)) (pv 2) (nomark _))))))))), ?_⟩
    obtain ⟨f1, f2, f3⟩ := fit.fine hB hN hM
    have wt : d.weight ≤ 50000 := Nat.le_trans fit.2.1 hN
    refine ⟨v, rfl, v, d, rfl, sh, f1, f2, f3, .int m, rfl, v, rfl, m, v, d, rfl, sh, wt, fun H1 s1 => ?_⟩
    have sh1 := sh.same s1
    refine ⟨.bl (isF m d), rfl, _, _, _, _, _, rfl, .ty _, (Sh.bl (H := H1) (isF m d)).ty, kit_ty (kitBool (.bool (isF m d))), _, rfl, iteT ?_⟩
    refine ⟨.bl (isF m d), rfl, .int m, rfl, v, rfl, m, v, d, rfl, sh1, wt, fun H2 s2 => ⟨rfl, _, rfl, ?_⟩⟩
    rw [decide_eq_true rfl]
    refine iteT ?_
    refine ⟨v, rfl, v, d, rfl, sh1.same s2, f1, f2, f3, .str _, rfl, rfl, ?_⟩
    rw [decide_eq_true rfl]
    exact q H2 (Gr.of (s1.trans s2))

end
end Gk

set_option Elab.async false
set_option linter.all false
set_option maxRecDepth 100000
set_option maxHeartbeats 1000000
set_option pp.maxSteps 1500
set_option pp.deepTerms false
namespace Gk
open PySem PySem.Spec PyProof.Rows L2
section
variable {P : Program} {w : World} {K : PySem.W.Frag} {mg : Str → Option Value} {base : Heap}
/-! ### the law -/
theorem FmAt.fit {H : Hp} {m c e : Nat} {v : V} (h : FmAt H m c e v) (m6 : m ≤ 6) : ∃ f : Fm, Tk H v f.d ∧ isF m f.d = true ∧ Fit 100 (8 * c) (2 * e) f.d := by
  obtain ⟨f, t, ok, a, b⟩ := h
  obtain ⟨g1, g2, g3⟩ := Fm.fit m6 ok
  exact ⟨f, t, Fm.isF ok, g1, by omega, by omega⟩
theorem FmAt.gr {H H' : Hp} {m c e : Nat} {v : V} (h : FmAt H m c e v) (g : Gr H H') : FmAt H' m c e v := by
  obtain ⟨f, t, r⟩ := h
  exact ⟨f, t.gr g, r⟩
theorem isnot_bl (b : Bool) (h : b = true) : (!decide (V.bl b = V.bl true)) = false := by rw [h]; rfl
def sp_law (K : PySem.W.Frag) (Ps : List Addr) : Sp := fun vs H Q _ => ∃ (a : Addr) (ns : List Int), vs = [.ref a] ∧ SqL K H a (ns.map V.int) ∧ ns.length ≤ 63 ∧ (∀ p ∈ Ps, ∃ ps, H p = some (.tbl ps) ∧ True) ∧ ∀ H', Q (.bl true) H'
theorem ok_law (T : Tx w K mg) (B : Tb base T) : FnG P w K mg base CX0 30 T.f_law T.fd_law ["_law_script"] (sp_law K T.tabs) := by
  refine okG0 T.F_law sc_law (fun vs H Q E h => ?_) (fun cdv A outer s H vs Q E nothing hr h => ?_)
  · obtain ⟨a, ns, rfl, _⟩ := h
    rfl
  · obtain ⟨a, ns, rfl, hS, hlen, _, q⟩ := h
    refine ⟨_, (pss_cons (ps_set (i := 1) sc_law.nd rfl (by first | exact .inl rfl | exact .inr rfl) (pe_call (ok_deck T) (hr.mono (by decide)) (by rfl) T.g_deck T.F_deck.kp T.b_deck .nil pass0 (pa_cons (pv 0) pa_nil))) (pss_cons (ps_for PassesOwn.never rfl (pi_range1 (by rfl) T.m_range (pa_cons pe_int pa_nil)) (pg_name (i := 2) sc_law.nd rfl (by first | exact .inl rfl | exact .inr rfl)) (pss_cons (ps_set (i := 3) sc_law.nd rfl (by first | exact .inl rfl | exact .inr rfl) (pe_cmpR op_eq (pe_call (ok_take T) (hr.mono (by decide)) (by rfl) T.g_take T.F_take.kp T.b_take .nil pass0 (pa_cons (pv 1) (pa_cons pe_int pa_nil))) pe_int (nomark _))) (pss_cons (ps_set (i := 4) sc_law.nd rfl (by first | exact .inl rfl | exact .inr rfl) (pe_op op_add pe_int (pe_call (ok_take T) (hr.mono (by decide)) (by rfl) T.g_take T.F_take.kp T.b_take .nil pass0 (pa_cons (pv 1) (pa_cons pe_int pa_nil))))) (pss_cons (ps_set (i := 5) sc_law.nd rfl (by first | exact .inl rfl | exact .inr rfl) (pe_call (ok_some_form T) (hr.mono (by decide)) (by rfl) T.g_some_form T.F_some_form.kp T.b_some_form .nil pass0 (pa_cons (pv 1) (pa_cons (pv 4) pa_nil)))) (pss_cons (ps_if (pw_or (pt_cmpR op_isnot_bl (pe_call (ok_is_form T) (hr.mono (by decide)) (by rfl) T.g_is_form T.F_is_form.kp T.b_is_form .nil pass0 (pa_cons (pv 4) (pa_cons (pv 5) pa_nil))) pe_bl (nomark _)) (pw_or1 (pt_not (pt_val (pe_callG (ok_right T) nothing (hr.mono (by decide)) (by rfl) T.g_right T.F_right.kp T.b_right .nil pass0 (pa_cons (pe_op op_add pe_int (pe_call (ok_take T) (hr.mono (by decide)) (by rfl) T.g_take T.F_take.kp T.b_take .nil pass0 (pa_cons (pv 1) (pa_cons pe_int pa_nil)))) (pa_cons (pv 5) pa_nil))))))).pt (pss_one (ps_ret pe_bl)) pss_nil) (pss_one (ps_for PassesOwn.never rfl (pi_range1 (by rfl) T.m_range (pa_cons pe_int pa_nil)) (pg_name (i := 6) sc_law.nd rfl (by first | exact .inl rfl | exact .inr rfl)) (pss_cons (ps_set (i := 7) sc_law.nd rfl (by first | exact .inl rfl | exact .inr rfl) (pe_call (ok_spoilt T) (hr.mono (by decide)) (by rfl) T.g_spoilt T.F_spoilt.kp T.b_spoilt .nil pass0 (pa_cons (pv 1) (pa_cons (pv 5) (pa_cons (pe_op op_add pe_int (pe_call (ok_take T) (hr.mono (by decide)) (by rfl) T.g_take T.F_take.kp T.b_take .nil pass0 (pa_cons (pv 1) (pa_cons pe_int pa_nil)))) pa_nil))))) (C8.pss_cut (ps_if (pt_val (pv 3)) (pss_one (ps_set (i := 7) sc_law.nd rfl (by first | exact .inl rfl | exact .inr rfl) (pe_call (ok_spoilt T) (hr.mono (by decide)) (by rfl) T.g_spoilt T.F_spoilt.kp T.b_spoilt .nil pass0 (pa_cons (pv 1) (pa_cons (pv 7) (pa_cons (pe_op op_add pe_int (pe_call (ok_take T) (hr.mono (by decide)) (by rfl) T.g_take T.F_take.kp T.b_take .nil pass0 (pa_cons (pv 1) (pa_cons pe_int pa_nil)))) pa_nil)))))) pss_nil) (pss_one (ps_if (pt_not (pt_val (pe_callG (ok_right T) nothing (hr.mono (by decide)) (by rfl) T.g_right T.F_right.kp T.b_right .nil pass0 (pa_cons (pv 4) (pa_cons (pv 7) pa_nil))))) (pss_one (ps_ret pe_bl)) pss_nil))))))))))) (pss_cons (ps_for PassesOwn.never rfl (pi_list (pe_lst (pa_cons (pe_call (ok_wide T) (hr.mono (by decide)) (by rfl) T.g_wide T.F_wide.kp T.b_wide .nil pass0 (pa_cons (pv 1) (pa_cons (pv 4) pa_nil))) (pa_cons (pe_call (ok_nots T) (hr.mono (by decide)) (by rfl) T.g_nots T.F_nots.kp T.b_nots .nil pass0 (pa_cons (pv 1) (pa_cons (pv 4) pa_nil))) pa_nil)))) (pg_name (i := 8) sc_law.nd rfl (by first | exact .inl rfl | exact .inr rfl)) (pss_one (ps_if (pw_or (pt_cmpR op_isnot_bl (pe_call (ok_is_form T) (hr.mono (by decide)) (by rfl) T.g_is_form T.F_is_form.kp T.b_is_form .nil pass0 (pa_cons (pv 4) (pa_cons (pv 8) pa_nil))) pe_bl (nomark _)) (pw_or1 (pt_not (pt_val (pe_callG (ok_right T) nothing (hr.mono (by decide)) (by rfl) T.g_right T.F_right.kp T.b_right .nil pass0 (pa_cons (pv 4) (pa_cons (pe_call (ok_spoilt T) (hr.mono (by decide)) (by rfl) T.g_spoilt T.F_spoilt.kp T.b_spoilt .nil pass0 (pa_cons (pv 1) (pa_cons (pv 8) (pa_cons pe_int pa_nil)))) pa_nil))))))).pt (pss_one (ps_ret pe_bl)) pss_nil))) (pss_cons (ps_set (i := 9) sc_law.nd rfl (by first | exact .inl rfl | exact .inr rfl) (pe_tup (pa_cons pe_str pa_nil))) (pss_cons (ps_set (i := 10) sc_law.nd rfl (by first | exact .inl rfl | exact .inr rfl) (pe_lst (pa_cons (pv 9) (pa_cons (pe_tup (pa_cons pe_str (pa_cons (pe_tup pa_nil) pa_nil))) (pa_cons (pe_tup (pa_cons pe_str (pa_cons (pv 9) pa_nil))) (pa_cons (pe_tup (pa_cons pe_str pa_nil)) (pa_cons (pe_tup (pa_cons pe_str (pa_cons (pv 9) (pa_cons (pv 9) pa_nil)))) (pa_cons (pe_tup (pa_cons pe_str (pa_cons (pv 9) pa_nil))) (pa_cons (pe_tup (pa_cons pe_str (pa_cons (pe_tup (pa_cons (pv 9) pa_nil)) pa_nil))) pa_nil))))))))) (pss_cons (ps_expr (pe_bm PySem.F.plainAttrs_list PySem.F.slot_list_append PySem.F.type_list_append mt_append (pv 10) (pa_cons (pe_tup (pa_cons pe_str (pa_cons (pe_lstN (pa_cons (pv 9) (pa_cons (pv 9) pa_nil))) pa_nil))) pa_nil))) (pss_cons (ps_set (i := 10) sc_law.nd rfl (by first | exact .inl rfl | exact .inr rfl) (pe_op op_cat (pv 10) (pe_lst (pa_cons (pe_tup (pa_cons pe_str (pa_cons (pe_op op_repT (pe_tup (pa_cons (pv 9) pa_nil)) pe_int) pa_nil))) (pa_cons (pe_tup (pa_cons pe_str pa_nil)) (pa_cons (pe_tup (pa_cons pe_str (pa_cons (pv 4) pa_nil))) (pa_cons (pe_tup (pa_cons pe_str (pa_cons (pe_op op_sub (pv 4) pe_int) pa_nil))) (pa_cons (pe_tup (pa_cons pe_str (pa_cons pe_int (pa_cons pe_int pa_nil)))) (pa_cons (pe_tup (pa_cons pe_str (pa_cons (pe_tup (pa_cons (pv 9) (pa_cons (pv 9) pa_nil))) pa_nil))) pa_nil))))))))) (pss_cons (ps_for PassesOwn.never rfl (pi_list (pe_op op_cat (pv 10) (pe_lst (pa_cons pe_non (pa_cons pe_int (pa_cons pe_bl (pa_cons pe_str (pa_cons pe_str (pa_cons (pe_tup pa_nil) (pa_cons (pe_lstN pa_nil) (pa_cons pe_dnewK (pa_cons (pe_tup (pa_cons (pv 9) pa_nil)) (pa_cons (pe_tup (pa_cons pe_non pa_nil)) (pa_cons (pe_tup (pa_cons pe_str (pa_cons (pe_tup pa_nil) pa_nil))) pa_nil)))))))))))))) (pg_name (i := 7) sc_law.nd rfl (by first | exact .inl rfl | exact .inr rfl)) (pss_one (ps_if (pt_not (pt_val (pe_callG (ok_right T) nothing (hr.mono (by decide)) (by rfl) T.g_right T.F_right.kp T.b_right .nil pass0 (pa_cons (pv 4) (pa_cons (pv 7) pa_nil))))) (pss_one (ps_ret pe_bl)) pss_nil))) (pss_one (ps_ret pe_bl)))))))))), ?_⟩
    refine ⟨.ref a, rfl, a, ns, rfl, hS, hlen, fun H1 d l s1 D1 => ?_⟩
    refine ⟨6, rfl, by decide, by decide, for_range (lo := 0) (n := (6 : Int).toNat) (fun i σ H' => ∃ y2 y3 y4 y5 y6 y7, σ = [some (.ref a), some (.ref d), y2, y3, y4, y5, y6, y7, none, none, none] ∧ DeckC H' d l (3000 * i) ∧ (i = 0 ∨ ∃ m : Nat, y4 = some (.int (m : Nat)) ∧ 1 ≤ m ∧ m ≤ 6))
      ⟨_, _, _, _, _, _, rfl, D1.mono (by omega), .inl rfl⟩ ?_ ?_⟩
    · rintro i σ H2 hi ⟨y2, y3, y4, y5, y6, y7, rfl, D2, _⟩
      have hi' : i < 6 := hi
      refine ⟨.ref d, rfl, d, l, 3, _, rfl, D2, by omega, by decide, by decide, fun H3 tw D3 fr3 _ _ => ⟨rfl, ?_⟩⟩
      generalize decide (V.int tw = V.int 0) = twice
      refine ⟨.ref d, rfl, d, l, 6, _, rfl, D3, by omega, by decide, by decide, fun H4 x D4 fr4 x0 x1 => ⟨_, _, rfl, rfl, ?_⟩⟩
      obtain ⟨m, hm, m1, m6⟩ : ∃ m : Nat, 1 + x = (m : Int) ∧ 1 ≤ m ∧ m ≤ 6 := ⟨(1 + x).toNat, by omega, by omega, by omega⟩
      show gName 4 (V.int (1 + x)) _ _ _
      rw [hm]
      refine ⟨.ref d, rfl, .int (m : Nat), rfl, d, l, _, m, rfl, D4, by omega, m1, m6, fun fv H5 D5 fr5 fm => ?_⟩
      obtain ⟨f, tf, isf, fit⟩ := fm.fit m6
      have wf : f.d.weight ≤ 50000 := Nat.le_trans fit.2.1 (by decide)
      refine ⟨.int (m : Nat), rfl, fv, rfl, m, fv, f.d, rfl, tf.sh (Fm.noL f), wf, fun H6 s6 => ⟨_, _, rfl, rfl, _, rfl, ?_⟩⟩
      rw [isf]
      refine iteF ?_
      refine ⟨.ref d, rfl, d, l, 6, _, rfl, D5.same s6, by omega, by decide, by decide, fun H7 x7 D7 fr7 x70 x71 => ⟨_, _, rfl, rfl, ?_⟩⟩
      have tf7 := (tf.same s6).ts (Ts.frC (D5.same s6) fr7) (Fm.noL f)
      refine ⟨fv, rfl, _, fv, f.d, 100, _, _, rfl, tf7.sh (Fm.noL f), fit, by decide, by decide, by decide, fun H8 g8 => ⟨_, rfl, iteF ?_⟩⟩
      refine ⟨4, rfl, by decide, by decide, for_range (lo := 0) (n := (4 : Int).toNat) (fun j σ H' => ∃ y6 y7, σ = [some (.ref a), some (.ref d), some (.int (0 + (i : Nat))), some (.bl twice), some (.int (m : Nat)), some fv, y6, y7, none, none, none] ∧ DeckC H' d l (3000 * i + 1603 + 100 * j) ∧ Tk H' fv f.d)
        ⟨_, _, rfl, (D7.gr g8).mono (by omega), tf7.gr g8⟩ ?_ ?_⟩
      · rintro j σ H9 hj ⟨y6, y7, rfl, D9, tf9⟩
        have hj' : j < 4 := hj
        refine ⟨.ref d, rfl, fv, rfl, .ref d, rfl, d, l, 19, _, rfl, D9, by omega, by decide, by decide, fun H10 xa DA fra xa0 xa1 => ⟨_, _, rfl, rfl, ?_⟩⟩
        obtain ⟨ea, hea, ea24⟩ : ∃ e : Nat, 1 + xa = (e : Int) ∧ e ≤ 19 := ⟨(1 + xa).toNat, by omega, by omega⟩
        have tfa := tf9.ts (Ts.frC D9 fra) (Fm.noL f)
        refine ⟨ea, by omega, [d, l], d, l, _, fv, f.d, 100, 8 * 40, 2 * 11, (by show [V.ref d, fv, V.int (1 + xa)] = _; rw [hea]), DA.da, by omega, tfa.shH DA.da (Fm.noL f), fit, by decide, by decide, fun v7 H11 d7 D11 fr11 sh7 f7 => ?_⟩
        have tfb := tfa.ts (Ts.frC DA fr11) (Fm.noL f)
        refine ⟨fun σ H' => ∃ v dd, σ = [some (.ref a), some (.ref d), some (.int (0 + (i : Nat))), some (.bl twice), some (.int (m : Nat)), some fv, some (.int (0 + (j : Nat))), some v, none, none, none] ∧ DeckC H' d l (3000 * i + 1603 + 100 * j + 95) ∧ Tk H' fv f.d ∧ Sh H' v dd ∧ Fit (100 + 10 ^ 39 + 10 + 10 ^ 39 + 10) 20000 40 dd, ?_, ?_⟩
        · refine ⟨.bl twice, rfl, twice, rfl, ite2 (fun e => ?_) (fun e => ?_)⟩
          · refine ⟨.ref d, rfl, v7, rfl, .ref d, rfl, d, l, 19, _, rfl, D11.d1, by omega, by decide, by decide, fun H12 xb DB frb xb0 xb1 => ⟨_, _, rfl, rfl, ?_⟩⟩
            obtain ⟨eb, heb, eb24⟩ : ∃ e : Nat, 1 + xb = (e : Int) ∧ e ≤ 19 := ⟨(1 + xb).toNat, by omega, by omega⟩
            have DBa := D11.fr DB frb
            refine ⟨eb, by omega, [d, l], d, l, _, v7, d7, _, _, _, (by show [V.ref d, v7, V.int (1 + xb)] = _; rw [heb]), DBa, by omega, sh7.same (hid_fr frb D11.hd D11.hl), f7, by decide, by omega, fun v8 H13 d8 D13 fr13 sh8 f8 => ?_⟩
            exact ⟨v8, d8, rfl, D13.d1.mono (by omega), (tfb.ts (Ts.frC D11.d1 frb) (Fm.noL f)).ts (Ts.frC DB fr13) (Fm.noL f), sh8.same hid_le, f8.mono (Nat.le_refl _) (by omega) (by decide)⟩
          · exact ⟨v7, d7, rfl, D11.d1.mono (by omega), tfb, sh7.same hid_le, f7.mono (by decide) (by omega) (by decide)⟩
        · rintro σ H14 ⟨v, dd, rfl, D14, tf14, sh14, f14⟩
          refine ⟨.int (m : Nat), rfl, v, rfl, _, v, dd, _, _, _, rfl, sh14, f14, by decide, by decide, by decide, fun H15 g15 => ⟨_, rfl, iteF ?_⟩⟩
          exact ⟨_, _, rfl, (D14.gr g15).mono (by push_cast; omega), tf14.gr g15⟩
      · rintro σ H9 ⟨y6, y7, rfl, D9, _⟩
        exact ⟨_, _, _, _, _, _, rfl, D9.mono (by push_cast; show 3000 * (i : Int) + 1603 + 100 * ((4 : Int).toNat : Nat) ≤ _; omega), .inr ⟨m, rfl, m1, m6⟩⟩
    rintro σ H2 ⟨y2, y3, y4, y5, y6, y7, rfl, D2, hn⟩
    obtain ⟨m, rfl, m1, m6⟩ : ∃ m : Nat, y4 = some (.int (m : Nat)) ∧ 1 ≤ m ∧ m ≤ 6 := by
      rcases hn with z | z
      · cases z
      · exact z
    have e6 : (3000 * ((6 : Int).toNat : Nat) : Int) = 18000 := by decide
    rw [e6] at D2
    refine ⟨.ref d, rfl, .int (m : Nat), rfl, d, l, _, m, rfl, D2, by omega, m1, m6, fun w1 H3 D3 fr3 fm1 => ?_⟩
    refine ⟨.ref d, rfl, .int (m : Nat), rfl, d, l, _, m, rfl, D3, by omega, m1, m6, fun w2 H4 D4 fr4 fm2 => ?_⟩
    refine ⟨sl2, fun p np => ?_⟩
    have op := D4.off np
    have s5 := same_upd (o := (HO.lst [w1, w2])) np
    have h5 : upd H4 p (HO.lst [w1, w2]) p = some (HO.lst [w1, w2]) := upd_same
    generalize upd H4 p (HO.lst [w1, w2]) = H5 at s5 h5 ⊢
    have fm1 : FmAt H5 m 128 22 w1 := ((fm1.ts (Ts.frC D3 fr4)).same s5).mono (by decide) (by decide)
    have fm2 : FmAt H5 m 128 22 w2 := (fm2.same s5).mono (by decide) (by decide)
    refine ⟨p, rfl, ⟨_, SqL.of h5⟩, for_list (K := K) (a := p) (xs := [w1, w2]) (fun j σ H' => ∃ y7 y8, σ = [some (.ref a), some (.ref d), y2, y3, some (.int (m : Nat)), y5, y6, y7, y8, none, none] ∧ DeckC H' d l (18200 + 200 * j) ∧ H' p = some (.lst [w1, w2]) ∧ FmAt H' m 128 22 w1 ∧ FmAt H' m 128 22 w2) ⟨_, _, rfl, (D4.same s5).mono (by omega), h5, fm1, fm2⟩ (fun j σ H' _ ⟨_, _, _, _, e, _⟩ => SqL.of e) ?_ ?_⟩
    · rintro j x σ H6 hx ⟨y7, y8, rfl, D6, h6, fa, fb⟩
      have hj : j < 2 := (List.getElem?_eq_some_iff.mp hx).1
      have fx : FmAt H6 m 128 22 x := by
        rcases (by omega : j = 0 ∨ j = 1) with rfl | rfl
        · cases Option.some.inj hx; exact fa
        · cases Option.some.inj hx; exact fb
      obtain ⟨f, tf, isf, fit⟩ := fx.fit m6
      have wf : f.d.weight ≤ 50000 := Nat.le_trans fit.2.1 (by decide)
      refine ⟨.int (m : Nat), rfl, x, rfl, m, x, f.d, rfl, tf.sh (Fm.noL f), wf, fun H7 s7 => ⟨_, _, rfl, rfl, _, rfl, ?_⟩⟩
      rw [isf]
      refine iteF ?_
      have D7 := D6.same s7
      refine ⟨.int (m : Nat), rfl, .ref d, rfl, x, rfl, 24, by decide, [d, l], d, l, _, x, f.d, 100, _, _, rfl, D7.da, by omega, (tf.same s7).shH D7.da (Fm.noL f), fit, by decide, by decide, fun v8 H8 d8 D8 fr8 sh8 f8 => ?_⟩
      refine ⟨_, v8, d8, _, _, _, rfl, sh8.same hid_le, f8, by decide, by decide, by decide, fun H9 g9 => ⟨_, rfl, iteF ?_⟩⟩
      have ts := Ts.frC D7 fr8
      exact ⟨_, _, rfl, (D8.d1.gr g9).mono (by push_cast; omega), g9.lst (fr8 _ _ op.1 op.2 (s7 _ _ h6)), ((fa.same s7).ts ts).gr g9, ((fb.same s7).ts ts).gr g9⟩
    rintro σ B0 ⟨y7, y8, rfl, D6, h6, _, _⟩
    refine ⟨sl1, fun a1 na1 => ?_⟩
    have s1 := same_upd (o := (HO.tup [V.str (Str.ofString "one")])) na1
    have h1 : upd B0 a1 (HO.tup [V.str (Str.ofString "one")]) a1 = some (HO.tup [V.str (Str.ofString "one")]) := upd_same
    generalize upd B0 a1 (HO.tup [V.str (Str.ofString "one")]) = A1 at s1 h1 ⊢
    refine ⟨.ref a1, rfl, ?_⟩
    refine ⟨Nat.zero_le _, fun t1 nt1 => ?_⟩
    have s2 := same_upd (o := (HO.tup [])) nt1
    have h2 : upd A1 t1 (HO.tup []) t1 = some (HO.tup []) := upd_same
    generalize upd A1 t1 (HO.tup []) = A2 at s2 h2 ⊢
    refine ⟨sl2, fun t2 nt2 => ?_⟩
    have s3 := same_upd (o := (HO.tup [V.str (Str.ofString "one"), V.ref t1])) nt2
    have h3 : upd A2 t2 (HO.tup [V.str (Str.ofString "one"), V.ref t1]) t2 = some (HO.tup [V.str (Str.ofString "one"), V.ref t1]) := upd_same
    generalize upd A2 t2 (HO.tup [V.str (Str.ofString "one"), V.ref t1]) = A3 at s3 h3 ⊢
    refine ⟨.ref a1, rfl, sl2, fun t3 nt3 => ?_⟩
    have s4 := same_upd (o := (HO.tup [V.str (Str.ofString "nought"), V.ref a1])) nt3
    have h4 : upd A3 t3 (HO.tup [V.str (Str.ofString "nought"), V.ref a1]) t3 = some (HO.tup [V.str (Str.ofString "nought"), V.ref a1]) := upd_same
    generalize upd A3 t3 (HO.tup [V.str (Str.ofString "nought"), V.ref a1]) = A4 at s4 h4 ⊢
    refine ⟨sl1, fun t4 nt4 => ?_⟩
    have s5 := same_upd (o := (HO.tup [V.str (Str.ofString "not")])) nt4
    have h5 : upd A4 t4 (HO.tup [V.str (Str.ofString "not")]) t4 = some (HO.tup [V.str (Str.ofString "not")]) := upd_same
    generalize upd A4 t4 (HO.tup [V.str (Str.ofString "not")]) = A5 at s5 h5 ⊢
    refine ⟨.ref a1, rfl, .ref a1, rfl, sl3, fun t5 nt5 => ?_⟩
    have s6 := same_upd (o := (HO.tup [V.str (Str.ofString "not"), V.ref a1, V.ref a1])) nt5
    have h6 : upd A5 t5 (HO.tup [V.str (Str.ofString "not"), V.ref a1, V.ref a1]) t5 = some (HO.tup [V.str (Str.ofString "not"), V.ref a1, V.ref a1]) := upd_same
    generalize upd A5 t5 (HO.tup [V.str (Str.ofString "not"), V.ref a1, V.ref a1]) = A6 at s6 h6 ⊢
    refine ⟨.ref a1, rfl, sl2, fun t6 nt6 => ?_⟩
    have s7 := same_upd (o := (HO.tup [V.str (Str.ofString "and"), V.ref a1])) nt6
    have h7 : upd A6 t6 (HO.tup [V.str (Str.ofString "and"), V.ref a1]) t6 = some (HO.tup [V.str (Str.ofString "and"), V.ref a1]) := upd_same
    generalize upd A6 t6 (HO.tup [V.str (Str.ofString "and"), V.ref a1]) = A7 at s7 h7 ⊢
    refine ⟨.ref a1, rfl, sl1, fun t7 nt7 => ?_⟩
    have s8 := same_upd (o := (HO.tup [V.ref a1])) nt7
    have h8 : upd A7 t7 (HO.tup [V.ref a1]) t7 = some (HO.tup [V.ref a1]) := upd_same
    generalize upd A7 t7 (HO.tup [V.ref a1]) = A8 at s8 h8 ⊢
    refine ⟨sl2, fun t8 nt8 => ?_⟩
    have s9 := same_upd (o := (HO.tup [V.str (Str.ofString "or"), V.ref t7])) nt8
    have h9 : upd A8 t8 (HO.tup [V.str (Str.ofString "or"), V.ref t7]) t8 = some (HO.tup [V.str (Str.ofString "or"), V.ref t7]) := upd_same
    generalize upd A8 t8 (HO.tup [V.str (Str.ofString "or"), V.ref t7]) = A9 at s9 h9 ⊢
    refine ⟨by show 7 ≤ sizeLine; decide, fun L1 nL1 => ?_⟩
    have s10 := same_upd (o := (HO.lst [V.ref a1, V.ref t2, V.ref t3, V.ref t4, V.ref t5, V.ref t6, V.ref t8])) nL1
    have h10 : upd A9 L1 (HO.lst [V.ref a1, V.ref t2, V.ref t3, V.ref t4, V.ref t5, V.ref t6, V.ref t8]) L1 = some (HO.lst [V.ref a1, V.ref t2, V.ref t3, V.ref t4, V.ref t5, V.ref t6, V.ref t8]) := upd_same
    generalize upd A9 L1 (HO.lst [V.ref a1, V.ref t2, V.ref t3, V.ref t4, V.ref t5, V.ref t6, V.ref t8]) = A10 at s10 h10 ⊢
    refine ⟨.ref L1, rfl, .inl ⟨rfl, _, SqL.of h10⟩, .ref a1, rfl, .ref a1, rfl, sl2, fun lA nlA mlA => ?_⟩
    have s11 := same_upd (o := (HO.lst [V.ref a1, V.ref a1])) nlA
    have h11 : upd A10 lA (HO.lst [V.ref a1, V.ref a1]) lA = some (HO.lst [V.ref a1, V.ref a1]) := upd_same
    generalize upd A10 lA (HO.lst [V.ref a1, V.ref a1]) = A11 at s11 h11 ⊢
    refine ⟨sl2, fun t9 nt9 => ?_⟩
    have s12 := same_upd (o := (HO.tup [V.str (Str.ofString "and"), V.ref lA])) nt9
    have h12 : upd A11 t9 (HO.tup [V.str (Str.ofString "and"), V.ref lA]) t9 = some (HO.tup [V.str (Str.ofString "and"), V.ref lA]) := upd_same
    generalize upd A11 t9 (HO.tup [V.str (Str.ofString "and"), V.ref lA]) = A12 at s12 h12 ⊢
    refine ⟨L1, _, .ref t9, rfl, rfl, s12 _ _ (s11 _ _ h10), by show 7 < sizeLine; decide, ?_⟩
    have keep : Same A9 (upd A12 L1 (HO.lst ([V.ref a1, V.ref t2, V.ref t3, V.ref t4, V.ref t5, V.ref t6, V.ref t8] ++ [V.ref t9]))) := fun b x e => hd1_le _ _ (((hd1_of s10 nL1).trans (hd1_same (s11.trans s12))).trans hd1_upd _ _ e)
    have klA : upd A12 L1 (HO.lst ([V.ref a1, V.ref t2, V.ref t3, V.ref t4, V.ref t5, V.ref t6, V.ref t8] ++ [V.ref t9])) lA = some (HO.lst [V.ref a1, V.ref a1]) := by rw [upd_ne (ne_of_none h10 nlA).symm]; exact s12 _ _ h11
    have kt9 : upd A12 L1 (HO.lst ([V.ref a1, V.ref t2, V.ref t3, V.ref t4, V.ref t5, V.ref t6, V.ref t8] ++ [V.ref t9])) t9 = some (HO.tup [V.str (Str.ofString "and"), V.ref lA]) := by rw [upd_ne (ne_of_none (s11 _ _ h10) nt9).symm]; exact h12
    have kL1 : upd A12 L1 (HO.lst ([V.ref a1, V.ref t2, V.ref t3, V.ref t4, V.ref t5, V.ref t6, V.ref t8] ++ [V.ref t9])) L1 = some (HO.lst [V.ref a1, V.ref t2, V.ref t3, V.ref t4, V.ref t5, V.ref t6, V.ref t8, V.ref t9]) := upd_same
    show tSeq _ _ _ _ (upd _ L1 _)
    generalize upd A12 L1 (HO.lst ([V.ref a1, V.ref t2, V.ref t3, V.ref t4, V.ref t5, V.ref t6, V.ref t8] ++ [V.ref t9])) = C0 at keep klA kt9 kL1 ⊢
    refine ⟨.ref L1, rfl, ?_⟩
    refine ⟨.ref a1, rfl, sl1, fun t10 nt10 => ?_⟩
    have s13 := same_upd (o := (HO.tup [V.ref a1])) nt10
    have h13 : upd C0 t10 (HO.tup [V.ref a1]) t10 = some (HO.tup [V.ref a1]) := upd_same
    generalize upd C0 t10 (HO.tup [V.ref a1]) = A13 at s13 h13 ⊢
    refine ⟨t10, 5, [V.ref a1], rfl, rfl, SqT.of h13, (fun z => by cases z), by decide, by decide, (show 1 ≤ 1000 by decide), fun t11 nt11 => ?_⟩
    have s14 := same_upd (o := HO.tup [V.ref a1, V.ref a1, V.ref a1, V.ref a1, V.ref a1]) nt11
    have h14 : upd A13 t11 (HO.tup [V.ref a1, V.ref a1, V.ref a1, V.ref a1, V.ref a1]) t11 = some (HO.tup [V.ref a1, V.ref a1, V.ref a1, V.ref a1, V.ref a1]) := upd_same
    generalize hh : upd A13 t11 _ = A14
    replace s14 : Same A13 A14 := by rw [← hh]; exact s14
    replace h14 : A14 t11 = some (HO.tup [V.ref a1, V.ref a1, V.ref a1, V.ref a1, V.ref a1]) := by rw [← hh]; exact h14
    clear hh
    refine ⟨sl2, fun t12 nt12 => ?_⟩
    have s15 := same_upd (o := (HO.tup [V.str (Str.ofString "or"), V.ref t11])) nt12
    have h15 : upd A14 t12 (HO.tup [V.str (Str.ofString "or"), V.ref t11]) t12 = some (HO.tup [V.str (Str.ofString "or"), V.ref t11]) := upd_same
    generalize upd A14 t12 (HO.tup [V.str (Str.ofString "or"), V.ref t11]) = A15 at s15 h15 ⊢
    refine ⟨sl1, fun t13 nt13 => ?_⟩
    have s16 := same_upd (o := (HO.tup [V.str (Str.ofString "in")])) nt13
    have h16 : upd A15 t13 (HO.tup [V.str (Str.ofString "in")]) t13 = some (HO.tup [V.str (Str.ofString "in")]) := upd_same
    generalize upd A15 t13 (HO.tup [V.str (Str.ofString "in")]) = A16 at s16 h16 ⊢
    refine ⟨.int (m : Nat), rfl, sl2, fun t14 nt14 => ?_⟩
    have s17 := same_upd (o := (HO.tup [V.str (Str.ofString "in"), V.int (m : Nat)])) nt14
    have h17 : upd A16 t14 (HO.tup [V.str (Str.ofString "in"), V.int (m : Nat)]) t14 = some (HO.tup [V.str (Str.ofString "in"), V.int (m : Nat)]) := upd_same
    generalize upd A16 t14 (HO.tup [V.str (Str.ofString "in"), V.int (m : Nat)]) = A17 at s17 h17 ⊢
    refine ⟨.int (m : Nat), rfl, _, _, rfl, rfl, sl2, fun t15 nt15 => ?_⟩
    have s18 := same_upd (o := HO.tup [V.str (Str.ofString "in"), V.int ((m : Nat) - 1)]) nt15
    have h18 : upd A17 t15 (HO.tup [V.str (Str.ofString "in"), V.int ((m : Nat) - 1)]) t15 = some (HO.tup [V.str (Str.ofString "in"), V.int ((m : Nat) - 1)]) := upd_same
    generalize hh : upd A17 t15 _ = A18
    replace s18 : Same A17 A18 := by rw [← hh]; exact s18
    replace h18 : A18 t15 = some (HO.tup [V.str (Str.ofString "in"), V.int ((m : Nat) - 1)]) := by rw [← hh]; exact h18
    clear hh
    refine ⟨sl3, fun t16 nt16 => ?_⟩
    have s19 := same_upd (o := (HO.tup [V.str (Str.ofString "in"), V.int 0, V.int 0])) nt16
    have h19 : upd A18 t16 (HO.tup [V.str (Str.ofString "in"), V.int 0, V.int 0]) t16 = some (HO.tup [V.str (Str.ofString "in"), V.int 0, V.int 0]) := upd_same
    generalize upd A18 t16 (HO.tup [V.str (Str.ofString "in"), V.int 0, V.int 0]) = A19 at s19 h19 ⊢
    refine ⟨.ref a1, rfl, .ref a1, rfl, sl2, fun t17 nt17 => ?_⟩
    have s20 := same_upd (o := (HO.tup [V.ref a1, V.ref a1])) nt17
    have h20 : upd A19 t17 (HO.tup [V.ref a1, V.ref a1]) t17 = some (HO.tup [V.ref a1, V.ref a1]) := upd_same
    generalize upd A19 t17 (HO.tup [V.ref a1, V.ref a1]) = A20 at s20 h20 ⊢
    refine ⟨sl2, fun t18 nt18 => ?_⟩
    have s21 := same_upd (o := (HO.tup [V.str (Str.ofString "xor"), V.ref t17])) nt18
    have h21 : upd A20 t18 (HO.tup [V.str (Str.ofString "xor"), V.ref t17]) t18 = some (HO.tup [V.str (Str.ofString "xor"), V.ref t17]) := upd_same
    generalize upd A20 t18 (HO.tup [V.str (Str.ofString "xor"), V.ref t17]) = A21 at s21 h21 ⊢
    refine ⟨by show 6 ≤ sizeLine; decide, fun L2 nL2 => ?_⟩
    have s22 := same_upd (o := (HO.lst [V.ref t12, V.ref t13, V.ref t14, V.ref t15, V.ref t16, V.ref t18])) nL2
    have h22 : upd A21 L2 (HO.lst [V.ref t12, V.ref t13, V.ref t14, V.ref t15, V.ref t16, V.ref t18]) L2 = some (HO.lst [V.ref t12, V.ref t13, V.ref t14, V.ref t15, V.ref t16, V.ref t18]) := upd_same
    generalize upd A21 L2 (HO.lst [V.ref t12, V.ref t13, V.ref t14, V.ref t15, V.ref t16, V.ref t18]) = A22 at s22 h22 ⊢
    refine ⟨L1, L2, _, _, rfl, rfl, (s22 _ _ (s21 _ _ (s20 _ _ (s19 _ _ (s18 _ _ (s17 _ _ (s16 _ _ (s15 _ _ (s14 _ _ (s13 _ _ kL1)))))))))), h22, by show 8 + 6 ≤ sizeLine; decide, fun L3 nL3 => ?_⟩
    have s23 := same_upd (o := (HO.lst ([V.ref a1, V.ref t2, V.ref t3, V.ref t4, V.ref t5, V.ref t6, V.ref t8, V.ref t9] ++ [V.ref t12, V.ref t13, V.ref t14, V.ref t15, V.ref t16, V.ref t18]))) nL3
    have h23 : upd A22 L3 (HO.lst ([V.ref a1, V.ref t2, V.ref t3, V.ref t4, V.ref t5, V.ref t6, V.ref t8, V.ref t9] ++ [V.ref t12, V.ref t13, V.ref t14, V.ref t15, V.ref t16, V.ref t18])) L3 = some (HO.lst ([V.ref a1, V.ref t2, V.ref t3, V.ref t4, V.ref t5, V.ref t6, V.ref t8, V.ref t9] ++ [V.ref t12, V.ref t13, V.ref t14, V.ref t15, V.ref t16, V.ref t18])) := upd_same
    generalize upd A22 L3 (HO.lst ([V.ref a1, V.ref t2, V.ref t3, V.ref t4, V.ref t5, V.ref t6, V.ref t8, V.ref t9] ++ [V.ref t12, V.ref t13, V.ref t14, V.ref t15, V.ref t16, V.ref t18])) = A23 at s23 h23 ⊢
    refine ⟨.ref L3, rfl, ?_⟩
    refine ⟨Nat.zero_le _, fun c1 nc1 => ?_⟩
    have s24 := same_upd (o := (HO.tup [])) nc1
    have h24 : upd A23 c1 (HO.tup []) c1 = some (HO.tup []) := upd_same
    generalize upd A23 c1 (HO.tup []) = A24 at s24 h24 ⊢
    refine ⟨Nat.zero_le _, fun c2 nc2 mc2 => ?_⟩
    have s25 := same_upd (o := (HO.lst [])) nc2
    have h25 : upd A24 c2 (HO.lst []) c2 = some (HO.lst []) := upd_same
    generalize upd A24 c2 (HO.lst []) = A25 at s25 h25 ⊢
    refine fun c3 nc3 => ?_
    have s26 := same_upd (o := (HO.dK [])) nc3
    have h26 : upd A25 c3 (HO.dK []) c3 = some (HO.dK []) := upd_same
    generalize upd A25 c3 (HO.dK []) = A26 at s26 h26 ⊢
    refine ⟨.ref a1, rfl, sl1, fun c4 nc4 => ?_⟩
    have s27 := same_upd (o := (HO.tup [V.ref a1])) nc4
    have h27 : upd A26 c4 (HO.tup [V.ref a1]) c4 = some (HO.tup [V.ref a1]) := upd_same
    generalize upd A26 c4 (HO.tup [V.ref a1]) = A27 at s27 h27 ⊢
    refine ⟨sl1, fun c5 nc5 => ?_⟩
    have s28 := same_upd (o := (HO.tup [V.non])) nc5
    have h28 : upd A27 c5 (HO.tup [V.non]) c5 = some (HO.tup [V.non]) := upd_same
    generalize upd A27 c5 (HO.tup [V.non]) = A28 at s28 h28 ⊢
    refine ⟨Nat.zero_le _, fun c6 nc6 => ?_⟩
    have s29 := same_upd (o := (HO.tup [])) nc6
    have h29 : upd A28 c6 (HO.tup []) c6 = some (HO.tup []) := upd_same
    generalize upd A28 c6 (HO.tup []) = A29 at s29 h29 ⊢
    refine ⟨sl2, fun c7 nc7 => ?_⟩
    have s30 := same_upd (o := (HO.tup [V.str (Str.ofString "and"), V.ref c6])) nc7
    have h30 : upd A29 c7 (HO.tup [V.str (Str.ofString "and"), V.ref c6]) c7 = some (HO.tup [V.str (Str.ofString "and"), V.ref c6]) := upd_same
    generalize upd A29 c7 (HO.tup [V.str (Str.ofString "and"), V.ref c6]) = A30 at s30 h30 ⊢
    refine ⟨by show 11 ≤ sizeLine; decide, fun L4 nL4 => ?_⟩
    have s31 := same_upd (o := (HO.lst [V.non, V.int 7, V.bl true, V.str (Str.ofString ""), V.str (Str.ofString "one"), V.ref c1, V.ref c2, V.ref c3, V.ref c4, V.ref c5, V.ref c7])) nL4
    have h31 : upd A30 L4 (HO.lst [V.non, V.int 7, V.bl true, V.str (Str.ofString ""), V.str (Str.ofString "one"), V.ref c1, V.ref c2, V.ref c3, V.ref c4, V.ref c5, V.ref c7]) L4 = some (HO.lst [V.non, V.int 7, V.bl true, V.str (Str.ofString ""), V.str (Str.ofString "one"), V.ref c1, V.ref c2, V.ref c3, V.ref c4, V.ref c5, V.ref c7]) := upd_same
    generalize upd A30 L4 (HO.lst [V.non, V.int 7, V.bl true, V.str (Str.ofString ""), V.str (Str.ofString "one"), V.ref c1, V.ref c2, V.ref c3, V.ref c4, V.ref c5, V.ref c7]) = A31 at s31 h31 ⊢
    refine ⟨L3, L4, _, _, rfl, rfl, (s31 _ _ (s30 _ _ (s29 _ _ (s28 _ _ (s27 _ _ (s26 _ _ (s25 _ _ (s24 _ _ h23)))))))), h31, by show 14 + 11 ≤ sizeLine; decide, fun L5 nL5 => ?_⟩
    have s32 := same_upd (o := (HO.lst (([V.ref a1, V.ref t2, V.ref t3, V.ref t4, V.ref t5, V.ref t6, V.ref t8, V.ref t9] ++ [V.ref t12, V.ref t13, V.ref t14, V.ref t15, V.ref t16, V.ref t18]) ++ [V.non, V.int 7, V.bl true, V.str (Str.ofString ""), V.str (Str.ofString "one"), V.ref c1, V.ref c2, V.ref c3, V.ref c4, V.ref c5, V.ref c7]))) nL5
    have h32 : upd A31 L5 (HO.lst (([V.ref a1, V.ref t2, V.ref t3, V.ref t4, V.ref t5, V.ref t6, V.ref t8, V.ref t9] ++ [V.ref t12, V.ref t13, V.ref t14, V.ref t15, V.ref t16, V.ref t18]) ++ [V.non, V.int 7, V.bl true, V.str (Str.ofString ""), V.str (Str.ofString "one"), V.ref c1, V.ref c2, V.ref c3, V.ref c4, V.ref c5, V.ref c7])) L5 = some (HO.lst (([V.ref a1, V.ref t2, V.ref t3, V.ref t4, V.ref t5, V.ref t6, V.ref t8, V.ref t9] ++ [V.ref t12, V.ref t13, V.ref t14, V.ref t15, V.ref t16, V.ref t18]) ++ [V.non, V.int 7, V.bl true, V.str (Str.ofString ""), V.str (Str.ofString "one"), V.ref c1, V.ref c2, V.ref c3, V.ref c4, V.ref c5, V.ref c7])) := upd_same
    generalize upd A31 L5 (HO.lst (([V.ref a1, V.ref t2, V.ref t3, V.ref t4, V.ref t5, V.ref t6, V.ref t8, V.ref t9] ++ [V.ref t12, V.ref t13, V.ref t14, V.ref t15, V.ref t16, V.ref t18]) ++ [V.non, V.int 7, V.bl true, V.str (Str.ofString ""), V.str (Str.ofString "one"), V.ref c1, V.ref c2, V.ref c3, V.ref c4, V.ref c5, V.ref c7])) = A32 at s32 h32 ⊢
    have z32 : Same A32 A32 := same_refl
    have z31 : Same A31 A32 := s32.trans z32
    have z30 : Same A30 A32 := s31.trans z31
    have z29 : Same A29 A32 := s30.trans z30
    have z28 : Same A28 A32 := s29.trans z29
    have z27 : Same A27 A32 := s28.trans z28
    have z26 : Same A26 A32 := s27.trans z27
    have z25 : Same A25 A32 := s26.trans z26
    have z24 : Same A24 A32 := s25.trans z25
    have z23 : Same A23 A32 := s24.trans z24
    have z22 : Same A22 A32 := s23.trans z23
    have z21 : Same A21 A32 := s22.trans z22
    have z20 : Same A20 A32 := s21.trans z21
    have z19 : Same A19 A32 := s20.trans z20
    have z18 : Same A18 A32 := s19.trans z19
    have z17 : Same A17 A32 := s18.trans z18
    have z16 : Same A16 A32 := s17.trans z17
    have z15 : Same A15 A32 := s16.trans z16
    have z14 : Same A14 A32 := s15.trans z15
    have z13 : Same A13 A32 := s14.trans z14
    have zC : Same C0 A32 := s13.trans z13
    have z9 : Same A9 A32 := keep.trans zC
    have z8 : Same A8 A32 := s9.trans z9
    have z7 : Same A7 A32 := s8.trans z8
    have z6 : Same A6 A32 := s7.trans z7
    have z5 : Same A5 A32 := s6.trans z6
    have z4 : Same A4 A32 := s5.trans z5
    have z3 : Same A3 A32 := s4.trans z4
    have z2 : Same A2 A32 := s3.trans z3
    have z1 : Same A1 A32 := s2.trans z2
    have gz : Same B0 A32 := s1.trans z1
    have ka1 := z1 _ _ h1
    have kt1 := z2 _ _ h2
    have kt2 := z3 _ _ h3
    have kt3 := z4 _ _ h4
    have kt4 := z5 _ _ h5
    have kt5 := z6 _ _ h6
    have kt6 := z7 _ _ h7
    have kt7 := z8 _ _ h8
    have kt8 := z9 _ _ h9
    have kt10 := z13 _ _ h13
    have kt11 := z14 _ _ h14
    have kt12 := z15 _ _ h15
    have kt13 := z16 _ _ h16
    have kt14 := z17 _ _ h17
    have kt15 := z18 _ _ h18
    have kt16 := z19 _ _ h19
    have kt17 := z20 _ _ h20
    have kt18 := z21 _ _ h21
    have kc1 := z24 _ _ h24
    have kc2 := z25 _ _ h25
    have kc3 := z26 _ _ h26
    have kc4 := z27 _ _ h27
    have kc5 := z28 _ _ h28
    have kc6 := z29 _ _ h29
    have kc7 := z30 _ _ h30
    have klA := zC _ _ klA
    have kt9 := zC _ _ kt9
    have kL5 := z32 _ _ h32
    generalize A32 = Z at *
    have one : Sh Z (.ref a1) (.tuple [.str (Str.ofString "one")]) := .tup ka1 (.cons (.str _) .nil)
    have nilT : ∀ {b : Addr}, Z b = some (.tup []) → Sh Z (.ref b) (.tuple []) := fun h => .tup h .nil
    have all : ShAll Z (([V.ref a1, V.ref t2, V.ref t3, V.ref t4, V.ref t5, V.ref t6, V.ref t8, V.ref t9] ++ [V.ref t12, V.ref t13, V.ref t14, V.ref t15, V.ref t16, V.ref t18]) ++ [V.non, V.int 7, V.bl true, V.str (Str.ofString ""), V.str (Str.ofString "one"), V.ref c1, V.ref c2, V.ref c3, V.ref c4, V.ref c5, V.ref c7]) [.tuple [.str (Str.ofString "one")], .tuple [.str (Str.ofString "one"), .tuple []], .tuple [.str (Str.ofString "nought"), .tuple [.str (Str.ofString "one")]], .tuple [.str (Str.ofString "not")], .tuple [.str (Str.ofString "not"), .tuple [.str (Str.ofString "one")], .tuple [.str (Str.ofString "one")]], .tuple [.str (Str.ofString "and"), .tuple [.str (Str.ofString "one")]], .tuple [.str (Str.ofString "or"), .tuple [.tuple [.str (Str.ofString "one")]]], .tuple [.str (Str.ofString "and"), .list [.tuple [.str (Str.ofString "one")], .tuple [.str (Str.ofString "one")]]], .tuple [.str (Str.ofString "or"), .tuple [.tuple [.str (Str.ofString "one")], .tuple [.str (Str.ofString "one")], .tuple [.str (Str.ofString "one")], .tuple [.str (Str.ofString "one")], .tuple [.str (Str.ofString "one")]]], .tuple [.str (Str.ofString "in")], .tuple [.str (Str.ofString "in"), .int (m : Nat)], .tuple [.str (Str.ofString "in"), .int ((m : Nat) - 1)], .tuple [.str (Str.ofString "in"), .int 0, .int 0], .tuple [.str (Str.ofString "xor"), .tuple [.tuple [.str (Str.ofString "one")], .tuple [.str (Str.ofString "one")]]], .none, .int 7, .bool true, .str (Str.ofString ""), .str (Str.ofString "one"), .tuple [], .list [], .dict [], .tuple [.tuple [.str (Str.ofString "one")]], .tuple [.none], .tuple [.str (Str.ofString "and"), .tuple []]] := by
      refine ShAll.cons one ?_
      refine ShAll.cons (.tup kt2 (.cons (.str _) (.cons (nilT kt1) .nil))) ?_
      refine ShAll.cons (.tup kt3 (.cons (.str _) (.cons one .nil))) ?_
      refine ShAll.cons (.tup kt4 (.cons (.str _) .nil)) ?_
      refine ShAll.cons (.tup kt5 (.cons (.str _) (.cons one (.cons one .nil)))) ?_
      refine ShAll.cons (.tup kt6 (.cons (.str _) (.cons one .nil))) ?_
      refine ShAll.cons (.tup kt8 (.cons (.str _) (.cons (.tup kt7 (.cons one .nil)) .nil))) ?_
      refine ShAll.cons (.tup kt9 (.cons (.str _) (.cons (.lst klA mlA (.cons one (.cons one .nil))) .nil))) ?_
      refine ShAll.cons (.tup kt12 (.cons (.str _) (.cons (.tup kt11 (.cons one (.cons one (.cons one (.cons one (.cons one .nil)))))) .nil))) ?_
      refine ShAll.cons (.tup kt13 (.cons (.str _) .nil)) ?_
      refine ShAll.cons (.tup kt14 (.cons (.str _) (.cons (.int _) .nil))) ?_
      refine ShAll.cons (.tup kt15 (.cons (.str _) (.cons (.int _) .nil))) ?_
      refine ShAll.cons (.tup kt16 (.cons (.str _) (.cons (.int _) (.cons (.int _) .nil)))) ?_
      refine ShAll.cons (.tup kt18 (.cons (.str _) (.cons (.tup kt17 (.cons one (.cons one .nil))) .nil))) ?_
      refine ShAll.cons .non ?_
      refine ShAll.cons (.int _) ?_
      refine ShAll.cons (.bl _) ?_
      refine ShAll.cons (.str _) ?_
      refine ShAll.cons (.str _) ?_
      refine ShAll.cons (nilT kc1) ?_
      refine ShAll.cons (.lst kc2 mc2 .nil) ?_
      refine ShAll.cons (.dic (kvs := []) kc3 .nil) ?_
      refine ShAll.cons (.tup kc4 (.cons one .nil)) ?_
      refine ShAll.cons (.tup kc5 (.cons .non .nil)) ?_
      refine ShAll.cons (.tup kc7 (.cons (.str _) (.cons (nilT kc6) .nil))) ?_
      exact .nil
    have fits : ∀ z ∈ ([.tuple [.str (Str.ofString "one")], .tuple [.str (Str.ofString "one"), .tuple []], .tuple [.str (Str.ofString "nought"), .tuple [.str (Str.ofString "one")]], .tuple [.str (Str.ofString "not")], .tuple [.str (Str.ofString "not"), .tuple [.str (Str.ofString "one")], .tuple [.str (Str.ofString "one")]], .tuple [.str (Str.ofString "and"), .tuple [.str (Str.ofString "one")]], .tuple [.str (Str.ofString "or"), .tuple [.tuple [.str (Str.ofString "one")]]], .tuple [.str (Str.ofString "and"), .list [.tuple [.str (Str.ofString "one")], .tuple [.str (Str.ofString "one")]]], .tuple [.str (Str.ofString "or"), .tuple [.tuple [.str (Str.ofString "one")], .tuple [.str (Str.ofString "one")], .tuple [.str (Str.ofString "one")], .tuple [.str (Str.ofString "one")], .tuple [.str (Str.ofString "one")]]], .tuple [.str (Str.ofString "in")], .tuple [.str (Str.ofString "in"), .int (m : Nat)], .tuple [.str (Str.ofString "in"), .int ((m : Nat) - 1)], .tuple [.str (Str.ofString "in"), .int 0, .int 0], .tuple [.str (Str.ofString "xor"), .tuple [.tuple [.str (Str.ofString "one")], .tuple [.str (Str.ofString "one")]]], .none, .int 7, .bool true, .str (Str.ofString ""), .str (Str.ofString "one"), .tuple [], .list [], .dict [], .tuple [.tuple [.str (Str.ofString "one")]], .tuple [.none], .tuple [.str (Str.ofString "and"), .tuple []]] : List PyData), Fit 200 200 10 z := by
      intro z hz
      simp only [List.mem_cons, List.not_mem_nil, or_false] at hz
      have m6' : m = 1 ∨ m = 2 ∨ m = 3 ∨ m = 4 ∨ m = 5 ∨ m = 6 := by omega
      rcases hz with rfl | rfl | rfl | rfl | rfl | rfl | rfl | rfl | rfl | rfl | rfl | rfl | rfl | rfl | rfl | rfl | rfl | rfl | rfl | rfl | rfl | rfl | rfl | rfl | rfl
      all_goals first
        | exact ⟨by decide +kernel, by decide +kernel, by decide +kernel⟩
        | (rcases m6' with rfl | rfl | rfl | rfl | rfl | rfl <;> exact ⟨by decide +kernel, by decide +kernel, by decide +kernel⟩)
    refine ⟨L5, rfl, ⟨_, SqL.of kL5⟩, for_list (K := K) (a := L5) (fun j σ H' => ∃ y7, σ = [some (.ref a), some (.ref d), y2, y3, some (.int (m : Nat)), y5, y6, y7, y8, some (.ref a1), some (.ref L3)] ∧ Gr Z H') ⟨_, rfl, Gr.refl⟩ (fun j σ H' _ ⟨_, _, g⟩ => SqL.of (g.lst kL5)) ?_ ?_⟩
    · rintro j x σ H7 hx ⟨y7, rfl, g7⟩
      obtain ⟨dd, hdd, shx⟩ := all.get hx
      refine ⟨.int (m : Nat), rfl, x, rfl, _, x, dd, 200, 200, 10, rfl, shx.gr g7, fits dd (List.mem_of_getElem? hdd), by decide, by decide, by decide, fun H8 g8 => ⟨_, rfl, iteF ?_⟩⟩
      exact ⟨_, rfl, g7.trans g8⟩
    rintro σ H7 ⟨y7, rfl, g7⟩
    exact q H7

end
def d_is_whole : He.DefD := ⟨("is_whole", none), "is_whole", "is_whole", defArgs s_is_whole, defBody s_is_whole, defScope s_is_whole, [], []⟩
def d_is_form : He.DefD := ⟨("is_form", none), "is_form", "is_form", defArgs s_is_form, defBody s_is_form, defScope s_is_form, [], []⟩
def d_is_outside : He.DefD := ⟨("is_outside", none), "is_outside", "is_outside", defArgs s_is_outside, defBody s_is_outside, defScope s_is_outside, [], []⟩
def d_inner_of : He.DefD := ⟨("inner_of", none), "inner_of", "inner_of", defArgs s_inner_of, defBody s_inner_of, defScope s_inner_of, [], []⟩
def d_deck : He.DefD := ⟨("_law_deck", none), "_law_deck", "_law_deck", defArgs s_deck, defBody s_deck, defScope s_deck, [], []⟩
def d_mixed : He.DefD := ⟨("_law_mixed", none), "_law_mixed", "_law_mixed", defArgs s_mixed, defBody s_mixed, defScope s_mixed, [], []⟩
def d_take : He.DefD := ⟨("_law_take", none), "_law_take", "_law_take", defArgs s_take, defBody s_take, defScope s_take, [], []⟩
def d_put : He.DefD := ⟨("_law_put", none), "_law_put", "_law_put", defArgs s_put, defBody s_put, defScope s_put, [], []⟩
def d_other : He.DefD := ⟨("_law_other", none), "_law_other", "_law_other", defArgs s_other, defBody s_other, defScope s_other, [], []⟩
def d_spoilt : He.DefD := ⟨("_law_spoilt", none), "_law_spoilt", "_law_spoilt", defArgs s_spoilt, defBody s_spoilt, defScope s_spoilt, [], []⟩
def d_form : He.DefD := ⟨("_law_form", none), "_law_form", "_law_form", defArgs s_form, defBody s_form, defScope s_form, [], []⟩
def d_inner : He.DefD := ⟨("_law_inner", none), "_law_inner", "_law_inner", defArgs s_inner, defBody s_inner, defScope s_inner, [], []⟩
def d_count : He.DefD := ⟨("_law_count", none), "_law_count", "_law_count", defArgs s_count, defBody s_count, defScope s_count, [], []⟩
def d_some_form : He.DefD := ⟨("_law_some_form", none), "_law_some_form", "_law_some_form", defArgs s_some_form, defBody s_some_form, defScope s_some_form, [], []⟩
def d_tower : He.DefD := ⟨("_law_tower", none), "_law_tower", "_law_tower", defArgs s_tower, defBody s_tower, defScope s_tower, [], []⟩
def d_whole : He.DefD := ⟨("_law_whole", none), "_law_whole", "_law_whole", defArgs s_whole, defBody s_whole, defScope s_whole, [], []⟩
def d_l_is_form : He.DefD := ⟨("_law_is_form", none), "_law_is_form", "_law_is_form", defArgs s_l_is_form, defBody s_l_is_form, defScope s_l_is_form, [], []⟩
def d_wide : He.DefD := ⟨("_law_wide", none), "_law_wide", "_law_wide", defArgs s_wide, defBody s_wide, defScope s_wide, [], []⟩
def d_nots : He.DefD := ⟨("_law_nots", none), "_law_nots", "_law_nots", defArgs s_nots, defBody s_nots, defScope s_nots, [], []⟩
def d_right : He.DefD := ⟨("_law_right", none), "_law_right", "_law_right", defArgs s_right, defBody s_right, defScope s_right, [], []⟩
def d_law : He.DefD := ⟨("law", none), "law", "law", defArgs s_law, defBody s_law, defScope s_law, [], []⟩
def fn : List He.DefD := [d_is_whole, d_is_form, d_is_outside, d_inner_of, d_deck, d_mixed, d_take, d_put, d_other, d_spoilt, d_form, d_inner, d_count, d_some_form, d_tower, d_whole, d_l_is_form, d_wide, d_nots, d_right, d_law]
def fa : List He.Fa := [.glo "is_whole", .glo "is_form", .glo "is_outside", .glo "inner_of", .glo "_law_deck", .glo "_law_mixed", .glo "_law_take", .glo "_law_put", .glo "_law_other", .glo "_law_spoilt", .glo "_law_form", .glo "_law_inner", .glo "_law_count", .glo "_law_some_form", .glo "_law_tower", .glo "_law_whole", .glo "_law_is_form", .glo "_law_wide", .glo "_law_nots", .glo "_law_right", .glo "law", .free "bool", .free "int", .free "isinstance", .free "len", .free "list", .free "range", .free "repr", .free "reversed", .free "str", .free "sum", .free "tuple", .int "LEAST_PARTS" 2, .int "MOST_PARTS" 4, .glo "STILL"]
def tf : List He.Defn := []
abbrev RR : PySem.W.OpenRow := PySem.W.OpenLaw.row PySem.Challenge.rw_glitchnet_k54_what_is_a_form
def yes : PySem.W.Frag → Bool := fun K => (KdS.kdB K "STILL" [(("one" : PySem.Str), KdS.Kv.i 1), (("nought" : PySem.Str), KdS.Kv.i 0)] && true)
def ts : List He.Tab := [(fun K => He.ga K "STILL", [("one" : PySem.Str), ("nought" : PySem.Str)])]
abbrev hk : PySem.W.Hook := He.hookX 4 fa fn ts tf yes
def ob (s : PySem.W.SharedT) : He.AlX := He.obsX 4 fa fn ts tf yes (HandSHeadRun.getT s)
theorem ob_eq (s : PySem.W.SharedT) : ob s = hk.obs s.abs := He.obsX_eq (HandSHeadRun.getT_eq s)
theorem run_false (w : World) : HandSHeadRun.RunEq RR (PySem.W.view RR.prog [26]) hk ob 3000 [("is_whole" : PySem.Str), ("LEAST_PARTS" : PySem.Str), ("MOST_PARTS" : PySem.Str), ("STILL" : PySem.Str), ("is_form" : PySem.Str), ("is_outside" : PySem.Str), ("inner_of" : PySem.Str), ("_law_deck" : PySem.Str), ("_law_mixed" : PySem.Str), ("_law_take" : PySem.Str), ("_law_put" : PySem.Str), ("_law_other" : PySem.Str), ("_law_spoilt" : PySem.Str), ("_law_form" : PySem.Str), ("_law_inner" : PySem.Str), ("_law_count" : PySem.Str), ("_law_some_form" : PySem.Str), ("_law_tower" : PySem.Str), ("_law_whole" : PySem.Str), ("_law_is_form" : PySem.Str), ("_law_wide" : PySem.Str), ("_law_nots" : PySem.Str), ("_law_right" : PySem.Str)] (w.withFollow "special-get-raises" false) := by
  intro os
  kernel_rfl
theorem run_true (w : World) : HandSHeadRun.RunEq RR (PySem.W.view RR.prog [26]) hk ob 3000 [("is_whole" : PySem.Str), ("LEAST_PARTS" : PySem.Str), ("MOST_PARTS" : PySem.Str), ("STILL" : PySem.Str), ("is_form" : PySem.Str), ("is_outside" : PySem.Str), ("inner_of" : PySem.Str), ("_law_deck" : PySem.Str), ("_law_mixed" : PySem.Str), ("_law_take" : PySem.Str), ("_law_put" : PySem.Str), ("_law_other" : PySem.Str), ("_law_spoilt" : PySem.Str), ("_law_form" : PySem.Str), ("_law_inner" : PySem.Str), ("_law_count" : PySem.Str), ("_law_some_form" : PySem.Str), ("_law_tower" : PySem.Str), ("_law_whole" : PySem.Str), ("_law_is_form" : PySem.Str), ("_law_wide" : PySem.Str), ("_law_nots" : PySem.Str), ("_law_right" : PySem.Str)] (w.withFollow "special-get-raises" true) := by
  intro os
  kernel_rfl
theorem run (w : World) : HandSHeadRun.RunEq RR (PySem.W.view RR.prog [26]) hk ob 3000 [("is_whole" : PySem.Str), ("LEAST_PARTS" : PySem.Str), ("MOST_PARTS" : PySem.Str), ("STILL" : PySem.Str), ("is_form" : PySem.Str), ("is_outside" : PySem.Str), ("inner_of" : PySem.Str), ("_law_deck" : PySem.Str), ("_law_mixed" : PySem.Str), ("_law_take" : PySem.Str), ("_law_put" : PySem.Str), ("_law_other" : PySem.Str), ("_law_spoilt" : PySem.Str), ("_law_form" : PySem.Str), ("_law_inner" : PySem.Str), ("_law_count" : PySem.Str), ("_law_some_form" : PySem.Str), ("_law_tower" : PySem.Str), ("_law_whole" : PySem.Str), ("_law_is_form" : PySem.Str), ("_law_wide" : PySem.Str), ("_law_nots" : PySem.Str), ("_law_right" : PySem.Str)] w := by
  have e := World.withFollow_self w "special-get-raises"
  cases hb : w.params.followText "special-get-raises" <;> rw [hb] at e
  · rw [← e]
    exact run_false w
  · rw [← e]
    exact run_true w
theorem facts {w : World} {K : PySem.W.Frag} {h : Heap} {mg : Str → Option Value} {f : Addr} (X : K.In h) (G : h.Ns mainGlobals mg) (hfa : mg ("law" : Str) = some (.ref f)) (c : He.SaysX fa fn ts tf yes w h K) : LawAtG PySem.Challenge.rw_glitchnet_k54_what_is_a_form w K CX0 30 63 "_law_script" mg f h := by
  obtain ⟨fd0, D0⟩ := c.t.d.def_ 0 (d := d_is_whole) rfl
  have F0 : Fun K "is_whole" "is_whole" s_is_whole (He.fAd K ("is_whole", none)) fd0 := fun_of D0
  have b0 := F0.binds (ps := ["thing"]) fun _ _ _ _ _ _ us hl => match us, hl with | [_], _ => rfl
  obtain ⟨fd1, D1⟩ := c.t.d.def_ 1 (d := d_is_form) rfl
  have F1 : Fun K "is_form" "is_form" s_is_form (He.fAd K ("is_form", none)) fd1 := fun_of D1
  have b1 := F1.binds (ps := ["many", "thing"]) fun _ _ _ _ _ _ us hl => match us, hl with | [_, _], _ => rfl
  obtain ⟨fd2, D2⟩ := c.t.d.def_ 2 (d := d_is_outside) rfl
  have F2 : Fun K "is_outside" "is_outside" s_is_outside (He.fAd K ("is_outside", none)) fd2 := fun_of D2
  have b2 := F2.binds (ps := ["many", "thing"]) fun _ _ _ _ _ _ us hl => match us, hl with | [_, _], _ => rfl
  obtain ⟨fd3, D3⟩ := c.t.d.def_ 3 (d := d_inner_of) rfl
  have F3 : Fun K "inner_of" "inner_of" s_inner_of (He.fAd K ("inner_of", none)) fd3 := fun_of D3
  have b3 := F3.binds (ps := ["form"]) fun _ _ _ _ _ _ us hl => match us, hl with | [_], _ => rfl
  obtain ⟨fd4, D4⟩ := c.t.d.def_ 4 (d := d_deck) rfl
  have F4 : Fun K "_law_deck" "_law_deck" s_deck (He.fAd K ("_law_deck", none)) fd4 := fun_of D4
  have b4 := F4.binds (ps := ["_law_script"]) fun _ _ _ _ _ _ us hl => match us, hl with | [_], _ => rfl
  obtain ⟨fd5, D5⟩ := c.t.d.def_ 5 (d := d_mixed) rfl
  have F5 : Fun K "_law_mixed" "_law_mixed" s_mixed (He.fAd K ("_law_mixed", none)) fd5 := fun_of D5
  have b5 := F5.binds (ps := ["_law_cell", "_law_k"]) fun _ _ _ _ _ _ us hl => match us, hl with | [_, _], _ => rfl
  obtain ⟨fd6, D6⟩ := c.t.d.def_ 6 (d := d_take) rfl
  have F6 : Fun K "_law_take" "_law_take" s_take (He.fAd K ("_law_take", none)) fd6 := fun_of D6
  have b6 := F6.binds (ps := ["_law_deck_here", "_law_most"]) fun _ _ _ _ _ _ us hl => match us, hl with | [_, _], _ => rfl
  obtain ⟨fd7, D7⟩ := c.t.d.def_ 7 (d := d_put) rfl
  have F7 : Fun K "_law_put" "_law_put" s_put (He.fAd K ("_law_put", none)) fd7 := fun_of D7
  have b7 := F7.binds (ps := ["_law_row", "_law_at", "_law_part"]) fun _ _ _ _ _ _ us hl => match us, hl with | [_, _, _], _ => rfl
  obtain ⟨fd8, D8⟩ := c.t.d.def_ 8 (d := d_other) rfl
  have F8 : Fun K "_law_other" "_law_other" s_other (He.fAd K ("_law_other", none)) fd8 := fun_of D8
  have b8 := F8.binds (ps := ["_law_deck_here", "_law_thing"]) fun _ _ _ _ _ _ us hl => match us, hl with | [_, _], _ => rfl
  obtain ⟨fd9, D9⟩ := c.t.d.def_ 9 (d := d_spoilt) rfl
  have F9 : Fun K "_law_spoilt" "_law_spoilt" s_spoilt (He.fAd K ("_law_spoilt", none)) fd9 := fun_of D9
  have b9 := F9.binds (ps := ["_law_deck_here", "_law_thing", "_law_deep"]) fun _ _ _ _ _ _ us hl => match us, hl with | [_, _, _], _ => rfl
  obtain ⟨fd10, D10⟩ := c.t.d.def_ 10 (d := d_form) rfl
  have F10 : Fun K "_law_form" "_law_form" s_form (He.fAd K ("_law_form", none)) fd10 := fun_of D10
  have b10 := F10.binds (ps := ["_law_deck_here", "_law_many", "_law_deep", "_law_left"]) fun _ _ _ _ _ _ us hl => match us, hl with | [_, _, _, _], _ => rfl
  obtain ⟨fd11, D11⟩ := c.t.d.def_ 11 (d := d_inner) rfl
  have F11 : Fun K "_law_inner" "_law_inner" s_inner (He.fAd K ("_law_inner", none)) fd11 := fun_of D11
  have b11 := F11.binds (ps := ["_law_form_here"]) fun _ _ _ _ _ _ us hl => match us, hl with | [_], _ => rfl
  obtain ⟨fd12, D12⟩ := c.t.d.def_ 12 (d := d_count) rfl
  have F12 : Fun K "_law_count" "_law_count" s_count (He.fAd K ("_law_count", none)) fd12 := fun_of D12
  have b12 := F12.binds (ps := ["_law_form_here"]) fun _ _ _ _ _ _ us hl => match us, hl with | [_], _ => rfl
  obtain ⟨fd13, D13⟩ := c.t.d.def_ 13 (d := d_some_form) rfl
  have F13 : Fun K "_law_some_form" "_law_some_form" s_some_form (He.fAd K ("_law_some_form", none)) fd13 := fun_of D13
  have b13 := F13.binds (ps := ["_law_deck_here", "_law_many"]) fun _ _ _ _ _ _ us hl => match us, hl with | [_, _], _ => rfl
  obtain ⟨fd14, D14⟩ := c.t.d.def_ 14 (d := d_tower) rfl
  have F14 : Fun K "_law_tower" "_law_tower" s_tower (He.fAd K ("_law_tower", none)) fd14 := fun_of D14
  have b14 := F14.binds (ps := ["_law_deck_here", "_law_many"]) fun _ _ _ _ _ _ us hl => match us, hl with | [_, _], _ => rfl
  obtain ⟨fd15, D15⟩ := c.t.d.def_ 15 (d := d_whole) rfl
  have F15 : Fun K "_law_whole" "_law_whole" s_whole (He.fAd K ("_law_whole", none)) fd15 := fun_of D15
  have b15 := F15.binds (ps := ["_law_thing"]) fun _ _ _ _ _ _ us hl => match us, hl with | [_], _ => rfl
  obtain ⟨fd16, D16⟩ := c.t.d.def_ 16 (d := d_l_is_form) rfl
  have F16 : Fun K "_law_is_form" "_law_is_form" s_l_is_form (He.fAd K ("_law_is_form", none)) fd16 := fun_of D16
  have b16 := F16.binds (ps := ["_law_many", "_law_thing"]) fun _ _ _ _ _ _ us hl => match us, hl with | [_, _], _ => rfl
  obtain ⟨fd17, D17⟩ := c.t.d.def_ 17 (d := d_wide) rfl
  have F17 : Fun K "_law_wide" "_law_wide" s_wide (He.fAd K ("_law_wide", none)) fd17 := fun_of D17
  have b17 := F17.binds (ps := ["_law_deck_here", "_law_many"]) fun _ _ _ _ _ _ us hl => match us, hl with | [_, _], _ => rfl
  obtain ⟨fd18, D18⟩ := c.t.d.def_ 18 (d := d_nots) rfl
  have F18 : Fun K "_law_nots" "_law_nots" s_nots (He.fAd K ("_law_nots", none)) fd18 := fun_of D18
  have b18 := F18.binds (ps := ["_law_deck_here", "_law_many"]) fun _ _ _ _ _ _ us hl => match us, hl with | [_, _], _ => rfl
  obtain ⟨fd19, D19⟩ := c.t.d.def_ 19 (d := d_right) rfl
  have F19 : Fun K "_law_right" "_law_right" s_right (He.fAd K ("_law_right", none)) fd19 := fun_of D19
  have b19 := F19.binds (ps := ["_law_many", "_law_thing"]) fun _ _ _ _ _ _ us hl => match us, hl with | [_, _], _ => rfl
  obtain ⟨fd20, D20⟩ := c.t.d.def_ 20 (d := d_law) rfl
  have F20 : Fun K "law" "law" s_law (He.fAd K ("law", none)) fd20 := fun_of D20
  have b20 := F20.binds (ps := ["_law_script"]) fun _ _ _ _ _ _ us hl => match us, hl with | [_], _ => rfl
  have mo := c.more
  obtain ⟨y0, mo⟩ := He.ba mo
  have e := hfa.symm.trans (He.glo_ok X G (c.t.d.fact 20 (f := .glo "law") rfl))
  cases e
  let T : Tx w K mg := { f_is_whole := _, fd_is_whole := _, F_is_whole := F0, g_is_whole := He.glo_ok X G (c.t.d.fact 0 (f := .glo "is_whole") rfl), b_is_whole := b0, f_is_form := _, fd_is_form := _, F_is_form := F1, g_is_form := He.glo_ok X G (c.t.d.fact 1 (f := .glo "is_form") rfl), b_is_form := b1, f_is_outside := _, fd_is_outside := _, F_is_outside := F2, g_is_outside := He.glo_ok X G (c.t.d.fact 2 (f := .glo "is_outside") rfl), b_is_outside := b2, f_inner_of := _, fd_inner_of := _, F_inner_of := F3, g_inner_of := He.glo_ok X G (c.t.d.fact 3 (f := .glo "inner_of") rfl), b_inner_of := b3, f_deck := _, fd_deck := _, F_deck := F4, g_deck := He.glo_ok X G (c.t.d.fact 4 (f := .glo "_law_deck") rfl), b_deck := b4, f_mixed := _, fd_mixed := _, F_mixed := F5, g_mixed := He.glo_ok X G (c.t.d.fact 5 (f := .glo "_law_mixed") rfl), b_mixed := b5, f_take := _, fd_take := _, F_take := F6, g_take := He.glo_ok X G (c.t.d.fact 6 (f := .glo "_law_take") rfl), b_take := b6, f_put := _, fd_put := _, F_put := F7, g_put := He.glo_ok X G (c.t.d.fact 7 (f := .glo "_law_put") rfl), b_put := b7, f_other := _, fd_other := _, F_other := F8, g_other := He.glo_ok X G (c.t.d.fact 8 (f := .glo "_law_other") rfl), b_other := b8, f_spoilt := _, fd_spoilt := _, F_spoilt := F9, g_spoilt := He.glo_ok X G (c.t.d.fact 9 (f := .glo "_law_spoilt") rfl), b_spoilt := b9, f_form := _, fd_form := _, F_form := F10, g_form := He.glo_ok X G (c.t.d.fact 10 (f := .glo "_law_form") rfl), b_form := b10, f_inner := _, fd_inner := _, F_inner := F11, g_inner := He.glo_ok X G (c.t.d.fact 11 (f := .glo "_law_inner") rfl), b_inner := b11, f_count := _, fd_count := _, F_count := F12, g_count := He.glo_ok X G (c.t.d.fact 12 (f := .glo "_law_count") rfl), b_count := b12, f_some_form := _, fd_some_form := _, F_some_form := F13, g_some_form := He.glo_ok X G (c.t.d.fact 13 (f := .glo "_law_some_form") rfl), b_some_form := b13, f_tower := _, fd_tower := _, F_tower := F14, g_tower := He.glo_ok X G (c.t.d.fact 14 (f := .glo "_law_tower") rfl), b_tower := b14, f_whole := _, fd_whole := _, F_whole := F15, g_whole := He.glo_ok X G (c.t.d.fact 15 (f := .glo "_law_whole") rfl), b_whole := b15, f_l_is_form := _, fd_l_is_form := _, F_l_is_form := F16, g_l_is_form := He.glo_ok X G (c.t.d.fact 16 (f := .glo "_law_is_form") rfl), b_l_is_form := b16, f_wide := _, fd_wide := _, F_wide := F17, g_wide := He.glo_ok X G (c.t.d.fact 17 (f := .glo "_law_wide") rfl), b_wide := b17, f_nots := _, fd_nots := _, F_nots := F18, g_nots := He.glo_ok X G (c.t.d.fact 18 (f := .glo "_law_nots") rfl), b_nots := b18, f_right := _, fd_right := _, F_right := F19, g_right := He.glo_ok X G (c.t.d.fact 19 (f := .glo "_law_right") rfl), b_right := b19, f_law := _, fd_law := _, F_law := F20, g_law := He.glo_ok X G (c.t.d.fact 20 (f := .glo "law") rfl), b_law := b20, m_bool := He.free_ok X G (c.t.d.fact 21 (f := .free "bool") rfl), m_int := He.free_ok X G (c.t.d.fact 22 (f := .free "int") rfl), m_isinstance := He.free_ok X G (c.t.d.fact 23 (f := .free "isinstance") rfl), m_len := He.free_ok X G (c.t.d.fact 24 (f := .free "len") rfl), m_list := He.free_ok X G (c.t.d.fact 25 (f := .free "list") rfl), m_range := He.free_ok X G (c.t.d.fact 26 (f := .free "range") rfl), m_repr := He.free_ok X G (c.t.d.fact 27 (f := .free "repr") rfl), m_reversed := He.free_ok X G (c.t.d.fact 28 (f := .free "reversed") rfl), m_str := He.free_ok X G (c.t.d.fact 29 (f := .free "str") rfl), m_sum := He.free_ok X G (c.t.d.fact 30 (f := .free "sum") rfl), m_tuple := He.free_ok X G (c.t.d.fact 31 (f := .free "tuple") rfl), k_LEAST_PARTS := He.int_ok X G (c.t.d.fact 32 (f := .int "LEAST_PARTS" 2) rfl), k_MOST_PARTS := He.int_ok X G (c.t.d.fact 33 (f := .int "MOST_PARTS" 4) rfl), A_STILL := _, gA_STILL := He.glo_ok X G (c.t.d.fact 34 (f := .glo "STILL") rfl), kd_STILL := c.t.tab 0, kv_STILL := KdS.kdB_ok y0 }
  refine ⟨fd20, tf.map (He.cT K), sp_law K T.tabs, ?_, ?_, ?_, ?_, ?_, ?_⟩
  · rintro p hp
    obtain ⟨d, hd, rfl⟩ := List.mem_map.mp hp
    exact c.empty d hd
  · rintro p hp
    obtain ⟨d, hd, rfl⟩ := List.mem_map.mp hp
    exact c.out d hd
  · rintro p hp
    obtain ⟨d, hd, rfl⟩ := List.mem_map.mp hp
    exact PySem.W.codeHd_of_K X (c.hd d hd)
  · obtain ⟨oc, od, kV, doc, pm, an, cdv, ct, osl, rfl, lk, hcd⟩ := F20.ex
    exact fun s v => .of_eq rfl
  · intro H a ns hl hbits hT hS
    refine ⟨a, ns, rfl, hS, hl, fun P hP => ?_, fun _ => rfl⟩
    have hP : P ∈ (tf.map (He.cT K)).map (·.2) := hP
    obtain ⟨p, hp, rfl⟩ := List.mem_map.mp hP
    exact ⟨#[], hT p hp, by trivial⟩
  · intro base KB GB hTB
    have B : Tb base T := ⟨⟩
    exact ok_law T B
end Gk
open PySem PySem.W PyProof.Rows
set_option maxRecDepth 100000 in
set_option maxHeartbeats 0 in
theorem PySem.Challenge.cw_glitchnet_k54_what_is_a_form_holds : PySem.Challenge.rw_glitchnet_k54_what_is_a_form.Holds := by
  w_on; o_law
  refine HandSHeadRun.head_any (r := OpenLaw.row PySem.Challenge.rw_glitchnet_k54_what_is_a_form) (q := view (OpenLaw.row PySem.Challenge.rw_glitchnet_k54_what_is_a_form).prog [26]) (H := Gk.hk) (ob := Gk.ob) (M := 3000) (loose := [("is_whole" : PySem.Str), ("LEAST_PARTS" : PySem.Str), ("MOST_PARTS" : PySem.Str), ("STILL" : PySem.Str), ("is_form" : PySem.Str), ("is_outside" : PySem.Str), ("inner_of" : PySem.Str), ("_law_deck" : PySem.Str), ("_law_mixed" : PySem.Str), ("_law_take" : PySem.Str), ("_law_put" : PySem.Str), ("_law_other" : PySem.Str), ("_law_spoilt" : PySem.Str), ("_law_form" : PySem.Str), ("_law_inner" : PySem.Str), ("_law_count" : PySem.Str), ("_law_some_form" : PySem.Str), ("_law_tower" : PySem.Str), ("_law_whole" : PySem.Str), ("_law_is_form" : PySem.Str), ("_law_wide" : PySem.Str), ("_law_nots" : PySem.Str), ("_law_right" : PySem.Str)]) (d := HandSHeadRun.topDef (OpenLaw.row PySem.Challenge.rw_glitchnet_k54_what_is_a_form).prog 26) (kwd := []) Gk.ob_eq
    (by kernel_rfl) (fun s => by kernel_rfl) Gk.run (by kernel_rfl) (by kernel_rfl) (by kernel_rfl) (by rfl) (by first | assumption | decide +kernel) (by decide +kernel) ⟨rfl, rfl, rfl, rfl, rfl, by decide +kernel⟩ ?hw ?hc
  case hw => w_witness2
  case hc =>
    refine Gk.walk_GT (l := PySem.Challenge.rw_glitchnet_k54_what_is_a_form) (n := 63) (k := 30) (x := "_law_script") (CX := fun _ => L2.CX0) rfl (by decide) (by kernel_rfl) ⟨rfl, by decide, by decide⟩ ?F (fun _ _ _ _ _ z => z)
    intro w mg fa h Y G hmg0
    obtain ⟨K, KX, c⟩ := Y
    have hmg : mg ("law" : PySem.Str) = some (.ref fa) := by
      have e : (HandSHeadRun.topDef (OpenLaw.row PySem.Challenge.rw_glitchnet_k54_what_is_a_form).prog 26).name = ("law" : PySem.Str) := by kernel_rfl
      rw [← e]
      exact hmg0
    exact ⟨K, KX, Gk.facts KX G hmg c⟩
