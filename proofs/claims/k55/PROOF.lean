import PyProof.Rows.All
import Wide.All
import OpenK.AllK
import Wide.FinOn
import HandS.ForMost
import HandS.IsInst
import HandS.TupLe
import HandS.TupAny
import HandS.TupMul
import HandS.More
import HandS.Codes
import HandS.Conv
import HandS.Deep
import HandS.TupSets
import HandS.Style
import HandS.Strs
import HandS.AnyAll
import HandS.GenList
import HandS.JoinGen
import HandS.Zip
import HandS.Rev
import HandS.SetFor
import HandS.FStr
import HandS.RevTup
import HandS.Head0
import HandS.Head1
import HandS.Head2
import HandS.HeadEnd
import HandS.HeadHook1
import HandS.HeadHook2
import HandS.HeadHook3
import HandS.HeadHook4
import HandS.HeadWalk
import HandS.Defaults
import HandS.ReplaceLit
import KE.KUnpackStar
import PyProof.ReprLen
import PyProof.ReprRoads
import PySem.Challenge.RW_glitchnet_k55_worths_parts_places
set_option Elab.async false
set_option linter.all false
set_option maxRecDepth 100000
set_option maxHeartbeats 1000000
namespace Gk
open PySem PySem.Spec PyProof.Rows L2
/-! ### a module's dict with texts as keys -/
namespace KdS
open PySem PySem.Spec PyProof.Rows L2
inductive Kv where
  | i (n : Int)
  | s (x : PySem.Str)
  | r
def Kv.ok : Kv → Value → Bool
  | .i n, .int j _ => decide (j = n)
  | .s x, .str y _ => decide (y = x)
  | .r, .ref _ => true
  | _, _ => false
def kvB : List (PySem.Str × Kv) → List DictEntry → Bool
  | [], [] => true
  | (k, v) :: r, e :: t => (match e.key with
    | .str x _ => decide (x = k)
    | _ => false) && (v.ok e.val && kvB r t)
  | _, _ => false
def kdB (K : PySem.W.Frag) (x : PySem.Str) (kvs : List (PySem.Str × Kv)) : Bool := match K.lookup (He.ga K x) with
  | some ⟨_, _, .dict es _, _⟩ => kvB kvs es.toList
  | _ => false
def find : List (PySem.Str × Kv) → PySem.Str → Option Kv
  | [], _ => none
  | (k, v) :: r, z => if k = z then some v else find r z
/-- what the dict has at a text -/
def At (K : PySem.W.Frag) (a : Addr) (kvs : List (PySem.Str × Kv)) (z : PySem.Str) : Prop := ∃ r : Option Value, PySem.W.nsIn K a z = some r ∧ ((∃ kv u, find kvs z = some kv ∧ r = some u ∧ kv.ok u = true) ∨ (find kvs z = none ∧ r = none))
theorem kv_find : ∀ {kvs : List (PySem.Str × Kv)} {es : List DictEntry}, kvB kvs es = true → ∀ z : PySem.Str, es.any (·.refKey) = false ∧
    ((∃ kv e, find kvs z = some kv ∧ es.find? (·.key.isStr z) = some e ∧ kv.ok e.val = true) ∨ (find kvs z = none ∧ es.find? (·.key.isStr z) = none))
  | [], [], _, z => ⟨rfl, .inr ⟨rfl, rfl⟩⟩
  | [], _ :: _, h, _ => by cases h
  | _ :: _, [], h, _ => by cases h
  | (k, v) :: r, e :: t, h, z => by
    unfold kvB at h
    obtain ⟨h1, h2⟩ := He.ba h
    obtain ⟨h3, h4⟩ := He.ba h2
    obtain ⟨i1, i2⟩ := kv_find h4 z
    obtain ⟨eh, ek, ev⟩ := e
    split at h1
    · rename_i x tk e1
      have e1 : ek = .str x tk := e1
      have h1 : x = k := of_decide_eq_true h1
      subst e1 h1
      refine ⟨?_, ?_⟩
      · rw [List.any_cons, i1, Bool.or_false]
        rfl
      · by_cases hz : x = z
        · refine .inl ⟨v, ⟨eh, .str x tk, ev⟩, if_pos hz, ?_, h3⟩
          rw [List.find?_cons_of_pos]
          show (Value.str x tk).isStr z = true
          subst hz
          exact decide_eq_true rfl
        · have nz : (Value.str x tk).isStr z = false := decide_eq_false hz
          rcases i2 with ⟨kv, e', f1, f2, f3⟩ | ⟨f1, f2⟩
          · refine .inl ⟨kv, e', (if_neg hz).trans f1, ?_, f3⟩
            rw [List.find?_cons_of_neg (by show ¬ (Value.str x tk).isStr z = true; rw [nz]; exact Bool.false_ne_true)]
            exact f2
          · refine .inr ⟨(if_neg hz).trans f1, ?_⟩
            rw [List.find?_cons_of_neg (by show ¬ (Value.str x tk).isStr z = true; rw [nz]; exact Bool.false_ne_true)]
            exact f2
    · cases h1
theorem kdB_ok {K : PySem.W.Frag} {x : PySem.Str} {kvs : List (PySem.Str × Kv)} (h : kdB K x kvs = true) (z : PySem.Str) : At K (He.ga K x) kvs z := by
  unfold kdB at h
  split at h
  · rename_i es n sl e
    obtain ⟨h1, h2⟩ := kv_find h z
    unfold At PySem.W.nsIn
    rw [e]
    dsimp only
    rcases h2 with ⟨kv, e', f1, f2, f3⟩ | ⟨f1, f2⟩
    · rw [f2]
      exact ⟨_, rfl, .inl ⟨kv, _, f1, rfl, f3⟩⟩
    · rw [f2]
      dsimp only
      rw [h1]
      exact ⟨none, rfl, .inr ⟨f1, rfl⟩⟩
  · cases h
end KdS

/-! ### the text -/
def topS (i : Nat) : Stmt := PySem.Challenge.pw_glitchnet_k55_worths_parts_places.main.body.getD i (.Pass ⟨0, 0, 0, 0⟩)
abbrev s_is_whole : Stmt := topS 1
abbrev s_inner_of : Stmt := topS 4
abbrev s_worth_of : Stmt := topS 5
abbrev s_still_worth : Stmt := topS 6
abbrev s_parts_in : Stmt := topS 7
abbrev s_levels_of : Stmt := topS 8
abbrev s_form_at : Stmt := topS 9
abbrev s_deck : Stmt := topS 11
abbrev s_mixed : Stmt := topS 12
abbrev s_take : Stmt := topS 13
abbrev s_form : Stmt := topS 14
abbrev s_inner : Stmt := topS 15
abbrev s_count : Stmt := topS 16
abbrev s_some_form : Stmt := topS 17
abbrev s_tower : Stmt := topS 18
abbrev s_worth : Stmt := topS 19
abbrev s_rows : Stmt := topS 20
abbrev s_places : Stmt := topS 21
abbrev s_places_right : Stmt := topS 22
abbrev s_law : Stmt := topS 23
theorem sc_is_whole : FnScope ["thing"] ["thing"] (defScope s_is_whole) := ⟨rfl, rfl, rfl, by decide +kernel, rfl, by decide +kernel, by decide +kernel⟩
theorem sc_inner_of : FnScope ["form"] ["form"] (defScope s_inner_of) := ⟨rfl, rfl, rfl, by decide +kernel, rfl, by decide +kernel, by decide +kernel⟩
theorem sc_worth_of : FnScope ["form", "row", "head", "still", "worths", "part"] ["form", "row"] (defScope s_worth_of) := ⟨rfl, rfl, rfl, by decide +kernel, rfl, by decide +kernel, by decide +kernel⟩
theorem sc_still_worth : FnScope ["form"] ["form"] (defScope s_still_worth) := ⟨rfl, rfl, rfl, by decide +kernel, rfl, by decide +kernel, by decide +kernel⟩
theorem sc_parts_in : FnScope ["form", "level"] ["form"] (defScope s_parts_in) := ⟨rfl, rfl, rfl, by decide +kernel, rfl, by decide +kernel, by decide +kernel⟩
theorem sc_levels_of : FnScope ["form", "levels", "level", "above", "part"] ["form"] (defScope s_levels_of) := ⟨rfl, rfl, rfl, by decide +kernel, rfl, by decide +kernel, by decide +kernel⟩
theorem sc_form_at : FnScope ["form", "place", "part", "number", "inner"] ["form", "place"] (defScope s_form_at) := ⟨rfl, rfl, rfl, by decide +kernel, rfl, by decide +kernel, by decide +kernel⟩
theorem sc_deck : FnScope ["_law_script"] ["_law_script"] (defScope s_deck) := ⟨rfl, rfl, rfl, by decide +kernel, rfl, by decide +kernel, by decide +kernel⟩
theorem sc_mixed : FnScope ["_law_cell", "_law_k", "_law_number"] ["_law_cell", "_law_k"] (defScope s_mixed) := ⟨rfl, rfl, rfl, by decide +kernel, rfl, by decide +kernel, by decide +kernel⟩
theorem sc_take : FnScope ["_law_deck_here", "_law_most", "_law_cells", "_law_cell"] ["_law_deck_here", "_law_most"] (defScope s_take) := ⟨rfl, rfl, rfl, by decide +kernel, rfl, by decide +kernel, by decide +kernel⟩
theorem sc_form : FnScope ["_law_deck_here", "_law_many", "_law_deep", "_law_left", "_law_way", "_law_fixed", "_law_word", "_law_parts", "_law_k"] ["_law_deck_here", "_law_many", "_law_deep", "_law_left"] (defScope s_form) := ⟨rfl, rfl, rfl, by decide +kernel, rfl, by decide +kernel, by decide +kernel⟩
theorem sc_inner : FnScope ["_law_form_here"] ["_law_form_here"] (defScope s_inner) := ⟨rfl, rfl, rfl, by decide +kernel, rfl, by decide +kernel, by decide +kernel⟩
theorem sc_count : FnScope ["_law_form_here", "_law_part"] ["_law_form_here"] (defScope s_count) := ⟨rfl, rfl, rfl, by decide +kernel, rfl, by decide +kernel, by decide +kernel⟩
theorem sc_some_form : FnScope ["_law_deck_here", "_law_many", "_law_way", "_law_found"] ["_law_deck_here", "_law_many"] (defScope s_some_form) := ⟨rfl, rfl, rfl, by decide +kernel, rfl, by decide +kernel, by decide +kernel⟩
theorem sc_tower : FnScope ["_law_deck_here", "_law_many", "_law_found", "_law_k", "_law_way", "_law_leaf", "_law_third", "_law_some"] ["_law_deck_here", "_law_many"] (defScope s_tower) := ⟨rfl, rfl, rfl, by decide +kernel, rfl, by decide +kernel, by decide +kernel⟩
theorem sc_worth : FnScope ["_law_form_here", "_law_row", "_law_word", "_law_told", "_law_part"] ["_law_form_here", "_law_row"] (defScope s_worth) := ⟨rfl, rfl, rfl, by decide +kernel, rfl, by decide +kernel, by decide +kernel⟩
theorem sc_rows : FnScope ["_law_deck_here", "_law_many", "_law_found", "_law_k", "_law_turn", "_law_row"] ["_law_deck_here", "_law_many"] (defScope s_rows) := ⟨rfl, rfl, rfl, by decide +kernel, rfl, by decide +kernel, by decide +kernel⟩
theorem sc_places : FnScope ["_law_form_here", "_law_found", "_law_waiting", "_law_place", "_law_here", "_law_k", "_law_part"] ["_law_form_here"] (defScope s_places) := ⟨rfl, rfl, rfl, by decide +kernel, rfl, by decide +kernel, by decide +kernel⟩
theorem sc_places_right : FnScope ["_law_form_here", "_law_place", "_law_here", "_law_many"] ["_law_form_here"] (defScope s_places_right) := ⟨rfl, rfl, rfl, by decide +kernel, rfl, by decide +kernel, by decide +kernel⟩
theorem sc_law : FnScope ["_law_script", "_law_deck_here", "_law_turn", "_law_many", "_law_form_here", "_law_row"] ["_law_script"] (defScope s_law) := ⟨rfl, rfl, rfl, by decide +kernel, rfl, by decide +kernel, by decide +kernel⟩
structure Tx (w : World) (K : PySem.W.Frag) (mg : Str → Option Value) where
  f_is_whole : Addr
  fd_is_whole : FuncData
  F_is_whole : Fun K "is_whole" "is_whole" s_is_whole f_is_whole fd_is_whole
  g_is_whole : mg "is_whole" = some (.ref f_is_whole)
  b_is_whole : Binds K fd_is_whole ["thing"] []
  f_inner_of : Addr
  fd_inner_of : FuncData
  F_inner_of : Fun K "inner_of" "inner_of" s_inner_of f_inner_of fd_inner_of
  g_inner_of : mg "inner_of" = some (.ref f_inner_of)
  b_inner_of : Binds K fd_inner_of ["form"] []
  f_worth_of : Addr
  fd_worth_of : FuncData
  F_worth_of : Fun K "worth_of" "worth_of" s_worth_of f_worth_of fd_worth_of
  g_worth_of : mg "worth_of" = some (.ref f_worth_of)
  b_worth_of : Binds K fd_worth_of ["form", "row"] []
  f_still_worth : Addr
  fd_still_worth : FuncData
  F_still_worth : Fun K "still_worth" "still_worth" s_still_worth f_still_worth fd_still_worth
  g_still_worth : mg "still_worth" = some (.ref f_still_worth)
  b_still_worth : Binds K fd_still_worth ["form"] []
  f_parts_in : Addr
  fd_parts_in : FuncData
  F_parts_in : Fun K "parts_in" "parts_in" s_parts_in f_parts_in fd_parts_in
  g_parts_in : mg "parts_in" = some (.ref f_parts_in)
  b_parts_in : Binds K fd_parts_in ["form"] []
  c_parts_in : Addr
  P_parts_in : Addr
  cd_parts_in : fd_parts_in.code = .ref c_parts_in
  f_levels_of : Addr
  fd_levels_of : FuncData
  F_levels_of : Fun K "levels_of" "levels_of" s_levels_of f_levels_of fd_levels_of
  g_levels_of : mg "levels_of" = some (.ref f_levels_of)
  b_levels_of : Binds K fd_levels_of ["form"] []
  f_form_at : Addr
  fd_form_at : FuncData
  F_form_at : Fun K "form_at" "form_at" s_form_at f_form_at fd_form_at
  g_form_at : mg "form_at" = some (.ref f_form_at)
  b_form_at : Binds K fd_form_at ["form", "place"] []
  f_deck : Addr
  fd_deck : FuncData
  F_deck : Fun K "_law_deck" "_law_deck" s_deck f_deck fd_deck
  g_deck : mg "_law_deck" = some (.ref f_deck)
  b_deck : Binds K fd_deck ["_law_script"] []
  f_mixed : Addr
  fd_mixed : FuncData
  F_mixed : Fun K "_law_mixed" "_law_mixed" s_mixed f_mixed fd_mixed
  g_mixed : mg "_law_mixed" = some (.ref f_mixed)
  b_mixed : Binds K fd_mixed ["_law_cell", "_law_k"] []
  f_take : Addr
  fd_take : FuncData
  F_take : Fun K "_law_take" "_law_take" s_take f_take fd_take
  g_take : mg "_law_take" = some (.ref f_take)
  b_take : Binds K fd_take ["_law_deck_here", "_law_most"] []
  f_form : Addr
  fd_form : FuncData
  F_form : Fun K "_law_form" "_law_form" s_form f_form fd_form
  g_form : mg "_law_form" = some (.ref f_form)
  b_form : Binds K fd_form ["_law_deck_here", "_law_many", "_law_deep", "_law_left"] []
  f_inner : Addr
  fd_inner : FuncData
  F_inner : Fun K "_law_inner" "_law_inner" s_inner f_inner fd_inner
  g_inner : mg "_law_inner" = some (.ref f_inner)
  b_inner : Binds K fd_inner ["_law_form_here"] []
  f_count : Addr
  fd_count : FuncData
  F_count : Fun K "_law_count" "_law_count" s_count f_count fd_count
  g_count : mg "_law_count" = some (.ref f_count)
  b_count : Binds K fd_count ["_law_form_here"] []
  f_some_form : Addr
  fd_some_form : FuncData
  F_some_form : Fun K "_law_some_form" "_law_some_form" s_some_form f_some_form fd_some_form
  g_some_form : mg "_law_some_form" = some (.ref f_some_form)
  b_some_form : Binds K fd_some_form ["_law_deck_here", "_law_many"] []
  f_tower : Addr
  fd_tower : FuncData
  F_tower : Fun K "_law_tower" "_law_tower" s_tower f_tower fd_tower
  g_tower : mg "_law_tower" = some (.ref f_tower)
  b_tower : Binds K fd_tower ["_law_deck_here", "_law_many"] []
  f_worth : Addr
  fd_worth : FuncData
  F_worth : Fun K "_law_worth" "_law_worth" s_worth f_worth fd_worth
  g_worth : mg "_law_worth" = some (.ref f_worth)
  b_worth : Binds K fd_worth ["_law_form_here", "_law_row"] []
  f_rows : Addr
  fd_rows : FuncData
  F_rows : Fun K "_law_rows" "_law_rows" s_rows f_rows fd_rows
  g_rows : mg "_law_rows" = some (.ref f_rows)
  b_rows : Binds K fd_rows ["_law_deck_here", "_law_many"] []
  f_places : Addr
  fd_places : FuncData
  F_places : Fun K "_law_places" "_law_places" s_places f_places fd_places
  g_places : mg "_law_places" = some (.ref f_places)
  b_places : Binds K fd_places ["_law_form_here"] []
  f_places_right : Addr
  fd_places_right : FuncData
  F_places_right : Fun K "_law_places_right" "_law_places_right" s_places_right f_places_right fd_places_right
  g_places_right : mg "_law_places_right" = some (.ref f_places_right)
  b_places_right : Binds K fd_places_right ["_law_form_here"] []
  f_law : Addr
  fd_law : FuncData
  F_law : Fun K "law" "law" s_law f_law fd_law
  g_law : mg "law" = some (.ref f_law)
  b_law : Binds K fd_law ["_law_script"] []
  m_bool : mg "bool" = none
  m_enumerate : mg "enumerate" = none
  m_int : mg "int" = none
  m_isinstance : mg "isinstance" = none
  m_len : mg "len" = none
  m_list : mg "list" = none
  m_max : mg "max" = none
  m_min : mg "min" = none
  m_range : mg "range" = none
  m_repr : mg "repr" = none
  m_reversed : mg "reversed" = none
  m_sum : mg "sum" = none
  m_tuple : mg "tuple" = none
  A_STILL : Addr
  gA_STILL : mg "STILL" = some (.ref A_STILL)
  kd_STILL : ∃ es n, KDict K w A_STILL es n
  kv_STILL : ∀ z : PySem.Str, KdS.At K A_STILL [(("one" : PySem.Str), KdS.Kv.i 1), (("nought" : PySem.Str), KdS.Kv.i 0)] z
structure Tb (base : Heap) {w : World} {K : PySem.W.Frag} {mg : Str → Option Value} (T : Tx w K mg) : Prop where
  TB_parts_in : GxR.TabB base mg T.c_parts_in T.P_parts_in
def Tx.tabs {w : World} {K : PySem.W.Frag} {mg : Str → Option Value} (T : Tx w K mg) : List Addr := [T.P_parts_in]
/-! ### generator expressions whose elements may call -/
theorem inv_moved {X : Cx} {cp : List (Addr × Obj)} {σ : L2.St} {H : Hp} {s s' : Shared} (I : Inv X cp σ H s) (os : s'.os = s.os) (bare : AllBare s'.gens) (k : ∀ b o, s.heap.get? b = some o → s'.heap.get? b = some o) : Inv X cp σ H s' :=
  I.call' (ch := []) os (Un.kept k) (I.hok.kept k) bare fun b hb => absurd hb (by simp)
/-- the context of a generator expression's frame: C its frame, s, H the entry, fp its iterator's objects -/
abbrev gblk (X : Cx) (A : Around) (s : Shared) (H : Hp) (cenv : Env) (fp : List Addr) : Cx :=
  { X with A := A, s_0 := s, H_0 := H, env := cenv, outer := X.stack, stack := cenv :: X.stack, ex := fp, fn := fun _ => false, pn := [], xe := fun _ _ => False }
section
variable {X : Cx} {pins : List (Addr × Obj)} {σ : L2.St} {H : Hp} {s : Shared}
theorem gen_start {scope : Scope} {own : List (Str × Nat)} {fp : List Addr} {A : Around} {code it : Value} {s5 : Shared} {cp : List (Addr × Obj)}
    (I : Inv X pins σ H s) (ok : BlkOk X.N X.env.scope scope own) (nocell : ∀ y ∈ scope.names, y.2 ≠ .cell) (hN : X.N.Nodup) (hfp : ∀ b ∈ fp, FpOk X pins H b ∧ b < s.heap.objs.size)
    (hh : A.handled = none) (hfr : A.frames = some (genEnv scope (cloFrom X.env.cells scope.names []) s.heap.objs.size code builtinsNs X.env :: X.stack))
    (os : s5.os = s.os) (bare : AllBare s5.gens) (kp : ∀ b o, s.heap.get? b = some o → s5.heap.get? b = some o)
    (hns : s5.heap.Ns s.heap.objs.size fun y => if y = ".0" then some it else none)
    (hcp : ∀ p ∈ cp, s.heap.objs.size < p.1 ∧ s5.heap.get? p.1 = some p.2 ∧ ∀ v, p.2.data ≠ .cell v) :
    Inv (gblk X A s H (genEnv scope (cloFrom X.env.cells scope.names []) s.heap.objs.size code builtinsNs X.env) fp) cp (wipe σ (own.map (·.2))) H s5 := by
  have hfree : ∀ y ∈ scope.names, y.2 = .free → ∃ c, X.env.cells.lookup y.1 = some c := fun y hy e => by
    rcases ok.free y hy e with k | k
    · exact I.ok.has _ (.inl k)
    · exact I.ok.has _ (.inr k)
  generalize hcenv : genEnv scope (cloFrom X.env.cells scope.names []) s.heap.objs.size code builtinsNs X.env = cenv at hfr ⊢
  have hL : cenv.locals = s.heap.objs.size := by rw [← hcenv]; rfl
  have hcl : cenv.cells = cloFrom X.env.cells scope.names [] := by rw [← hcenv]; rfl
  have hsc : cenv.scope = scope := by rw [← hcenv]; rfl
  have cm : ∀ {y c}, (y, c) ∈ cloFrom X.env.cells scope.names [] → X.env.cells.lookup y = some c ∧ c < s.heap.objs.size := fun {y c} hm => by
    rcases cloFrom_mem hm with hm | ⟨h1, rfl⟩
    · cases hm
    · obtain ⟨c, hc⟩ := hfree _ h1 rfl
      rw [hc]
      obtain ⟨w, z⟩ := I.cell _ _ hc
      exact ⟨rfl, z.lt⟩
  have mem : ∀ {y c}, cenv.cells.lookup y = some c → X.env.cells.lookup y = some c ∧ c < s.heap.objs.size := fun {y c} e => by
    rw [hcl] at e
    exact cm (PySem.mem_of_lookup e)
  have look : ∀ {y}, scope.names.lookup y = some .free → ∃ c, cenv.cells.lookup y = some c ∧ X.env.cells.lookup y = some c := fun {y} hl => by
    have hy : (y, NameKind.free) ∈ scope.names := PySem.mem_of_lookup hl
    obtain ⟨c', e'⟩ := mem_lookup (cloFrom_has (cells := X.env.cells) (acc := []) hy)
    rw [← hcl] at e'
    exact ⟨c', e', (mem e').1⟩
  have okB : (gblk X A s H cenv fp).Ok := by
    refine ⟨I.ok.mod, by show cenv.scope.kind = _; rw [hsc]; exact ok.kind, by show cenv.globals = _; rw [← hcenv]; exact I.ok.glob, by show cenv.builtins = _; rw [← hcenv]; rfl, by show s.heap.objs.size ≤ cenv.locals; rw [hL]; exact Nat.le_refl _,
      fun y z c e1 e2 => I.ok.inj y z c (mem e1).1 (mem e2).1, fun y hy => ?_, fun y c z e => (by cases z), fun _ => hh, hfr, .inr ⟨rfl, by show cenv.frame = some cenv.locals; rw [← hcenv]; rfl⟩, fun b hb => ⟨?_, fun y c e z => ?_⟩, I.bs, Nat.le_trans I.ok.bsz I.sz, fun b o e hb => ?_, fun b hb z => ?_, I.stack, I.stkFree⟩
    · have hy' : scope.names.lookup y = some .cell ∨ scope.names.lookup y = some .free := by
        rw [← hsc]
        exact hy
      rcases hy' with e | e
      · exact absurd rfl (nocell _ (PySem.mem_of_lookup e))
      · obtain ⟨c, h1, _⟩ := look e
        exact ⟨c, h1⟩
    · show b ≠ cenv.locals
      rw [hL]; exact Nat.ne_of_lt (hfp b hb).2
    · exact (hfp b hb).1.2.2.2.2.1 y c (mem e).1 z
    · rcases (hfp b hb).1.2.2.2.1 with z | z
      · exact I.ok.noex b o e z
      · exact absurd (Nat.lt_of_lt_of_le (Heap.lt_size e) (Nat.le_trans I.ok.bsz z)) (Nat.lt_irrefl _)
    · rcases List.mem_cons.mp (I.stkSub b z) with z | z
      · exact (hfp b hb).1.2.1 z
      · exact (hfp b hb).1.2.2.1 z
  refine ⟨okB, os, bare, Un.kept kp, ⟨_, (by show s5.heap.Ns cenv.locals _; rw [hL]; exact hns), fun i y av e1 e2 e3 => ?_⟩, fun y c e => ?_, ?_, fun y c e => I.freeC y c (mem e).1, fun p hp => ?_, I.hok.kept kp, by rw [wipe_length]; exact I.len⟩
  · obtain ⟨e2, hne⟩ := wipe_some e2
    have e3 : Vis scope y := by rw [← hsc]; exact e3
    have no : ∀ k, scope.names.lookup y = some k → ¬ (k = .local ∨ k = .cell) := fun k e hh => by
      rcases ok.own _ (PySem.mem_of_lookup e) hh with e' | e'
      · obtain ⟨p, hp, hpy⟩ := List.mem_map.mp e'
        have e3 := ok.ix p hp
        have : p.1 = y := hpy
        rw [this] at e3
        exact hne (List.mem_map.mpr ⟨p, hp, nodup_ix hN e3 e1⟩)
      · exact e' (List.mem_of_getElem? e1)
    have hfr2 : scope.names.lookup y = some .free := by
      rcases e3 with e | e | e
      · exact absurd (.inl rfl) (no _ e)
      · exact absurd (.inr rfl) (no _ e)
      · exact e
    obtain ⟨m, hn, hl⟩ := I.loc
    have hvis : Vis X.env.scope y := (ok.free _ (PySem.mem_of_lookup hfr2) rfl).elim (fun k => .inr (.inl k)) (fun k => .inr (.inr k))
    obtain ⟨w, r, q⟩ := hl i y av e1 e2 hvis
    refine ⟨w, r, .inr ⟨.inr (by show cenv.scope.names.lookup y = some .free; rw [hsc]; exact hfr2), ?_⟩⟩
    obtain ⟨c, h1, h2⟩ := look hfr2
    rcases q with ⟨k, _⟩ | ⟨_, c', e', z⟩
    · have k : X.env.scope.names.lookup y = some .local := k
      rcases ok.free _ (PySem.mem_of_lookup hfr2) rfl with k' | k' <;> rw [show X.env.scope.names.lookup y = _ from k'] at k <;> cases k
    · rw [h2] at e'; cases e'
      exact ⟨c, h1, z.keeps kp⟩
  · obtain ⟨w, z⟩ := I.cell y c (mem e).1
    exact ⟨w, z.keeps kp⟩
  · show H cenv.locals = none
    rw [hL]; exact I.hok.fresh (Nat.le_refl _)
  · have hp : p ∈ cp := by simpa using hp
    obtain ⟨h1, h2, h3⟩ := hcp p hp
    refine ⟨h2, I.hok.fresh (Nat.le_of_lt h1), by show p.1 ≠ cenv.locals; rw [hL]; exact Nat.ne_of_gt h1, fun z => ?_, h3⟩
    rcases List.mem_cons.mp (I.stkSub _ z) with z | z
    · exact absurd (Nat.lt_trans I.lt h1) (by rw [z]; exact Nat.lt_irrefl _)
    · exact I.nofs (Nat.le_of_lt h1) z
end
/-! ### the talk of a generator and who asks it -/
section
variable {α : Type}
/-- handed out: x; the asker's state a (laid down in the pins cp) goes to one with Nx -/
def YG (Xg : Cx) (fp : List Addr) (tn : Nat → Heap → Prop) (AC : α → List (Addr × Obj) → Prop) (Yd : α → V → Hp → (α → Hp → Prop) → Prop) : Protocol := fun _ s0 v s kap =>
  ∃ (a : α) (x : V) (σ : L2.St) (H : Hp) (i : Nat) (cp : List (Addr × Obj)) (Nx : α → Hp → Prop), RelV x v ∧ AC a cp ∧ (∀ p ∈ cp, s0.heap.get? p.1 = some p.2) ∧ Inv Xg cp σ H s ∧ tn i s.heap ∧ (∀ b ∈ fp, H b = none) ∧ Yd a x H Nx ∧
    ∀ a' cp' s', Nx a' H → AC a' cp' → Inv Xg cp' σ H s' → tn i s'.heap → kap (.send .none) s'
def RG (Xg : Cx) (AC : α → List (Addr × Obj) → Prop) (End : α → Hp → Prop) : GenEnd := fun _ s0 r s =>
  ((r = .ok (.ret .none) ∨ r = .ok .next) ∧ ∃ (a : α) (σ : L2.St) (H : Hp) (cp : List (Addr × Obj)), AC a cp ∧ (∀ p ∈ cp, s0.heap.get? p.1 = some p.2) ∧ Inv Xg cp σ H s ∧ End a H) ∨ ∃ e, r = .error e ∧ False
/-- a generator's turns -/
def tGx (J : It) (g : TG) (tt : TT) (te : TE) (σ0 : L2.St) (vs : List Nat) (End : α → Hp → Prop) (Yd : α → V → Hp → (α → Hp → Prop) → Prop) (W : Nat → Nat → α → Hp → Prop) : Prop :=
  ∀ i m a H, W i m a H → (J.stop i H ∧ End a H) ∨ (J.go i H ∧ ∃ Nx : α → Hp → Prop, (∀ a' H', Nx a' H' → ∃ m', m' < m ∧ W (i + 1) m' a' H') ∧
    ∀ x H', J.yld i H x H' → g x σ0 H' fun σ2 H2 => wipe σ2 vs = σ0 ∧ tt σ2 H2 fun b H3 => if b = true then te σ2 H3 fun y H4 => Yd a y H4 Nx else Nx a H3)
theorem wipe_wipe_some {σ σ2 : L2.St} {vs : List Nat} (h : wipe σ2 vs = σ) : ∀ (j : Nat) v, σ[j]? = some (some v) → σ2[j]? = some (some v) := fun j v e => by
  rw [← h] at e
  exact (wipe_some e).1
theorem seg_gx {X : Cx} {A A' : Around} {s_0 : Shared} {H_0 : Hp} {elt tg iter : Expr} {ifs : List Expr} {scope : Scope} {pos : Pos} {it : Addr} {fp : List Addr} {tn : Nat → Heap → Prop} {J : It} {cenv : Env} {g : TG} {tt : TT} {te : TE} {σ0 : L2.St} {vs : List Nat}
    {AC : α → List (Addr × Obj) → Prop} {End : α → Hp → Prop} {Yd : α → V → Hp → (α → Hp → Prop) → Prop} {W : Nat → Nat → α → Hp → Prop}
    (hA : A.over (.compLoop (.GeneratorExp elt [⟨tg, iter, ifs, 0⟩] scope pos) 0 (.ref it) .none cenv) [] = A') (hc : X.calm = true) (hco : cenv.scope.isCoroutine = false)
    (T : Turn X.prog X.w X.K tg J fp it tn) (pg : PG (gblk X A' s_0 H_0 cenv fp) tg g) (pt : PTs (gblk X A' s_0 H_0 cenv fp) ifs tt) (pe : PE (gblk X A' s_0 H_0 cenv fp) elt te)
    (hAC : ∀ a cp, AC a cp → ∀ p ∈ cp, ∀ b ∈ fp, p.1 ≠ b) (turn : tGx J g tt te σ0 vs End Yd W) :
    ∀ (m n i : Nat) (a : α) (H : Hp) (s₀ s : Shared) (cp : List (Addr × Obj)), m < n → W i m a H → AC a cp → (∀ p ∈ cp, s₀.heap.get? p.1 = some p.2) → Inv (gblk X A' s_0 H_0 cenv fp) cp σ0 H s → tn i s.heap → (∀ b ∈ fp, H b = none) →
      Seg (model X.prog X.w) A (RG (gblk X A' s_0 H_0 cenv fp) AC End) (YG (gblk X A' s_0 H_0 cenv fp) fp tn AC Yd) n s₀
        (.compLoop (.GeneratorExp elt [⟨tg, iter, ifs, 0⟩] scope pos) 0 (.ref it) .none cenv)
        ((model X.prog X.w).den (.compLoop (.GeneratorExp elt [⟨tg, iter, ifs, 0⟩] scope pos) 0 (.ref it) .none cenv)) [] s := by
  have stat : ∀ {a : α} {cp : List (Addr × Obj)} {σ' : L2.St} {H' : Hp} {s' : Shared}, AC a cp → Inv (gblk X A' s_0 H_0 cenv fp) cp σ' H' s' → (∀ b ∈ fp, H' b = none) → ∀ b ∈ fp, FpOk (gblk X A' s_0 H_0 cenv fp) cp H' b := fun {a cp σ' H' s'} hac I' hn b hb =>
    ⟨hn b hb, (I'.ok.exf b hb).1, I'.ok.exfs b hb, .inl hb, fun x c e => (I'.ok.exf b hb).2 x c e, fun p hp => hAC a cp hac p (by simpa using hp) b hb⟩
  intro m
  induction m using Nat.strongRecOn with
  | ind m ih =>
    intro n i a H s₀ s cp hmn w hac tie I st nf
    show Seg _ A _ _ _ s₀ _ ((compTurn (.GeneratorExp elt [⟨tg, iter, ifs, 0⟩] scope pos) 0 (.ref it) .none cenv).onRaise (leaving cenv)) [] s
    rw [compTurn_gen, Sem.onRaise_eq_wrap]
    refine seg_bind_wrap (wpAny_standAt ?_)
    rcases turn i m a H w with ⟨stop, hend⟩ | ⟨go, Nx, hNx, step⟩
    · refine seg_bind_wrap ?_
      rw [hA]
      refine thnF (T.done (gblk X A' s_0 H_0 cenv fp) rfl rfl rfl hc i cp s σ0 H (fun _ _ => False) I (stat hac I nf) st stop) fun r s1 ⟨hr, I1⟩ => ?_
      subst hr
      exact seg_end (.ok .next) (.inl ⟨.inr rfl, a, _, H, cp, hac, tie, I1, hend⟩)
    · refine seg_bind_wrap ?_
      rw [hA]
      refine thnF (T.item (gblk X A' s_0 H_0 cenv fp) rfl rfl rfl hc i cp s σ0 H (fun _ _ => False) I (stat hac I nf) st go) fun r s1 ⟨u, hr, h1⟩ => ?_
      subst hr
      refine seg_bind_wrap ?_
      rw [hA]
      refine thnF h1 fun _ s2 ⟨x, H2, I2, r2, y2, st2, n2⟩ => ?_
      have I2' := I2.pinned (stat hac I2 n2) (T.obj _ _ st2)
      refine seg_bind_wrap ?_
      rw [hA]
      refine thnF (pg.run _ s2 _ H2 x u _ I2' r2 (step x H2 y2)) fun _ s3 ⟨σ3, H3, I3, hw3, q3⟩ => ?_
      refine seg_bind_wrap ?_
      rw [hA]
      refine thnF (pt.run _ s3 σ3 H3 _ I3 q3) fun b s4 ⟨H4, I4, q4⟩ => ?_
      have hl : σ0.length = σ3.length := by rw [← hw3, wipe_length]
      have fin : ∀ {s' : Shared} {H' : Hp}, Inv (gblk X A' s_0 H_0 cenv fp) (cp ++ pinsAt fp s2.heap) σ3 H' s' → Inv (gblk X A' s_0 H_0 cenv fp) cp σ0 H' s' ∧ tn (i + 1) s'.heap ∧ ∀ b ∈ fp, H' b = none := fun {s' H'} I' => by
        have pin' : ∀ b ∈ fp, ∀ o, s2.heap.get? b = some o → s'.heap.get? b = some o ∧ H' b = none := fun b hb o e =>
          let z := I'.pin (b, o) (List.mem_append_right _ (List.mem_append_right _ (mem_pinsAt hb e)))
          ⟨z.1, z.2.1⟩
        refine ⟨(I'.unpinned (pins := cp)).weak hl (wipe_wipe_some hw3), T.keep _ _ _ st2 fun b hb o e => (pin' b hb o e).1, fun b hb => ?_⟩
        obtain ⟨o, e, _⟩ := T.obj _ _ st2 b hb
        exact (pin' b hb o e).2
      cases b with
      | false =>
        simp only [Bool.false_eq_true, if_false] at q4 ⊢
        obtain ⟨m', hm, w'⟩ := hNx a H4 q4
        obtain ⟨J1, J2, J3⟩ := fin I4
        exact seg_again rfl (ih m' hm n (i + 1) a H4 s₀ s4 cp (by omega) w' hac tie J1 J2 J3)
      | true =>
        simp only [if_true] at q4 ⊢
        have hy : ∀ v, yieldOut cenv v = yieldValue v := fun v => by simp only [yieldOut, hco, Bool.false_eq_true, if_false]
        simp only [hy]
        rw [Sem.bind_eq_wrap', Sem.bind_eq_wrap', Sem.wrap_wrap, Sem.wrap_wrap]
        refine seg_wrap ?_
        rw [hA]
        refine thnF (pe.run _ s4 σ3 H4 _ I4 q4) fun yv s5 ⟨y, H5, I5, r5, q5⟩ => ?_
        obtain ⟨J1, J2, J3⟩ := fin I5
        -- at least one more
        cases n with
        | zero => exact absurd hmn (Nat.not_lt_zero _)
        | succ n =>
          refine seg_at (seg_yield rfl rfl rfl ⟨a, y, σ0, H5, i + 1, cp, Nx, r5, hac, tie, J1, J2, J3, q5, fun a' cp' s' nx hac' I' st' => ?_⟩)
          obtain ⟨m', hm, w'⟩ := hNx a' H5 nx
          exact seg_again rfl (ih m' hm n (i + 1) a' H5 s' s' cp' (by omega) w' hac' (fun p hp => (I'.pin p (List.mem_append_right _ hp)).1) I' st' J3)
end
/-! ### a generator that is made -/
section
variable {X : Cx} {pins : List (Addr × Obj)} {σ : L2.St} {H : Hp} {s : Shared}
def GenObj (o : Obj) (g : Nat) : Prop := ∃ nm qn, o.cls = .type "generator" ∧ o.data = .fields #[.int g 0, nm, qn] ∧ o.slots = #[]
theorem GenObj.isGen {o : Obj} {g : Nat} (h : GenObj o g) {a : Addr} {hp : Heap} (e : hp.get? a = some o) : hp.IsGen a g := by
  obtain ⟨nm, qn, h1, h2, h3⟩ := h
  exact ⟨o, nm, qn, e, h1, h2, h3⟩
/-- the generator u, made and not begun, in the state s5 -/
def Gx (X : Cx) (pins : List (Addr × Obj)) (σ : L2.St) (A : Around) (J : It) (g : TG) (tt : TT) (te : TE) (vs : List Nat) (H4 : Hp) (u : Value) (s5 : Shared) : Prop :=
  ∃ (A' : Around) (s_0 : Shared) (H_0 : Hp) (cenv : Env) (fp : List Addr) (ga : Addr) (gn : Nat) (go : Obj) (tn : Nat → Heap → Prop) (gs : GenState),
    u = .ref ga ∧ GenObj go gn ∧ s5.gens[gn]? = some gs ∧ gs.bare = true ∧ Inv (gblk X A' s_0 H_0 cenv fp) [(ga, go)] (wipe σ vs) H4 s5 ∧ tn 0 s5.heap ∧ (∀ b ∈ fp, H4 b = none) ∧ (∀ b ∈ fp, b < ga) ∧
    (∀ i h h', tn i h → (∀ b ∈ fp, ∀ o, h.get? b = some o → h'.get? b = some o) → tn i h') ∧ (∀ cp σ' H' s', Inv (gblk X A' s_0 H_0 cenv fp) cp σ' H' s' → Inv X pins σ H' s') ∧
    ∀ (α : Type) (AC : α → List (Addr × Obj) → Prop) (End : α → Hp → Prop) (Yd : α → V → Hp → (α → Hp → Prop) → Prop) (W : Nat → Nat → α → Hp → Prop) (m n : Nat) (a : α) (cp : List (Addr × Obj)) (s' : Shared),
      tGx J g tt te (wipe σ vs) vs End Yd W → W 0 m a H4 → m < n → (∀ a cp, AC a cp → ∀ p ∈ cp, ∀ b ∈ fp, p.1 ≠ b) → AC a cp → Inv (gblk X A' s_0 H_0 cenv fp) cp (wipe σ vs) H4 s' → tn 0 s'.heap →
      gs.Goes (model X.prog X.w) A (RG (gblk X A' s_0 H_0 cenv fp) AC End) (YG (gblk X A' s_0 H_0 cenv fp) fp tn AC Yd) n (.send .none) s'
/-- what stands about an asker -/
structure Near (A B : Around) : Prop where
  hd : B.handled = A.handled
  fr : B.frames = A.frames
  gd : B.guards = A.guards
  dp : B.depth = A.depth
  un : B.units ≤ A.units + 8
theorem gx_make {c P : Addr} {elt tg iter : Expr} {ifs : List Expr} {gpos : Pos} {scope : Scope} {own : List (Str × Nat)} {wi : TI} {g : TG} {tt : TT} {te : TE} {k : Nat} {Q' : Value → Shared → Prop} {R : It → Hp → Prop} {A : Around}
    (hr : Room (k + 1) X.A) (near : Near X.A A) (hc : X.calm = true) (hN : X.N.Nodup) (TB : GxR.TabB X.base X.mg c P) (hcode : X.env.code = .ref c) (hco : scope.isCoroutine = false) (hdot : scope.names.lookup (".0" : Str) = some NameKind.local)
    (nocell : ∀ y ∈ scope.names, y.2 ≠ .cell) (ok : BlkOk X.N X.env.scope scope own) (hi : PI X tg iter wi)
    (hg : ∀ (A' : Around) (s : Shared) (H : Hp) (C : Addr) (cl : List (Str × Addr)) (code : Value) (fp : List Addr), Room k A' → A'.guards = X.A.guards → PG (gblk X A' s H (genEnv scope cl C code builtinsNs X.env) fp) tg g)
    (ht : ∀ (A' : Around) (s : Shared) (H : Hp) (C : Addr) (cl : List (Str × Addr)) (code : Value) (fp : List Addr), Room k A' → A'.guards = X.A.guards → PTs (gblk X A' s H (genEnv scope cl C code builtinsNs X.env) fp) ifs tt)
    (he : ∀ (A' : Around) (s : Shared) (H : Hp) (C : Addr) (cl : List (Str × Addr)) (code : Value) (fp : List Addr), Room k A' → A'.guards = X.A.guards → PE (gblk X A' s H (genEnv scope cl C code builtinsNs X.env) fp) elt te)
    (hs : ∀ v, genFold iter X.env v = pure v) (I : Inv X pins σ H s) (h : wi σ H fun J H1 => GxR.TabG H1 P ∧ R J H1)
    (hQ : ∀ J H1 H2 u s5, R J H1 → GxR.Tabbed P H1 H2 → Gx X pins σ A J g tt te (own.map (·.2)) H2 u s5 → Q' u s5) :
    wpAny (model X.prog X.w) X.A (eval (.GeneratorExp elt [⟨tg, iter, ifs, 0⟩] scope gpos) X.env) Q' X.xe s := by
  have hfree : ∀ y ∈ scope.names, y.2 = .free → ∃ c, X.env.cells.lookup y.1 = some c := fun y hy e => by
    rcases ok.free y hy e with k | k
    · exact I.ok.has _ (.inl k)
    · exact I.ok.has _ (.inr k)
  refine wpAny_GeneratorExp_make hco (closure_ok hfree) nocell hdot ok.kind (by have := hr.dp; omega) ?_ hs
  refine thn (hi.run pins s σ H _ I h) fun xv s1 hx => thn hx fun itv s2 h2 => ?_
  obtain ⟨it, fp, tn, J, H2, rfl, I2, T, st2, f2, ⟨ps, hP, ht3⟩, q⟩ := h2
  refine ⟨I2.nolimit, ?_⟩
  have hPs : s2.heap.get? P = some { cls := .none, data := .fields ps } := I2.hok P _ hP
  have cd : PySem.W.CodeHd s2.heap c P := TB.code.keeps fun b u e => I2.bk b u e
  have nP : ∀ b, H2 b = none → b ≠ P := fun b e z => by
    rw [z, hP] at e
    cases e
  have cont : ∀ (code : Value) (h3 : Heap) (tk : Nat) (ps' : Array Value), Heap.ExtBut P s2.heap h3 → s2.heap.objs.size ≤ h3.objs.size → h3.get? P = some { cls := .none, data := .fields ps' } → (∃ more, ps' = ps ++ more) → TriplesOk ps'.toList →
      wpAny (model X.prog X.w) X.A (builtinsFor X.env.globals X.env.builtins) (fun bi s₄ =>
        ∀ h', h'.Ns s₄.heap.objs.size (fun y => if y = ".0" then some (Value.ref it) else none) → Heap.SameBut s₄.heap.objs.size (s₄.heap.push { cls := .type "frame", data := .dict #[] }) h' →
          Q' (.ref h'.objs.size) { s₄ with
            gens := s₄.gens.push (.fresh (.compStart (.GeneratorExp elt [⟨tg, iter, ifs, 0⟩] scope gpos) 0 (.ref it) .none (genEnv scope (cloFrom X.env.cells scope.names []) s₄.heap.objs.size code bi X.env))),
            toks := s₄.toks + 1 + 1 + 1,
            heap := h'.push { cls := .type "generator", data := .fields #[.int s₄.gens.size 0, .str "<genexpr>" (s₄.toks + 1), .str (X.env.qual ++ "<genexpr>") (s₄.toks + 1 + 1)] } }) X.xe { s2 with heap := h3, toks := tk } := by
    rintro code h3 tk ps' hx hsz hP3 ⟨more, rfl⟩ ht4
    obtain ⟨bm, ob, e1, e2, e3, e4, e5, e6, e7, e8⟩ := TB.bm
    refine wpAny_builtinsFor (m := X.mg) (by rw [I2.ok.glob]; exact (I2.mod.glob.keeps I2.bk).extBut hx TB.gP) e1 e2 (hx _ _ e4 (I2.bk _ _ e5)) e6 e7 e8 ?_
    intro h' hns hsb
    have I3 : Inv X pins σ (upd H2 P (.tbl (ps ++ more))) { s2 with heap := h3, toks := tk } := GxR.inv_tab (g' := s2.gens) (d' := s2.drawn) I2 hP (fun b o hb e => hx b o hb e) hP3 I2.bare
    have lt2 : ∀ b ∈ fp, b < s2.heap.objs.size := fun b hb => by
      obtain ⟨o, e, _⟩ := T.obj _ _ st2 b hb
      exact Heap.lt_size e
    have f3 : ∀ b ∈ fp, FpOk X pins (upd H2 P (.tbl (ps ++ more))) b ∧ b < ({ s2 with heap := h3, toks := tk } : Shared).heap.objs.size := fun b hb => by
      refine ⟨⟨?_, (f2 b hb).2⟩, Nat.lt_of_lt_of_le (lt2 b hb) hsz⟩
      rw [upd_ne (nP b (f2 b hb).1)]
      exact (f2 b hb).1
    have st3 : tn 0 h3 := T.keep _ _ _ st2 fun b hb o e => hx b o (nP b (f2 b hb).1) e
    generalize hs4 : ({ s2 with heap := h3, toks := tk } : Shared) = s4 at I3 f3 hns hsb ⊢
    have h4 : s4.heap = h3 := by rw [← hs4]
    have hsz4 : h'.objs.size = s4.heap.objs.size + 1 := by rw [hsb.1, Heap.size_push]
    have keep' : ∀ b o, s4.heap.get? b = some o → h'.get? b = some o := fun b o e => hsb.extBut b o (Nat.ne_of_lt (Heap.lt_size e)) (Heap.get?_push_of_some _ e)
    generalize hgo : ({ cls := .type "generator", data := .fields #[.int s4.gens.size 0, .str "<genexpr>" (s4.toks + 1), .str (X.env.qual ++ "<genexpr>") (s4.toks + 1 + 1)] } : Obj) = go
    have hGO : GenObj go s4.gens.size := by rw [← hgo]; exact ⟨_, _, rfl, rfl, rfl⟩
    have k5 : ∀ b o, s4.heap.get? b = some o → (h'.push go).get? b = some o := fun b o e => Heap.get?_push_of_some _ (keep' b o e)
    have pg := fun A' => hg A' s4 (upd H2 P (.tbl (ps ++ more))) s4.heap.objs.size (cloFrom X.env.cells scope.names []) code fp
    have pt := fun A' => ht A' s4 (upd H2 P (.tbl (ps ++ more))) s4.heap.objs.size (cloFrom X.env.cells scope.names []) code fp
    have pe := fun A' => he A' s4 (upd H2 P (.tbl (ps ++ more))) s4.heap.objs.size (cloFrom X.env.cells scope.names []) code fp
    generalize hce : genEnv scope (cloFrom X.env.cells scope.names []) s4.heap.objs.size code builtinsNs X.env = cenv at pg pt pe ⊢
    have hscn : cenv.scope = scope := by rw [← hce]; rfl
    generalize hA' : A.over (.compLoop (.GeneratorExp elt [⟨tg, iter, ifs, 0⟩] scope gpos) 0 (.ref it) .none cenv) [] = A'
    have hfrA : A'.frames = some (cenv :: X.stack) := by
      rw [← hA']
      show pushEnvs [cenv] A.frames = _
      rw [near.fr, I2.ok.frames]
      rfl
    have hhd : A'.handled = none := by
      rw [← hA']
      show A.handled = none
      rw [near.hd]
      exact hr.hd
    have rm : Room k A' := by
      refine ⟨hhd, ?_, ?_⟩
      · have := hr.dp
        have := near.dp
        rw [← hA']
        show A.depth + 0 + 1 + 3 * k + 5 < _
        omega
      · have := hr.un
        have := near.un
        rw [← hA']
        show A.units + 0 + 3 + 16 * k + 200 < _
        omega
    have gdA : A'.guards = X.A.guards := by
      rw [← hA']
      show pushGuards [] A.guards = _
      rw [near.gd]
      rfl
    have I5 : Inv (gblk X A' s4 (upd H2 P (.tbl (ps ++ more))) cenv fp) [(h'.objs.size, go)] (wipe σ (own.map (·.2))) (upd H2 P (.tbl (ps ++ more)))
        { s4 with gens := s4.gens.push (.fresh (.compStart (.GeneratorExp elt [⟨tg, iter, ifs, 0⟩] scope gpos) 0 (.ref it) .none cenv)), toks := s4.toks + 1 + 1 + 1, heap := h'.push go } := by
      subst hce
      refine gen_start (it := .ref it) I3 ok nocell hN f3 hhd hfrA rfl (I3.bare.push rfl) k5 (hns.push _) fun p hp => ?_
      have e : p = (h'.objs.size, go) := by simpa using hp
      subst e
      refine ⟨by show s4.heap.objs.size < h'.objs.size; omega, Heap.get?_push_size _ (by rw [← hgo]; rfl), fun v z => ?_⟩
      rw [← hgo] at z
      cases z
    refine hQ J H2 _ _ _ q ⟨⟨_, upd_same, ht4⟩, fun b hb => upd_ne hb⟩ ⟨A', s4, _, cenv, fp, h'.objs.size, s4.gens.size, go, tn, _, rfl, hGO, Array.getElem?_push_size .., rfl, I5, ?_, fun b hb => (f3 b hb).1.1, fun b hb => ?_, T.keep, fun cp σ' H' s' I' => ?_, ?_⟩
    · exact T.keep _ _ _ st3 fun b _ o e => k5 b o (by rw [h4]; exact e)
    · have := (f3 b hb).2
      rw [hsz4]
      exact Nat.lt_succ_of_lt this
    · exact I3.call' (ch := fp) I'.os I'.base I'.hok I'.bare fun b hb => ⟨(f3 b hb).1.2.2.2.1, (f3 b hb).1.2.1, (f3 b hb).1.2.2.2.2.1, (f3 b hb).1.2.2.2.2.2⟩
    · intro α AC End Yd W m n a cp s' turn w hmn hAC hac I' st'
      refine ⟨rfl, ?_⟩
      have loop := seg_gx (A := A) (pos := gpos) (iter := iter) (scope := scope) hA' hc (by rw [hscn]; exact hco) T (pg A' rm gdA) (pt A' rm gdA) (pe A' rm gdA) hAC turn m n 0 a _ s' s' cp hmn w hac (fun p hp => (I'.pin p (List.mem_append_right _ hp)).1) I' st' fun b hb => (f3 b hb).1.1
      show Seg _ A _ _ _ s' _ ((compStart (.GeneratorExp elt [⟨tg, iter, ifs, 0⟩] scope gpos) 0 (.ref it) .none cenv).onRaise (leaving cenv)) [] s'
      unfold compStart
      rw [Sem.onRaise_eq_wrap]
      show Seg _ A _ _ _ s' _ ((ask >>= _).wrap _ _ _ _) [] s'
      refine seg_bind_wrap (wpAny_askSetting ?_)
      split
      · exact seg_again rfl loop
      · first
          | exact seg_bind_wrap (wpAny_rule (seg_bind_wrap (wpAny_standAt (seg_bind_wrap (T.self _ 0 s' _ _ st' (seg_again rfl loop))))))
          | (refine seg_bind_wrap (wpAny_rule ?_); show Seg _ A _ _ _ s' _ ((standAt iter.pos >>= _).wrap _ _ _ _) [] s'; exact seg_bind_wrap (wpAny_standAt (seg_bind_wrap (T.self _ 0 s' _ _ st' (seg_again rfl loop)))))
  cases hf : codeAmong gpos ps.toList with
  | none =>
    refine wpAny_genexprCodeX hcode (cd.code hPs ht3) (cd.tab hPs) hf fun c' h' tk hx hge hlt hco' _ htab' _ => ?_
    obtain ⟨o1, vs, f1, tf, fl, tg, inF, tx, tt, op, _, _, _, _, _, _, _, _, _, htr, _⟩ := hco'
    exact cont _ h' tk _ hx (Nat.le_trans hge (Nat.le_of_lt hlt)) htab'.2 ⟨_, rfl⟩ htr
  | some cv =>
    refine wpAny_genexprCode_hit hcode (cd.code hPs ht3) hf ?_
    exact cont cv s2.heap s2.toks ps (Heap.ExtBut.refl _ _) (Nat.le_refl _) hPs ⟨#[], by simp⟩ ht3
end
/-! ### asking -/
section
variable {α : Type} {X : Cx} {A A' : Around} {s_0 : Shared} {H_0 : Hp} {cenv : Env} {fp : List Addr} {tn : Nat → Heap → Prop} {AC : α → List (Addr × Obj) → Prop} {End : α → Hp → Prop} {Yd : α → V → Hp → (α → Hp → Prop) → Prop} {ga : Addr} {gn n : Nat} {go : Obj}
theorem next_gx2 {gs : GenState} {s : Shared} {Q : Option Value → Shared → Prop} {E : Value → Shared → Prop} (hh : A.handled = none) (hroom : A.depth < recursionLimit) (hl : s.heap.NoLimit) (hG : GenObj go gn) (e : s.heap.get? ga = some go) (hgs : s.gens[gn]? = some gs)
    (hgo : gs.Goes (model X.prog X.w) A.in1 (RG (gblk X A' s_0 H_0 cenv fp) AC End) (YG (gblk X A' s_0 H_0 cenv fp) fp tn AC Yd) n (.send .none) (s.setGen gn .running))
    (item : ∀ (a : α) (x : V) (σ : L2.St) (H : Hp) (i : Nat) (cp : List (Addr × Obj)) (Nx : α → Hp → Prop) (v : Value) (s1 : Shared) (gs' : GenState), RelV x v → AC a cp → (∀ p ∈ cp, s.heap.get? p.1 = some p.2) → Inv (gblk X A' s_0 H_0 cenv fp) cp σ H s1 → tn i s1.heap → Yd a x H Nx → s1.gens[gn]? = some gs' →
      (∀ a' cp' s', Nx a' H → AC a' cp' → Inv (gblk X A' s_0 H_0 cenv fp) cp' σ H s' → tn i s'.heap → ∃ m, n = m + 1 ∧ gs'.Goes (model X.prog X.w) A.in1 (RG (gblk X A' s_0 H_0 cenv fp) AC End) (YG (gblk X A' s_0 H_0 cenv fp) fp tn AC Yd) m (.send .none) s') → Q (some v) s1)
    (done : ∀ (a : α) (σ : L2.St) (H : Hp) (cp : List (Addr × Obj)) (s1 : Shared), AC a cp → (∀ p ∈ cp, s.heap.get? p.1 = some p.2) → Inv (gblk X A' s_0 H_0 cenv fp) cp σ H s1 → End a H → Q none s1) :
    wpAny (model X.prog X.w) A (pyNext (.ref ga)) Q E s := by
  have hgl : gn < s.gens.size := (Array.getElem?_eq_some_iff.mp hgs).1
  refine GenW.wpAny_gsz (n := gn + 1) hgl (next_genG (Er := fun _ _ => False) hh hl hroom (hG.isGen e) hgs hgo (fun v s₁ gs' hbare hv => ?_) (fun s₁ hp h' hk => ?_) fun e s₁ he => he.elim)
  · intro hsz
    obtain ⟨a, x, σ, H, i, cp, Nx, r, hac, tie, I, st, nf, hy, kap⟩ := hv
    have hsz1 : gn < s₁.gens.size := by
      have q : (s₁.setGen gn gs').gens.size = s₁.gens.size := GenW.setGen_size _ _ _
      have hsz' : gn + 1 ≤ (s₁.setGen gn gs').gens.size := hsz
      omega
    refine item a x σ H i cp Nx v (s₁.setGen gn gs') gs' r hac tie (inv_moved I rfl (allBare_setGen I.bare hbare) fun _ _ q => q) st hy (setGen_at hsz1) fun a' cp' s' nx hac' I' st' => ?_
    have z := kap a' cp' s' nx hac' I' st'
    cases n with
    | zero => exact z.elim
    | succ m => exact ⟨m, rfl, z⟩
  · intro _
    obtain ⟨a, σ, H, cp, hac, tie, I, q⟩ := hp
    exact done a σ H cp _ hac tie (inv_moved I rfl (allBare_setGen I.bare rfl) hk) q
theorem next_gx {gs : GenState} {s : Shared} {Q : Option Value → Shared → Prop} {E : Value → Shared → Prop} (hh : A.handled = none) (hroom : A.depth < recursionLimit) (hl : s.heap.NoLimit) (hG : GenObj go gn) (e : s.heap.get? ga = some go) (hgs : s.gens[gn]? = some gs)
    (hgo : gs.Goes (model X.prog X.w) A.in1 (RG (gblk X A' s_0 H_0 cenv fp) AC End) (YG (gblk X A' s_0 H_0 cenv fp) fp tn AC Yd) n (.send .none) (s.setGen gn .running))
    (item : ∀ (a : α) (x : V) (σ : L2.St) (H : Hp) (i : Nat) (cp : List (Addr × Obj)) (Nx : α → Hp → Prop) (v : Value) (s1 : Shared) (gs' : GenState), RelV x v → AC a cp → Inv (gblk X A' s_0 H_0 cenv fp) cp σ H s1 → tn i s1.heap → Yd a x H Nx → s1.gens[gn]? = some gs' →
      (∀ a' cp' s', Nx a' H → AC a' cp' → Inv (gblk X A' s_0 H_0 cenv fp) cp' σ H s' → tn i s'.heap → ∃ m, n = m + 1 ∧ gs'.Goes (model X.prog X.w) A.in1 (RG (gblk X A' s_0 H_0 cenv fp) AC End) (YG (gblk X A' s_0 H_0 cenv fp) fp tn AC Yd) m (.send .none) s') → Q (some v) s1)
    (done : ∀ (a : α) (σ : L2.St) (H : Hp) (cp : List (Addr × Obj)) (s1 : Shared), AC a cp → Inv (gblk X A' s_0 H_0 cenv fp) cp σ H s1 → End a H → Q none s1) :
    wpAny (model X.prog X.w) A (pyNext (.ref ga)) Q E s :=
  next_gx2 hh hroom hl hG e hgs hgo (fun a x σ H i cp Nx v s1 gs' r hac _ I st hy at_ kap => item a x σ H i cp Nx v s1 gs' r hac I st hy at_ kap) fun a σ H cp s1 hac _ I q => done a σ H cp s1 hac I q
/-- all(..) asks on -/
theorem all_gx {R : Result → Shared → Prop} {Stop : Hp → Prop} {End : Unit → Hp → Prop} (hh : A.handled = none) (hroom : A.depth < recursionLimit) (hG : GenObj go gn)
    (yes : ∀ (σ : L2.St) (H : Hp) (cp : List (Addr × Obj)) (s1 : Shared), Inv (gblk X A' s_0 H_0 cenv fp) cp σ H s1 → End () H → R (.ok (.ret (.bool true))) s1)
    (no : ∀ (σ : L2.St) (H : Hp) (cp : List (Addr × Obj)) (s1 : Shared), Inv (gblk X A' s_0 H_0 cenv fp) cp σ H s1 → Stop H → R (.ok (.ret (.bool false))) s1) :
    ∀ (n : Nat) (s : Shared), s.heap.NoLimit → s.heap.get? ga = some go → (∃ gs, s.gens[gn]? = some gs ∧ gs.Goes (model X.prog X.w) A.in1.in1 (RG (gblk X A' s_0 H_0 cenv fp) (fun _ cp => cp = [(ga, go)]) End)
      (YG (gblk X A' s_0 H_0 cenv fp) fp tn (fun _ cp => cp = [(ga, go)]) (fun _ y H Nx => ∃ b : Bool, y = .bl b ∧ if b = true then Nx () H else Stop H)) n (.send .none) (s.setGen gn .running)) →
      codeAny (model X.prog X.w) A (.builtin "all.loop" ⟨[.ref ga], []⟩) R s := by
  intro n
  induction n with
  | zero =>
    rintro s hl e ⟨gs, hgs, hgo⟩
    refine codeAny_builtin F.entry_all_loop ?_
    rw [Around.under_plainId F.plain_all_loop _]
    show wpAny _ A.in1 (pyNext (.ref ga) >>= _) _ _ s
    refine wpAny_bind (next_gx (A := A.in1) hh hroom hl hG e hgs hgo (fun a x σ H i cp Nx v s1 gs' r hac I st hy at_ kap => ?_) fun a σ H cp s1 hac I q => ?_)
    · obtain ⟨b, rfl, hb⟩ := hy
      cases (show v = Value.bool b from r)
      refine wpAny_bind (wpAny_holding (wpAny_truthy_bool ?_))
      refine wpAny_bind (wpAny_letGo ?_)
      cases b with
      | true =>
        obtain ⟨m, hm, _⟩ := kap () cp s1 hb hac I st
        cases hm
      | false =>
        simp only [Bool.false_eq_true, if_false] at hb ⊢
        exact wpAny_bind (wpAny_rule (wpAny_pure (no σ H cp s1 I hb)))
    · exact wpAny_bind (wpAny_rule (wpAny_pure (yes σ H cp s1 I q)))
  | succ n ih =>
    rintro s hl e ⟨gs, hgs, hgo⟩
    refine codeAny_builtin F.entry_all_loop ?_
    rw [Around.under_plainId F.plain_all_loop _]
    show wpAny _ A.in1 (pyNext (.ref ga) >>= _) _ _ s
    refine wpAny_bind (next_gx (A := A.in1) hh hroom hl hG e hgs hgo (fun a x σ H i cp Nx v s1 gs' r hac I st hy at_ kap => ?_) fun a σ H cp s1 hac I q => ?_)
    · obtain ⟨b, rfl, hb⟩ := hy
      cases (show v = Value.bool b from r)
      refine wpAny_bind (wpAny_holding (wpAny_truthy_bool ?_))
      refine wpAny_bind (wpAny_letGo ?_)
      cases b with
      | true =>
        simp only [if_true] at hb ⊢
        subst hac
        refine wpAny_pure ⟨plainId_quiet F.plain_all_loop _, ih s1 I.nolimit (I.pin (ga, go) (List.mem_append_right _ List.mem_cons_self)).1 ⟨gs', at_, ?_⟩⟩
        obtain ⟨m, hm, z⟩ := kap () [(ga, go)] (s1.setGen gn .running) hb rfl (inv_moved I rfl (allBare_setGen I.bare rfl) fun _ _ q => q) st
        cases hm
        exact z
      | false =>
        simp only [Bool.false_eq_true, if_false] at hb ⊢
        exact wpAny_bind (wpAny_rule (wpAny_pure (no σ H cp s1 I hb)))
    · exact wpAny_bind (wpAny_rule (wpAny_pure (yes σ H cp s1 I q)))
end
section
variable {X : Cx}
/-- all(elt for tg in iter ..) -/
def tAllX (P : Addr) (wi : TI) (g : TG) (tt : TT) (te : TE) (vs : List Nat) : TE := fun σ H Q => wi σ H fun J H1 => GxR.TabG H1 P ∧ ∀ H2, GxR.Tabbed P H1 H2 → ∃ W : Nat → Nat → Unit → Hp → Prop, (∃ m, W 0 m () H2) ∧
  tGx J g tt te (wipe σ vs) vs (fun _ H => Q (.bl true) H) (fun _ y H Nx => ∃ b : Bool, y = .bl b ∧ if b = true then Nx () H else Q (.bl false) H) W
theorem pe_allX {c P : Addr} {elt tg iter : Expr} {ifs : List Expr} {p pos gpos : Pos} {scope : Scope} {own : List (Str × Nat)} {wi : TI} {g : TG} {tt : TT} {te : TE} {k : Nat}
    (hr : Room (k + 1) X.A) (hc : X.calm = true) (hN : X.N.Nodup) (hgl : Gl X "all") (hm : X.mg "all" = none) (hb : bootBuiltins "all" = some (.builtin "all")) (TB : GxR.TabB X.base X.mg c P) (hcode : X.env.code = .ref c)
    (hco : scope.isCoroutine = false) (hdot : scope.names.lookup (".0" : Str) = some NameKind.local) (nocell : ∀ y ∈ scope.names, y.2 ≠ .cell) (ok : BlkOk X.N X.env.scope scope own) (hi : PI X tg iter wi)
    (hg : ∀ (A' : Around) (s : Shared) (H : Hp) (C : Addr) (cl : List (Str × Addr)) (code : Value) (fp : List Addr), Room k A' → A'.guards = X.A.guards → PG (gblk X A' s H (genEnv scope cl C code builtinsNs X.env) fp) tg g)
    (ht : ∀ (A' : Around) (s : Shared) (H : Hp) (C : Addr) (cl : List (Str × Addr)) (code : Value) (fp : List Addr), Room k A' → A'.guards = X.A.guards → PTs (gblk X A' s H (genEnv scope cl C code builtinsNs X.env) fp) ifs tt)
    (he : ∀ (A' : Around) (s : Shared) (H : Hp) (C : Addr) (cl : List (Str × Addr)) (code : Value) (fp : List Addr), Room k A' → A'.guards = X.A.guards → PE (gblk X A' s H (genEnv scope cl C code builtinsNs X.env) fp) elt te)
    (hs : ∀ v, genFold iter X.env v = pure v)
    (hst : starEach [.GeneratorExp elt [⟨tg, iter, ifs, 0⟩] scope gpos] X.env = (false, eval (.GeneratorExp elt [⟨tg, iter, ifs, 0⟩] scope gpos) X.env) :: starEach [] X.env := by rfl) :
    PE X (.Call (.Name "all" p) [.GeneratorExp elt [⟨tg, iter, ifs, 0⟩] scope gpos] [] pos) (tAllX P wi g tt te (own.map (·.2))) := by
  refine ⟨fun pins s σ H Q I h => ?_⟩
  refine wpAny_Call_Name_kw (ld_blt I hgl hm hb ?_)
  refine PyProof.Rows.callWith_builtin1 ?_ hst (by rfl)
  rw [hst]
  show wpAny _ _ (spliced ((false, eval (.GeneratorExp elt [⟨tg, iter, ifs, 0⟩] scope gpos) X.env) :: backTo pos (starEach [] X.env))) _ _ s
  refine Calls.spliced_cons (gx_make (A := X.A.in1.in1) hr ⟨rfl, rfl, rfl, rfl, (by show X.A.units + 1 + 1 ≤ _; omega)⟩ hc hN TB hcode hco hdot nocell ok hi hg ht he hs I h fun J H1 H2 u s5 hR hT hG => ?_)
  obtain ⟨A', s_0, H_0, cenv, fp, ga, gn, go, tn, gs, rfl, hGO, hgs, hbare, I5, st5, nf, hlt, keep, back, goes⟩ := hG
  obtain ⟨W, ⟨m, w0⟩, turn⟩ := hR H2 hT
  refine Calls.spliced_nil ?_
  have pin5 := (I5.pin (ga, go) (List.mem_append_right _ List.mem_cons_self)).1
  refine call_function_tree F.kind_all F.plain_all F.entry_all (F.args_all1 _) ?_
  unfold Builtin.«all»
  refine wpAny_bind (m := oneArg "all" _) (wpAny_pure ?_)
  refine wpAny_bind (wpAny_pyIter_gen (hGO.isGen pin5) ?_)
  refine wpAny_pure ⟨plainId_quiet F.plain_all_loop _, all_gx (A' := A') (s_0 := s_0) (H_0 := H_0) (cenv := cenv) (fp := fp) (tn := tn) (go := go) (gn := gn) (Stop := fun H => Q (.bl false) H) (End := fun _ H => Q (.bl true) H) hr.hd hr.depth hGO
    (fun σ' H' cp s1 I1 q => ⟨.bl true, H', back _ _ _ _ I1, rfl, q⟩) (fun σ' H' cp s1 I1 q => ⟨.bl false, H', back _ _ _ _ I1, rfl, q⟩) (m + 1) s5 I5.nolimit pin5 ⟨gs, hgs, ?_⟩⟩
  refine goes Unit _ _ _ W m (m + 1) () [(ga, go)] _ turn w0 (Nat.lt_succ_self _) (fun a cp hac p hp b hb z => ?_) rfl (inv_moved I5 rfl (allBare_setGen I5.bare rfl) fun _ _ q => q) st5
  subst hac
  have e : p = (ga, go) := by simpa using hp
  subst e
  exact absurd (hlt b hb) (by rw [← z]; exact Nat.lt_irrefl _)
end
/-! ### tuple(..) -/
section
variable {X : Cx} {A A' : Around} {s_0 : Shared} {H_0 : Hp} {cenv : Env} {fp : List Addr} {tn : Nat → Heap → Prop} {ga S : Addr} {gn n : Nat} {go : Obj}
/-- the asker's list S holds what is out -/
def ACl (ga : Addr) (go : Obj) (S : Addr) (ys : List V) (cp : List (Addr × Obj)) : Prop := ∃ (acc : Array Value) (c : Nat), cp = [(ga, go), (S, lstObj acc c)] ∧ Vals ys acc.toList
def YdL (ys : List V) (y : V) (H : Hp) (Nx : List V → Hp → Prop) : Prop := ys.length < sizeLine ∧ Nx (ys ++ [y]) H
theorem ext_gx {R : Result → Shared → Prop} {End : List V → Hp → Prop} {res : Value} (hh : A.handled = none) (hroom : A.depth < recursionLimit) (hG : GenObj go gn) (hSa : S ≠ ga) (far : (gblk X A' s_0 H_0 cenv fp).s_0.heap.objs.size ≤ S) (hSc : ∀ x c, cenv.cells.lookup x = some c → c ≠ S)
    (keep : ∀ i h h', tn i h → (∀ b ∈ fp, ∀ o, h.get? b = some o → h'.get? b = some o) → tn i h') (hSf : ∀ b ∈ fp, b ≠ S)
    (yes : ∀ (σ : L2.St) (H : Hp) (ys : List V) (acc : Array Value) (c : Nat) (s1 : Shared), Inv (gblk X A' s_0 H_0 cenv fp) [(ga, go), (S, lstObj acc c)] σ H s1 → Vals ys acc.toList → End ys H → R (.ok (.ret res)) s1) :
    ∀ (n : Nat) (s : Shared), s.heap.NoLimit → s.heap.get? ga = some go → (∃ gs, s.gens[gn]? = some gs ∧ gs.Goes (model X.prog X.w) A.in1.in1 (RG (gblk X A' s_0 H_0 cenv fp) (ACl ga go S) End)
      (YG (gblk X A' s_0 H_0 cenv fp) fp tn (ACl ga go S) YdL) n (.send .none) (s.setGen gn .running)) →
      codeAny (model X.prog X.w) A (.builtin "list.extend.loop" ⟨[.ref S, .ref ga, res], []⟩) R s := by
  intro n
  induction n with
  | zero =>
    rintro s hl e ⟨gs, hgs, hgo⟩
    refine codeAny_builtin F.entry_extend_loop ?_
    rw [Around.under_plainId F.plain_extend_loop _]
    show wpAny _ A.in1 (pyNext (.ref ga) >>= _) _ _ s
    refine wpAny_bind (next_gx (A := A.in1) hh hroom hl hG e hgs hgo (fun ys x σ H i cp Nx v s1 gs' r hac I st hy at_ kap => ?_) fun ys σ H cp s1 hac I q => ?_)
    · obtain ⟨acc, c, rfl, rv⟩ := hac
      have pS := I.pin (S, lstObj acc c) (List.mem_append_right _ (List.mem_cons_of_mem _ List.mem_cons_self))
      have I0 : Inv (gblk X A' s_0 H_0 cenv fp) [(ga, go)] σ H s1 := I.pins_of fun p hp => I.pin p (List.mem_append_right _ (by rw [List.mem_singleton.mp hp]; exact List.mem_cons_self))
      have I1 := I0.turned (t' := s1.toks) (h' := s1.heap.update S (Obj.mapSeq (·.push v))) (it := S) (fun b o hb q => (Heap.get?_update_other _ _ (Ne.symm hb)).trans q) pS.2.1 pS.2.2.1 (.inr far) hSc (fun p hp => by rw [List.mem_singleton.mp (show p ∈ [(ga, go)] by simpa using hp)]; exact Ne.symm hSa)
      have e2 := Heap.get?_update_self (Obj.mapSeq (·.push v)) pS.1 rfl
      obtain ⟨m, hm, _⟩ := kap (ys ++ [x]) [(ga, go), (S, _)] _ hy.2 ⟨acc.push v, _, rfl, by rw [Array.toList_push]; exact rv.append (.cons r .nil)⟩ (I1.pins_of fun p hp => by
        rcases List.mem_cons.mp hp with z | z
        · rw [z]; exact I1.pin (ga, go) (List.mem_append_right _ List.mem_cons_self)
        · rw [List.mem_singleton.mp z]; exact ⟨e2, pS.2.1, pS.2.2.1, pS.2.2.2.1, fun v q => by cases q⟩) (keep _ _ _ st fun b hb o q => (Heap.get?_update_other _ _ (Ne.symm (hSf b hb))).trans q)
      cases hm
    · obtain ⟨acc, c, rfl, rv⟩ := hac
      exact wpAny_pure (yes σ H ys acc c s1 I rv q)
  | succ n ih =>
    rintro s hl e ⟨gs, hgs, hgo⟩
    refine codeAny_builtin F.entry_extend_loop ?_
    rw [Around.under_plainId F.plain_extend_loop _]
    show wpAny _ A.in1 (pyNext (.ref ga) >>= _) _ _ s
    refine wpAny_bind (next_gx (A := A.in1) hh hroom hl hG e hgs hgo (fun ys x σ H i cp Nx v s1 gs' r hac I st hy at_ kap => ?_) fun ys σ H cp s1 hac I q => ?_)
    · obtain ⟨acc, c, rfl, rv⟩ := hac
      have pS := I.pin (S, lstObj acc c) (List.mem_append_right _ (List.mem_cons_of_mem _ List.mem_cons_self))
      have I0 : Inv (gblk X A' s_0 H_0 cenv fp) [(ga, go)] σ H s1 := I.pins_of fun p hp => I.pin p (List.mem_append_right _ (by rw [List.mem_singleton.mp hp]; exact List.mem_cons_self))
      have I1 := I0.turned (t' := s1.toks) (h' := s1.heap.update S (Obj.mapSeq (·.push v))) (it := S) (fun b o hb q => (Heap.get?_update_other _ _ (Ne.symm hb)).trans q) pS.2.1 pS.2.2.1 (.inr far) hSc (fun p hp => by rw [List.mem_singleton.mp (show p ∈ [(ga, go)] by simpa using hp)]; exact Ne.symm hSa)
      have e2 := Heap.get?_update_self (Obj.mapSeq (·.push v)) pS.1 rfl
      have hln := rv.length
      have hlt : acc.size < sizeLine := by
        have := hy.1
        rw [hln] at this
        simpa using this
      have pG := I1.pin (ga, go) (List.mem_append_right _ List.mem_cons_self)
      show wpAny _ A.in1 (updateSeq S (·.push v) >>= _) _ _ _
      refine wpAny_bind ?_
      refine wpAny_updateSeq pS.1 rfl (wpAny_pure ⟨plainId_quiet F.plain_extend_loop _, ih _ I1.nolimit pG.1 ⟨gs', at_, ?_⟩⟩) (Nat.le_of_lt hlt) (by show (acc.push v).size ≤ sizeLine + 1; rw [Array.size_push]; omega)
      obtain ⟨m, hm, z⟩ := kap (ys ++ [x]) [(ga, go), (S, _)] (({ s1 with heap := s1.heap.update S (Obj.mapSeq (·.push v)) } : Shared).setGen gn .running) hy.2 ⟨acc.push v, _, rfl, by rw [Array.toList_push]; exact rv.append (.cons r .nil)⟩ (inv_moved (I1.pins_of fun p hp => by
        rcases List.mem_cons.mp hp with z | z
        · rw [z]; exact pG
        · rw [List.mem_singleton.mp z]; exact ⟨e2, pS.2.1, pS.2.2.1, pS.2.2.2.1, fun v q => by cases q⟩) rfl (allBare_setGen (s := { s1 with heap := s1.heap.update S (Obj.mapSeq (·.push v)) }) I1.bare rfl) fun _ _ q => q) (keep _ _ _ st fun b hb o q => (Heap.get?_update_other _ _ (Ne.symm (hSf b hb))).trans q)
      cases hm
      exact z
    · obtain ⟨acc, c, rfl, rv⟩ := hac
      exact wpAny_pure (yes σ H ys acc c s1 I rv q)
end
section
variable {X : Cx} {pins : List (Addr × Obj)} {σ : L2.St} {s5 : Shared} {J : It} {g : TG} {tt : TT} {te : TE} {vs : List Nat} {H4 : Hp} {u : Value}
/-- all that a generator hands out, in a list of the asker's own -/
theorem collect_gx {A : Around} {E : Value → Shared → Prop} {Q : List Value → Shared → Prop} {End : List V → Hp → Prop} {W : Nat → Nat → List V → Hp → Prop} {m : Nat} (hh : A.handled = none) (hroom : A.depth < recursionLimit) (G : Gx X pins σ A.in1.in1 J g tt te vs H4 u s5)
    (w0 : W 0 m [] H4) (turn : tGx J g tt te (wipe σ vs) vs End YdL W)
    (hQ : ∀ (s' : Shared) (acc : Array Value) (ys : List V) (H' : Hp), Inv X pins σ H' s' → Vals ys acc.toList → End ys H' → Q acc.toList s') : wpAny (model X.prog X.w) A (collect u) Q E s5 := by
  obtain ⟨A', s_0, H_0, cenv, fp, ga, gn, go, tn, gs, rfl, hGO, hgs, hbare, I5, st5, nf, hlt, keep, back, goes⟩ := G
  have pin5 := I5.pin (ga, go) (List.mem_append_right _ List.mem_cons_self)
  have glt : ga < s5.heap.objs.size := Heap.lt_size pin5.1
  have hSI : s5.heap.objs.size ≠ ga := Nat.ne_of_gt glt
  unfold collect
  refine wpAny_bind (wpAny_runValue (codeAny_builtin F.entry_proto_collect ?_))
  rw [Around.under_plainId F.plain_proto_collect _]
  show wpAny _ A.in1 (newList [] >>= fun l => again (.builtin "list.__iadd__" ⟨[l, .ref ga], []⟩)) _ _ s5
  refine wpAny_bind (wpAny_newObj_type ?_)
  refine wpAny_pure ⟨plainId_quiet F.plain_list_iadd _, codeAny_builtin F.entry_list_iadd ?_⟩
  rw [Around.under_plainId F.plain_list_iadd _]
  show wpAny _ A.in1 (Builtin.List.listExtendWith (.ref s5.heap.objs.size) (.ref ga) (.ref s5.heap.objs.size)) _ _ _
  unfold Builtin.List.listExtendWith
  have k1 : ∀ b o, s5.heap.get? b = some o → (s5.heap.push { cls := .type "list", data := .seq ([] : List Value).toArray }).get? b = some o := fun b o e => Heap.get?_push_of_some _ e
  have hT : Shared.TypeIs { s5 with heap := s5.heap.push { cls := .type "list", data := .seq ([] : List Value).toArray } } (.ref ga) "generator" := Heap.IsGen.typeIs (s := { s5 with heap := _ }) (hGO.isGen (k1 _ _ pin5.1))
  refine wpAny_bind (wpAny_typeOf hT ?_)
  have h1 : Builtin.List.listSameRef (.ref s5.heap.objs.size) (.ref ga) = false := by simp [Builtin.List.listSameRef, hSI]
  have h2 : (Value.type "generator" == Value.type "list") = false := by decide
  have h3 : (Value.type "generator" == Value.type "tuple") = false := by decide
  simp only [h1, h2, h3, Bool.or_false, Bool.false_eq_true, if_false]
  refine wpAny_bind (wpAny_pyIter_gen (s := { s5 with heap := _ }) (hGO.isGen (k1 _ _ pin5.1)) ?_)
  refine wpAny_bind (wpAny_holding ?_)
  unfold Builtin.List.listLengthHint
  refine wpAny_bind (wpAny_specialOf hT F.gen_no_len ?_)
  show wpAny _ A.in1 (specialOf (Value.ref ga) (Str.ofString "__length_hint__") >>= _) _ _ _
  refine wpAny_bind (wpAny_specialOf hT F.gen_no_hint ?_)
  refine wpAny_pure ?_
  show wpAny _ A.in1 (rule "list.extend.makes-room" >>= fun _ => Builtin.List.listTouch (.ref s5.heap.objs.size) >>= fun _ =>
    again (.builtin "list.extend.loop" ⟨[.ref s5.heap.objs.size, .ref ga, .ref s5.heap.objs.size], []⟩)) _ _ _
  refine wpAny_bind (wpAny_rule ?_)
  have hS₁ : (s5.heap.push { cls := .type "list", data := .seq ([] : List Value).toArray }).get? s5.heap.objs.size = some { cls := .type "list", data := .seq ([] : List Value).toArray } := Heap.get?_push_size _ rfl
  refine wpAny_bind ?_
  show wpAny _ A.in1 (updateSeq s5.heap.objs.size (·.push .none) >>= fun _ => updateSeq s5.heap.objs.size (·.pop)) _ _ _
  refine wpAny_bind (wpAny_updateSeq hS₁ rfl ?_)
  have hS₂ := Heap.get?_update_self (Obj.mapSeq (·.push Value.none)) hS₁ rfl
  refine wpAny_updateSeq hS₂ rfl ?_
  have hS₃ := Heap.get?_update_self (Obj.mapSeq (·.pop)) hS₂ rfl
  obtain ⟨c3, hS₄⟩ : ∃ c, (((s5.heap.push { cls := .type "list", data := .seq ([] : List Value).toArray }).update s5.heap.objs.size (Obj.mapSeq (·.push Value.none))).update s5.heap.objs.size (Obj.mapSeq (·.pop))).get? s5.heap.objs.size = some (lstObj #[] c) := ⟨_, hS₃⟩
  have k3 : ∀ b o, s5.heap.get? b = some o → (((s5.heap.push { cls := .type "list", data := .seq ([] : List Value).toArray }).update s5.heap.objs.size (Obj.mapSeq (·.push Value.none))).update s5.heap.objs.size (Obj.mapSeq (·.pop))).get? b = some o :=
    fun b o e => (Heap.get?_update_other _ _ (Ne.symm (Nat.ne_of_lt (Heap.lt_size e)))).trans ((Heap.get?_update_other _ _ (Ne.symm (Nat.ne_of_lt (Heap.lt_size e)))).trans (k1 b o e))
  have fS : FpOk (gblk X A' s_0 H_0 cenv fp) [(ga, go)] H4 s5.heap.objs.size := I5.fpOk (Nat.le_refl _) (I5.hok.fresh (Nat.le_refl _))
  have hfS : ∀ b ∈ fp, b ≠ s5.heap.objs.size := fun b hb => Nat.ne_of_lt (Nat.lt_trans (hlt b hb) glt)
  have I6 := inv_moved (s' := { s5 with heap := ((s5.heap.push { cls := .type "list", data := .seq ([] : List Value).toArray }).update s5.heap.objs.size (Obj.mapSeq (·.push Value.none))).update s5.heap.objs.size (Obj.mapSeq (·.pop)) }) I5 rfl I5.bare k3
  refine wpAny_pure ⟨plainId_quiet F.plain_extend_loop _, ext_gx (A := A) (A' := A') (s_0 := s_0) (H_0 := H_0) (cenv := cenv) (fp := fp) (tn := tn) (go := go) (gn := gn) (End := End) hh hroom hGO hSI ?_ fS.2.2.2.2.1 keep hfS
    (fun σ' H' ys acc c s1 I1 rv q => ?_) (m + 1) _ I6.nolimit (k3 _ _ pin5.1) ⟨gs, hgs, ?_⟩⟩
  · exact Nat.le_trans I5.sz (Nat.le_refl _)
  · show wpAny _ A (load s5.heap.objs.size >>= _) _ _ s1
    have pS := (I1.pin (s5.heap.objs.size, lstObj acc c) (List.mem_append_right _ (List.mem_cons_of_mem _ List.mem_cons_self))).1
    refine wpAny_bind (wpAny_load pS ?_)
    exact wpAny_pure (hQ s1 acc ys H' (back _ _ _ _ I1) rv q)
  · refine goes (List V) (ACl ga go s5.heap.objs.size) End YdL W m (m + 1) [] [(ga, go), (s5.heap.objs.size, lstObj #[] c3)] _ turn w0 (Nat.lt_succ_self _) (fun ys cp hac p hp b hb z => ?_) ⟨#[], c3, rfl, .nil⟩
      (inv_moved (I6.pins_of fun p hp => ?_) rfl (allBare_setGen (s := { s5 with heap := _ }) I5.bare rfl) fun _ _ q => q) (keep _ _ _ st5 fun b hb o q => k3 b o q)
    · obtain ⟨acc, c, rfl, _⟩ := hac
      rcases List.mem_cons.mp hp with e | e
      · rw [e] at z
        exact absurd (hlt b hb) (by rw [← z]; exact Nat.lt_irrefl _)
      · rw [List.mem_singleton.mp e] at z
        exact hfS b hb z.symm
    · rcases List.mem_cons.mp hp with e | e
      · rw [e]
        exact I6.pin (ga, go) (List.mem_append_right _ List.mem_cons_self)
      · rw [List.mem_singleton.mp e]
        exact ⟨hS₄, fS.1, fS.2.1, fS.2.2.1, fun v q => by cases q⟩
end
section
variable {X : Cx}
/-- tuple(elt for tg in iter ..) -/
def tTupX (P : Addr) (wi : TI) (g : TG) (tt : TT) (te : TE) (vs : List Nat) : TE := fun σ H Q => wi σ H fun J H1 => GxR.TabG H1 P ∧ ∀ H2, GxR.Tabbed P H1 H2 → ∃ W : Nat → Nat → List V → Hp → Prop, (∃ m, W 0 m [] H2) ∧
  tGx J g tt te (wipe σ vs) vs (fun ys H => ys.length ≤ sizeLine ∧ ∀ p, H p = none → Q (.ref p) (upd H p (.tup ys))) YdL W
theorem pe_tupX {c P : Addr} {elt tg iter : Expr} {ifs : List Expr} {p pos gpos : Pos} {scope : Scope} {own : List (Str × Nat)} {wi : TI} {g : TG} {tt : TT} {te : TE} {k : Nat}
    (hr : Room (k + 1) X.A) (hc : X.calm = true) (hN : X.N.Nodup) (hgl : Gl X "tuple") (hm : X.mg "tuple" = none) (hb : bootBuiltins "tuple" = some (.type "tuple")) (TB : GxR.TabB X.base X.mg c P) (hcode : X.env.code = .ref c)
    (hco : scope.isCoroutine = false) (hdot : scope.names.lookup (".0" : Str) = some NameKind.local) (nocell : ∀ y ∈ scope.names, y.2 ≠ .cell) (ok : BlkOk X.N X.env.scope scope own) (hi : PI X tg iter wi)
    (hg : ∀ (A' : Around) (s : Shared) (H : Hp) (C : Addr) (cl : List (Str × Addr)) (code : Value) (fp : List Addr), Room k A' → A'.guards = X.A.guards → PG (gblk X A' s H (genEnv scope cl C code builtinsNs X.env) fp) tg g)
    (ht : ∀ (A' : Around) (s : Shared) (H : Hp) (C : Addr) (cl : List (Str × Addr)) (code : Value) (fp : List Addr), Room k A' → A'.guards = X.A.guards → PTs (gblk X A' s H (genEnv scope cl C code builtinsNs X.env) fp) ifs tt)
    (he : ∀ (A' : Around) (s : Shared) (H : Hp) (C : Addr) (cl : List (Str × Addr)) (code : Value) (fp : List Addr), Room k A' → A'.guards = X.A.guards → PE (gblk X A' s H (genEnv scope cl C code builtinsNs X.env) fp) elt te)
    (hs : ∀ v, genFold iter X.env v = pure v)
    (hst : starEach [.GeneratorExp elt [⟨tg, iter, ifs, 0⟩] scope gpos] X.env = (false, eval (.GeneratorExp elt [⟨tg, iter, ifs, 0⟩] scope gpos) X.env) :: starEach [] X.env := by rfl) :
    PE X (.Call (.Name "tuple" p) [.GeneratorExp elt [⟨tg, iter, ifs, 0⟩] scope gpos] [] pos) (tTupX P wi g tt te (own.map (·.2))) := by
  refine ⟨fun pins s σ H Q I h => ?_⟩
  refine wpAny_Call_Name_kw (ld_blt I hgl hm hb ?_)
  refine PyProof.Rows.callWith_type1 ?_ hst (by rfl)
  rw [hst]
  show wpAny _ _ (spliced ((false, eval (.GeneratorExp elt [⟨tg, iter, ifs, 0⟩] scope gpos) X.env) :: backTo pos (starEach [] X.env))) _ _ s
  refine Calls.spliced_cons (gx_make (A := X.A.in1.in1.in1.in1) hr ⟨rfl, rfl, rfl, rfl, (by show X.A.units + 1 + 1 + 1 + 1 ≤ _; omega)⟩ hc hN TB hcode hco hdot nocell ok hi hg ht he hs I h fun J H1 H2 u s5 hR hT hG => ?_)
  obtain ⟨W, ⟨m, w0⟩, turn⟩ := hR H2 hT
  refine Calls.spliced_nil ?_
  have ⟨A', s_0, H_0, cenv, fp, ga, gn, go, tn, gs, eu, hGO, hgs, hbare, I5, st5, nf, hlt, keep, back, goes⟩ := hG
  have pin5 := (I5.pin (ga, go) (List.mem_append_right _ List.mem_cons_self)).1
  rw [eu] at hG ⊢
  refine callType_codes (Q₁ := fun obj s₁ => s₁.TypeIs obj "tuple" ∧ EP X pins σ Q obj s₁) F.called_tuple (F.typeCall_tuple_1 _) F.entry_object_init ?_ fun obj s₁ h₁ =>
    ⟨h₁.1, F.args_object_init_2 obj _, object_init_meets F.called_tuple.init.lookup F.called_tuple.made (by decide) X.prog X.w X.A.in1 _ s₁ ⟨h₁.1, rfl, h₁.2⟩⟩
  refine codeAny_of_tree ?_
  show wpAny _ X.A.in1.in1 (do checkBuiltinCall "tuple.__new__" ⟨[.type "tuple", .ref ga], []⟩; again (.builtin "tuple.__new__" ⟨[.type "tuple", .ref ga], []⟩)) _ _ s5
  refine wpAny_bind (wpAny_of_eq (F.newCall_tuple_1 _) (wpAny_pure ⟨plainId_quiet F.plain_tuple_new _, codeAny_builtin F.entry_tuple_new ?_⟩))
  rw [Around.under_plainId F.plain_tuple_new _]
  have hsub := sub_tuple_self
  have hinit := init_tuple_lookup
  have hmh := madeHere_tuple
  have hTI : s5.TypeIs (.ref ga) "generator" := (hGO.isGen pin5).typeIs
  have col : ∀ {Q0 : List Value → Shared → Prop} {E0 : Value → Shared → Prop}, (∀ (s' : Shared) (acc : Array Value), (∃ (ys : List V) (H' : Hp), Inv X pins σ H' s' ∧ Vals ys acc.toList ∧ ys.length ≤ sizeLine ∧ ∀ p, H' p = none → Q (.ref p) (upd H' p (.tup ys))) → Q0 acc.toList s') →
      wpAny (model X.prog X.w) X.A.in1.in1 (collect (.ref ga)) Q0 E0 s5 := fun hq => collect_gx hr.hd hr.depth hG w0 turn (fun s' acc ys H' I' rv q => hq s' acc ⟨ys, H', I', rv, q.1, q.2⟩)
  wp_walk using wpAny_typeOf hTI, col
  rintro s' acc ⟨ys, H', I', rv, small, q⟩
  show wpAny _ _ (Builtin.Tuple.tupleExact acc.toList.toArray >>= fun v => ret v) _ _ _
  unfold Builtin.Tuple.tupleExact
  refine wpAny_bind (wpAny_newObj_type ?_ (by show acc.toList.toArray.size ≤ sizeLine; rw [List.size_toArray, ← rv.length]; exact small))
  refine wpAny_pure ?_
  have free : H' s'.heap.objs.size = none := I'.hok.fresh (Nat.le_refl _)
  refine ⟨⟨_, Heap.get?_push_size _ rfl, rfl⟩, .ref s'.heap.objs.size, upd H' s'.heap.objs.size (.tup ys), I'.laid (t' := s'.toks) (fun b u z => Heap.get?_push_of_some _ z) (Nat.le_refl _) ⟨small, acc.toList, rv, ?_⟩, rfl, q _ free⟩
  exact ⟨_, Heap.get?_push_size _ rfl, rfl, 0, rfl⟩
end
/-! ### a def by its body, its code object known -/
theorem okC {P : Program} {w : World} {K : PySem.W.Frag} {mg : Str → Option Value} {base : Heap} {x qual : Str} {st : Stmt} {f : Addr} {fd : FuncData} {N ps : List Str} {k : Nat} {sp : Sp} (F : Fun K x qual st f fd) (S : FnScope N ps (defScope st)) (len : ∀ vs H Q E, sp vs H Q E → vs.length = ps.length)
    (body : ∀ (A : Around) (outer : List Env) (s : Shared) (H : Hp) (vs : List V) (Q : VK) (E : XK), Room k (A.deeper (envOfC qual (defScope st) s.heap.objs.size f fd.code)) → sp vs H Q E →
      ∃ t, PSs (cxOf CX0 P w K mg base N qual (defScope st) f fd.code A outer s H E).nox (defBody st) t ∧ t { nx := fun _ H' => Q .non H', rt := Q } (start N vs) H) : FnOk P w K mg base CX0 (k + 1) f fd ps sp := by
  obtain ⟨oc, od, kV, doc, pm, an, cdv, ct, osl, rfl, lk, hcd⟩ := F.ex
  refine fn_of lk hcd S len fun A outer s H vs Q E hr hsp => ?_
  obtain ⟨t, h, q⟩ := body A outer s H vs Q E hr hsp
  exact ⟨t, h.nox, q⟩
/-! ### from the head's facts -/
theorem fun_of {K : PySem.W.Frag} {x qual : Str} {st : Stmt} {f : Addr} {fd : FuncData} (F : FunD K x qual (defArgs st) (defBody st) (defScope st) [] [] f fd) : Fun K x qual st f fd := by
  obtain ⟨oc, od, dV, kV, doc, pm, an, cdv, ct, osl, rfl, lk, hcd, hd, _⟩ := F.ex
  rcases hd with ⟨_, rfl⟩ | ⟨z, _⟩
  · exact ⟨⟨oc, od, kV, doc, pm, an, cdv, ct, osl, rfl, lk, hcd⟩, F.kp⟩
  · exact absurd rfl z
theorem code_of {K : PySem.W.Frag} {x qual : Str} {st : Stmt} {p : He.Defn} {fd : FuncData} (F : Fun K x qual st (He.fAd K p) fd) : fd.code = .ref (He.cT K p).1 := by
  obtain ⟨oc, od, kV, doc, pm, an, cdv, ct, osl, rfl, lk, hcd⟩ := F.ex
  obtain ⟨c, rfl⟩ := He.codeIn_ref hcd
  show Value.ref c = Value.ref (He.codeOf K p)
  rw [He.codeOf_eq lk rfl]
theorem tab_of {base : Heap} {mg : Str → Option Value} {c P : Addr} (h : LamX.TabB base mg c P) : GxR.TabB base mg c P := ⟨h.code, h.bm, h.gP⟩
/-! ### heaps whose tables grow -/
def Tabs (H : Hp) (Ps : List Addr) : Prop := ∀ P ∈ Ps, GxR.TabG H P
/-- what is no table stays; tables stay tables -/
def Gr (H H' : Hp) : Prop := (∀ b o, (∀ ps, o ≠ HO.tbl ps) → H b = some o → H' b = some o) ∧ ∀ b, GxR.TabG H b → GxR.TabG H' b
theorem Gr.refl {H : Hp} : Gr H H := ⟨fun _ _ _ e => e, fun _ e => e⟩
theorem Gr.trans {H H1 H2 : Hp} (a : Gr H H1) (b : Gr H1 H2) : Gr H H2 := ⟨fun c o n e => b.1 c o n (a.1 c o n e), fun c e => b.2 c (a.2 c e)⟩
theorem Gr.of {H H' : Hp} (h : ∀ b o, H b = some o → H' b = some o) : Gr H H' := ⟨fun b o _ e => h b o e, fun b ⟨ps, e, t⟩ => ⟨ps, h _ _ e, t⟩⟩
theorem Gr.tab {P : Addr} {H H' : Hp} (t : GxR.TabG H P) (h : GxR.Tabbed P H H') : Gr H H' := by
  obtain ⟨ps, e, _⟩ := t
  refine ⟨fun b o n q => ?_, fun b q => ?_⟩
  · by_cases hb : b = P
    · rw [hb, e] at q
      exact absurd (Option.some.inj q).symm (n ps)
    · rw [h.2 b hb]; exact q
  · by_cases hb : b = P
    · rw [hb]; exact h.1
    · obtain ⟨ps', e', t'⟩ := q
      exact ⟨ps', by rw [h.2 b hb]; exact e', t'⟩
theorem Gr.tup {H H' : Hp} (g : Gr H H') {a : Addr} {xs : List V} (h : H a = some (.tup xs)) : H' a = some (.tup xs) := g.1 a _ (fun _ z => by cases z) h
theorem Gr.lst {H H' : Hp} (g : Gr H H') {a : Addr} {xs : List V} (h : H a = some (.lst xs)) : H' a = some (.lst xs) := g.1 a _ (fun _ z => by cases z) h
theorem Gr.tabs {H H' : Hp} (g : Gr H H') {Ps : List Addr} (h : Tabs H Ps) : Tabs H' Ps := fun P hP => g.2 P (h P hP)
theorem Gr.none {H : Hp} {a : Addr} {o : HO} (n : H a = Option.none) : Gr H (upd H a o) := Gr.of fun b u e => by
  rw [upd_ne (ne_of_none e n)]
  exact e
namespace CwR
/-- behind it a token is out -/
def PEp (X : Cx) (e : Expr) (t : TE) : Prop := ∀ (pins : List (Addr × Obj)) (s : Shared) (σ : L2.St) (H : Hp) (Q : VK), Inv X pins σ H s → t σ H Q → wpAny (model X.prog X.w) X.A (eval e X.env) (fun u s' => 1 ≤ s'.toks ∧ EP X pins σ Q u s') X.xe s
theorem pep_ix {X : Cx} {a : Expr} {i : Int} {j : Nat} {p pos : Pos} {ta : TE} {r : R2} (hr : IxR X r) (ha : PE X a ta) (hs : PlainIx (.Constant (.int i) j p)) : PEp X (.Subscript a (.Constant (.int i) j p) pos) (tOp r ta (tC (.int i))) := by
  intro pins s σ H Q I h
  refine Subscript_ (thn (ha.run pins s σ H _ I h) fun v s1 ⟨x, H1, I1, r1, q1⟩ => wpAny_Constant_int ?_)
  refine wpAny_mono (PySem.wpAny_toks (hr a _ pins { s1 with toks := s1.toks + 1 } σ H1 x (.int i) v (.int i s1.toks) Q (I1.tok _) r1 ⟨_, rfl⟩ q1 (hs _ _))) (fun u s2 q => ⟨?_, q.2⟩) fun _ _ z => z.2
  have h1 : s1.toks + 1 ≤ s2.toks := q.1
  omega
theorem pep_repl {X : Cx} {o : Expr} {to : TE} {y z : Str} {j k : Nat} {c0 c1 apos pos : Pos} (ho : PEp X o to) (hyz : (y == z) = false := by decide)
    (hst : starEach [.Constant (.str y) j c0, .Constant (.str z) k c1] X.env = [(false, eval (.Constant (.str y) j c0) X.env), (false, eval (.Constant (.str z) k c1) X.env)] := by rfl)
    (hbase : attributeBase o "replace" X.env (eval o X.env) = eval o X.env := by rfl) (hline : (apos.endLine == pos.line) = true := by rfl) :
    PEp X (.Call (.Attribute o "replace" apos) [.Constant (.str y) j c0, .Constant (.str z) k c1] [] pos) (CwR.tReplC to y z) := by
  intro pins s σ H Q I h
  refine PySem.Call_method2 hbase hst hline (wpAny_mono (ho pins s σ H _ I h) (fun v s1 q => ?_) fun _ _ z => z)
  obtain ⟨hk, v', H1, I1, r1, x, e1, hb, q⟩ := q
  subst e1
  obtain ⟨tx, e2⟩ := r1
  subst e2
  refine ⟨"str", _, PySem.F.plainAttrs_str, PySem.F.slot_str_replace, PySem.F.type_str_replace, typeIs_str _ _ _, (fun _ e => nomatch e), Calls.callWith_builtin rfl (Calls.evalArgs_plain (Calls.spliced_cons ?_))⟩
  refine Calls.Constant_str (Calls.spliced_cons (Calls.Constant_str (Calls.spliced_nil ?_)))
  refine wpAny_mono (PySem.wpAny_toks (PySem.SC.replace (Q := fun u s' => EP X pins σ Q u s') (by show s1.toks ≠ 0; omega) (by show s1.toks + 1 ≠ 0; omega) (by show s1.toks ≠ s1.toks + 1; omega) hyz hb fun t' k => ⟨.str (Txt.replace x y z), H1, I1.tok k, ⟨t', rfl⟩, q⟩)) (fun u s2 q => ⟨?_, q.2⟩) fun _ _ z => z.2
  have h1 : s1.toks + 1 + 1 ≤ s2.toks := q.1
  omega
theorem pe_replP {X : Cx} {e : Expr} {t : TE} (h : PEp X e t) : PE X e t := ⟨fun pins s σ H Q I q => wpAny_mono (h pins s σ H Q I q) (fun _ _ z => z.2) fun _ _ z => z⟩
end CwR

/-! ### list(reversed(a list)) -/
namespace RevL
open RT PySem.Calls
section
variable {prog : Program} {w : World} {A : Around} {E : Value → Shared → Prop} {s : Shared}
theorem grows_rev {it l S : Addr} {c0 : Nat} {xs : Array Value} {R : Result → Shared → Prop} {res : Value} (quiet : A.handled = none) (rev : s.heap.IsRevIter it l ((xs.size : Int) - 1)) (src : s.heap.IsList l xs) (apart : l ≠ it) (few : xs.size ≤ sizeLine)
    (tgt : s.heap.get? S = some { cls := .type "list", data := .seq #[] c0 }) (n1 : S ≠ it) (n2 : S ≠ l)
    (fin : ∀ (hp : Heap) (tk : Nat) (acc : Array Value) (c : Nat), (∀ b o, b ≠ it → b ≠ S → s.heap.get? b = some o → hp.get? b = some o) → hp.get? S = some { cls := .type "list", dict := none, data := .seq acc c, slots := #[] } → ItemsOf (fun i v => xs[xs.size - 1 - i]? = some v) acc xs.size → R (.ok (.ret res)) { s with heap := hp, toks := tk }) :
    wpAny (model prog w) A.in1 (Builtin.List.listExtendWith (.ref S) (.ref it) res)
      (fun f st => match f with | .done g => R (.ok g) st | .again c => c.quiet = true ∧ codeAny (model prog w) A c R st) (fun e st => R (.error e) st) s := by
  have walk := (Walks.listRev (prog := prog) (w := w) (A := A.in1) quiet it l apart xs).toS
  have notIn : S ∉ [it, l] := by
    intro h
    rcases List.mem_cons.mp h with h | h
    · exact n1 h
    · exact n2 (List.mem_singleton.mp h)
  have ty : s.TypeIs (.ref it) "list_reverseiterator" := rev.typeIs
  have unlike : Builtin.List.listSameRef (.ref S) (.ref it) = false := by simp [Builtin.List.listSameRef, n1]
  unfold Builtin.List.listExtendWith
  refine wpAny_bind (wpAny_typeOf ty (?_))
  rw [if_neg (show ¬ _ by rw [unlike]; decide)]
  refine wpAny_bind (wpAny_pyIter_revIter rev (wpAny_bind (wpAny_holding ?_)))
  unfold Builtin.List.listLengthHint
  refine wpAny_bind (wpAny_specialOf ty nolen_lri (?_))
  show wpAny _ _ (specialOf (Value.ref it) (Str.ofString "__length_hint__") >>= _) _ _ _
  refine wpAny_bind (wpAny_specialOf ty hint_lri (?_))
  generalize name : ("list_reverseiterator.__length_hint__" : String) = nm
  wp_delta
  rw [show splitId nm = some ("list_reverseiterator", "__length_hint__") by rw [← name]; decide +kernel]
  rw [← name]
  refine wpAny_bind (wpAny_isInstance (b := true) ty (by rw [isSubtype_type]; kernel_rfl) (wpAny_pure ?_))
  rw [if_neg (show ¬ _ by decide)]
  have first : ((xs.size : Nat) : Int) - 1 - ((0 : Nat) : Int) = (xs.size : Int) - 1 := by omega
  refine wpAny_pure ⟨plainId_quiet F.plain_extend_loop _, codeAny_extend_loopS walk few _ notIn _ xs.size 0 _ _ _ rfl (Nat.zero_le _) ⟨Nat.zero_le _, by rw [first]; exact rev, src⟩ tgt (ItemsOf.nil _) fun st acc c moved hS got => ?_⟩
  rw [Moved.eq_with moved]
  refine fin st.heap st.toks acc c (fun b o b1 b2 e => moved.heap b o (fun h => ?_) e) hS got
  rcases List.mem_cons.mp h with h | h
  · exact b2 h
  · exact b1 (List.mem_singleton.mp h)
theorem call_list_rev {it l : Addr} {xs : Array Value} {Q : Value → Shared → Prop} (quiet : A.handled = none) (rev : s.heap.IsRevIter it l ((xs.size : Int) - 1)) (src : s.heap.IsList l xs) (apart : l ≠ it) (few : xs.size ≤ sizeLine)
    (fin : ∀ (hp : Heap) (tk : Nat) (acc : Array Value) (c : Nat), (∀ b o, b ≠ it → s.heap.get? b = some o → hp.get? b = some o) → hp.get? s.heap.objs.size = some { cls := .type "list", dict := none, data := .seq acc c, slots := #[] } → ItemsOf (fun i v => xs[xs.size - 1 - i]? = some v) acc xs.size → Q (.ref s.heap.objs.size) { s with heap := hp, toks := tk }) :
    wpAny (model prog w) A (call (.type "list") [.ref it]) Q E s := by
  have newAt : ∀ {b : Addr} {o : Obj}, s.heap.get? b = some o → b ≠ s.heap.objs.size := fun e => Nat.ne_of_lt (Heap.lt_size e)
  have itNew : s.heap.objs.size ≠ it := by
    obtain ⟨o, e, _⟩ := id rev
    exact (newAt e).symm
  have lNew : s.heap.objs.size ≠ l := by
    obtain ⟨o, e, _⟩ := id src
    exact (newAt e).symm
  refine callType_codes (Q₁ := fun v st => v = .ref s.heap.objs.size ∧ st = { s with heap := s.heap.push { cls := .type "list", data := .seq #[] } }) F.called_list (F.typeCall_list_1 _) F.entry_list_init (code_list_new _ ⟨rfl, rfl⟩) ?_
  rintro v st ⟨rfl, rfl⟩
  have made : (s.heap.push { cls := .type "list", data := .seq #[] }).get? s.heap.objs.size = some { cls := .type "list", data := .seq #[] } := Heap.get?_push_size _ rfl
  refine ⟨⟨_, made, rfl⟩, F.args_list_init_2 _ _, ?_⟩
  show wpAny _ A.in1.in1 (do let was ← Builtin.List.listItems (.ref s.heap.objs.size); Builtin.List.listUpdate (.ref s.heap.objs.size) (fun _ => #[]); letGo was.toList.reverse; Builtin.List.listExtendWith (.ref s.heap.objs.size) (.ref it) .none) _ _ _
  refine wpAny_bind ?_
  unfold Builtin.List.listItems
  refine wpAny_bind (wpAny_seqItems made rfl (wpAny_pure (wpAny_bind ?_)))
  show wpAny _ _ (updateSeq s.heap.objs.size (fun _ => (#[] : Array Value))) _ _ _
  refine wpAny_updateSeq made rfl (wpAny_bind (wpAny_letGo ?_))
  have emptied := Heap.get?_update_self (Obj.mapSeq (fun _ => (#[] : Array Value))) made rfl
  have stays : ∀ b o, s.heap.get? b = some o → ((s.heap.push { cls := .type "list", data := .seq #[] }).update s.heap.objs.size (Obj.mapSeq (fun _ => (#[] : Array Value)))).get? b = some o := fun b o e =>
    (Heap.get?_update_other _ _ (newAt e).symm).trans (Heap.get?_push_of_some _ e)
  refine grows_rev (A := A.in1) quiet (rev.at fun o e => stays _ _ e) (by obtain ⟨o, e, r⟩ := id src; exact ⟨o, stays _ _ e, r⟩) apart few emptied itNew lNew fun hp tk acc c keep hS got => ?_
  exact ⟨rfl, fin hp tk acc c (fun b o b1 e => keep b o b1 (newAt e) (stays b o e)) hS got⟩
def tLstRev (K : PySem.W.Frag) (te : TE) : TE := fun σ H Q => te σ H fun v H1 => ∃ (a : Addr) (xs : List V), v = .ref a ∧ SqL K H1 a xs ∧ ∀ q, H1 q = none → Q (.ref q) (upd H1 q (.lst xs.reverse))
theorem pe_lstRev {X : Cx} {e : Expr} {te : TE} {p1 p2 pos pos2 : Pos} (calm : X.calm = true) (g1 : Gl X "list") (m1 : X.mg "list" = none) (g2 : Gl X "reversed") (m2 : X.mg "reversed" = none) (he : PE X e te)
    (st1 : starEach [e] X.env = (false, eval e X.env) :: starEach [] X.env := by rfl)
    (st2 : starEach [.Call (.Name "reversed" p2) [e] [] pos2] X.env = (false, eval (.Call (.Name "reversed" p2) [e] [] pos2) X.env) :: starEach [] X.env := by rfl) :
    PE X (.Call (.Name "list" p1) [.Call (.Name "reversed" p2) [e] [] pos2] [] pos) (tLstRev X.K te) := by
  refine ⟨fun pins s σ H Q I told => ?_⟩
  refine Call_ (ld_blt I g1 m1 boot_list (PyProof.Rows.callWith_type1 (args_cons (Call_ (ld_blt I g2 m2 PyProof.Rows.boot_reversed (PyProof.Rows.callWith_type1 (args_cons (thn (he.run pins s σ H _ I told) ?_) st1) st1 rfl))) st2) st2 rfl))
  rintro u s1 ⟨v, H1, I1, r1, a, xs, rfl, list, q⟩
  refine args_nil ?_
  cases (show u = Value.ref a from r1)
  obtain ⟨us, rv, plain, few⟩ := I1.list list
  have src := plain.isList
  refine call_reversed_list src (args_nil ?_)
  have apart : a ≠ s1.heap.objs.size := by
    obtain ⟨o, e, _⟩ := id src
    exact Nat.ne_of_lt (Heap.lt_size e)
  have few2 : us.toArray.size ≤ sizeLine := by
    rw [List.size_toArray, ← rv.length]
    exact few
  refine call_list_rev (s := { s1 with heap := s1.heap.push (revObj a ((us.toArray.size : Int) - 1)) }) (I1.ok.hd calm) ⟨_, Heap.get?_push_size _ rfl, rfl, rfl⟩ (src.push _) apart few2 fun hp tk acc c keep hS got => ?_
  have size2 : s1.heap.objs.size ≤ (s1.heap.push (revObj a ((us.toArray.size : Int) - 1))).objs.size := by
    rw [Heap.size_push]
    exact Nat.le_succ _
  refine ⟨.ref _, upd H1 _ (.lst xs.reverse), I1.laid (t' := tk) (fun b o e => keep b o (Nat.ne_of_lt (Heap.lt_size e)) (Heap.get?_push_of_some _ e)) size2 ⟨by rw [List.length_reverse]; exact few, acc.toList, c, vals_rev rv got, ?_⟩, rfl, q _ (I1.hok.fresh size2)⟩
  rw [Array.toArray_toList]
  exact hS
end
end RevL

/-! ### heaps -/
theorem same_upd {H : Hp} {p : Addr} {o : HO} (h : H p = none) : Same H (upd H p o) := fun b x e => by
  rw [upd_ne (ne_of_none e h)]
  exact e
def Fr (d l : Addr) (H H' : Hp) : Prop := ∀ b o, b ≠ d → b ≠ l → H b = some o → H' b = some o
theorem Fr.trans {d l : Addr} {H H1 H2 : Hp} (a : Fr d l H H1) (b : Fr d l H1 H2) : Fr d l H H2 := fun c o h1 h2 h => b c o h1 h2 (a c o h1 h2 h)
theorem Fr.refl {d l : Addr} {H : Hp} : Fr d l H H := fun _ _ _ _ h => h
theorem Fr.new {d l p : Addr} {H : Hp} {o : HO} (h : H p = none) : Fr d l H (upd H p o) := fun b x _ _ e => same_upd h b x e
theorem Fr.of {d l : Addr} {H H' : Hp} (h : Same H H') : Fr d l H H' := fun b x _ _ e => h b x e
theorem Fr.d {d l : Addr} {H : Hp} {o : HO} : Fr d l H (upd H d o) := fun b x h1 _ e => by rw [upd_ne h1]; exact e
theorem Fr.l {d l : Addr} {H : Hp} {o : HO} : Fr d l H (upd H l o) := fun b x _ h2 e => by rw [upd_ne h2]; exact e
def Deck (H : Hp) (d l : Addr) : Prop := d ≠ l ∧ ∃ (cs : List Int) (z : Int), H d = some (.lst [.ref l, .int z]) ∧ H l = some (.lst (cs.map V.int)) ∧ cs.length ≤ 63 ∧ 0 ≤ z ∧ z < 4294967296
theorem Deck.same {H H' : Hp} {d l : Addr} (D : Deck H d l) (s : Same H H') : Deck H' d l := by
  obtain ⟨ne, cs, z, hd, hl, r⟩ := D
  exact ⟨ne, cs, z, s _ _ hd, s _ _ hl, r⟩
theorem Deck.new {H : Hp} {d l p : Addr} {o : HO} (D : Deck H d l) (h : H p = none) : Deck (upd H p o) d l := D.same (same_upd h)
theorem Deck.ne_new {H : Hp} {d l p : Addr} (D : Deck H d l) (h : H p = none) : p ≠ d ∧ p ≠ l := by
  obtain ⟨ne, cs, z, hd, hl, r⟩ := D
  exact ⟨(ne_of_none hd h).symm, (ne_of_none hl h).symm⟩
theorem p29 : (0 : Int) < 2147483629 := by decide
theorem p47 : (0 : Int) < 2147483647 := by decide
theorem p87 : (0 : Int) < 2147483587 := by decide
theorem sl1 : 1 ≤ sizeLine := by decide
theorem sl2 : 2 ≤ sizeLine := by decide
theorem sl3 : 3 ≤ sizeLine := by decide
theorem sl4 : 4 ≤ sizeLine := by decide
theorem seqIx0 {α : Type} (x : α) (xs : List α) : seqIndex? 0 (x :: xs).length = some 0 := by
  refine (ixN_seq (n := (x :: xs).length) (i := 0) (j := 0) ?_).1
  unfold ixN
  rw [if_pos (by decide), if_pos (by rw [List.length_cons]; omega)]
  rfl
theorem dpInts {K : PySem.W.Frag} {H : Hp} : ∀ cs : List Int, DpAll K H (cs.map V.int) (cs.map PyData.int)
  | [] => .nil
  | c :: r => .cons (.int c) (dpInts r)
theorem shInts (ns : List Int) : SeqAt.shaped (.list (ns.map PyData.int)) = true := by
  unfold SeqAt.shaped
  rw [Bool.and_eq_true]
  refine ⟨?_, ?_⟩
  · simp only [PyData.canLay0, canLayAll_ints]
  · simp only [PyData.depth, depthAll_ints]
    decide
theorem at_pick {xs : List V} {j : Int} (h0 : 0 ≤ j) (h1 : j < xs.length) : ∃ x, atI xs j = some x ∧ x ∈ xs := by
  obtain ⟨k, rfl⟩ : ∃ k : Nat, j = (k : Int) := ⟨j.toNat, (Int.toNat_of_nonneg h0).symm⟩
  have hk : k < xs.length := by omega
  exact ⟨xs[k], atI_nat (List.getElem?_eq_getElem hk), List.getElem_mem hk⟩
theorem units65 {k : Nat} {A : Around} (r : Room k A) : A.units + 65 < cLine := by have := r.un; omega
def rLenK (K : PySem.W.Frag) : List V → Hp → VK → Prop := fun xs H Q => ∃ p ys, xs = [.ref p] ∧ (SqL K H p ys ∨ SqT K H p ys) ∧ Q (.int ys.length) H
def rTupK (K : PySem.W.Frag) : List V → Hp → VK → Prop := fun xs H Q => ∃ p ys, xs = [.ref p] ∧ ((SqL K H p ys ∧ ∀ l, H l = none → Q (.ref l) (upd H l (.tup ys))) ∨ (SqT K H p ys ∧ Q (.ref p) H))
def rLstK (K : PySem.W.Frag) : List V → Hp → VK → Prop := fun xs H Q => ∃ p ys, xs = [.ref p] ∧ (SqL K H p ys ∨ SqT K H p ys) ∧ ∀ l, H l = none → Q (.ref l) (upd H l (.lst ys))
/-- joining ways behind a test, behind an expression -/
def tCutT (t : TT) : TT := fun σ H Q => ∃ Mid : Bool → Hp → Prop, t σ H Mid ∧ ∀ b H1, Mid b H1 → Q b H1
theorem pt_cut {X : Cx} {e : Expr} {t : TT} (h : PT X e t) : PT X e (tCutT t) := ⟨fun pins s σ H Q I hw => by
  obtain ⟨Mid, h1, q⟩ := hw
  exact thn (h.run pins s σ H _ I h1) fun c s1 ⟨H1, I1, m⟩ => ⟨H1, I1, q _ _ m⟩⟩
def tCutE (t : TE) : TE := fun σ H Q => ∃ Mid : VK, t σ H Mid ∧ ∀ v H1, Mid v H1 → Q v H1
theorem pe_cut {X : Cx} {e : Expr} {t : TE} (h : PE X e t) : PE X e (tCutE t) := ⟨fun pins s σ H Q I hw => by
  obtain ⟨Mid, h1, q⟩ := hw
  exact thn (h.run pins s σ H _ I h1) fun u s1 ⟨v, H1, I1, r, m⟩ => ⟨v, H1, I1, r, q _ _ m⟩⟩

/-! ### defs called where nothing is being shown (so that repr tells what stands there) -/
structure FnG (P : Program) (w : World) (K : PySem.W.Frag) (mg : Str → Option Value) (bs : Heap) (CX : CXT) (k : Nat) (f : Addr) (fd : FuncData) (ps : List Str) (sp : Sp) : Prop where
  many : ∀ vs H Q E, sp vs H Q E → vs.length = ps.length
  go : ∀ A : Around, A.guards = some [] → Room k A → ∀ (fr : List Env) (s : Shared) (H : Hp) (ar : Args) (us : List Value) (vs : List V) (Q : VK) (E : XK), Env0 P w K mg bs A fr s H → BindsTo s fd ar (ps.zip us) → Vals vs us → sp vs H Q E → codeAny (model P w) A (.call (.ref f) ar) (CR CX fr P w H s Q E) s
theorem FnG.of {P : Program} {w : World} {K : PySem.W.Frag} {mg : Str → Option Value} {bs : Heap} {CX : CXT} {k : Nat} {f : Addr} {fd : FuncData} {ps : List Str} {sp : Sp} (F : FnOk P w K mg bs CX k f fd ps sp) : FnG P w K mg bs CX k f fd ps sp :=
  ⟨F.len, fun A _ room fr s H ar us vs Q E e0 b r h => F.run A fr s H ar us vs Q E room e0 b r h⟩
theorem okG {CX : CXT} {P : Program} {w : World} {K : PySem.W.Frag} {mg : Str → Option Value} {bs : Heap} {x qual : Str} {st : Stmt} {f : Addr} {fd : FuncData} {N ps : List Str} {k : Nat} {sp : Sp} (F : Fun K x qual st f fd) (S : FnScope N ps (defScope st))
    (many : ∀ vs H Q E, sp vs H Q E → vs.length = ps.length)
    (body : ∀ (cdv : Value) (A : Around) (fr : List Env) (s : Shared) (H : Hp) (vs : List V) (Q : VK) (E : XK), A.guards = some [] → Room k (A.deeper (envOfC qual (defScope st) s.heap.objs.size f cdv)) → sp vs H Q E →
      ∃ t, PSs (cxOf CX P w K mg bs N qual (defScope st) f cdv A fr s H E) (defBody st) t ∧ t ⟨fun _ H' => Q .non H', Q, fun _ _ => False, fun _ _ => False⟩ (start N vs) H) : FnG P w K mg bs CX (k + 1) f fd ps sp := by
  obtain ⟨oc, od, kV, doc, pm, an, cdv, ct, osl, rfl, lk, code⟩ := F.ex
  refine ⟨many, fun A nothing room fr s H ar us vs Q E e0 bound rel told => ?_⟩
  have stays : ∀ b o, bs.get? b = some o → s.heap.get? b = some o := fun b o z => (e0.bs b o z).1
  have inK : K.In s.heap := e0.mod.kin.keeps stays
  have places : ∀ y ∈ ps.zip us, (defScope st).names.lookup y.1 = some .local ∨ ((defScope st).names.lookup y.1 = some .cell ∧ ((cellsFrom (s.heap.objs.size + 1) (defScope st).names []).lookup y.1).isSome = true) := by
    rintro ⟨n, v⟩ hy
    exact (S.par n (List.of_mem_zip hy).1).imp id fun c => ⟨c, PySem.W.cellsFrom_some _ _ _ (Or.inl c)⟩
  refine codeAny_call_function room.depth (inK _ _ lk) rfl S.co S.gen rfl (PySem.W.codeRec_of inK code) (bound _ _ _ _
    (wpAny_newFunctionEnv_cells S.kind places fun env he s1 made => ?_))
  subst he
  obtain ⟨t, runs, holds⟩ := body cdv A fr s H vs Q E nothing (room.deeper _) told
  refine ⟨(e0.mod.nolimit.keeps stays).keeps made.toInCall.keep, codeAny_func (wpAny_mono (runs.run [] s1 (start N vs) H _ (inv_start S room.hd e0 (many _ _ _ _ told) rel made) holds) (fun fl s2 z => ?_) fun _ _ z => z)⟩
  match fl, z with
  | .ret _, ⟨v, _, H', J, rv, q⟩ => exact ⟨v, H', J.os, J.bare, J.base, J.hok, rv, q⟩
  | .next, ⟨_, H', J, q⟩ => exact ⟨V.non, H', J.os, J.bare, J.base, J.hok, rfl, q⟩
  | .brk, ⟨_, _, _, q⟩ => exact q.elim
  | .cont, ⟨_, _, _, q⟩ => exact q.elim
theorem okG0 {P : Program} {w : World} {K : PySem.W.Frag} {mg : Str → Option Value} {bs : Heap} {x qual : Str} {st : Stmt} {f : Addr} {fd : FuncData} {N ps : List Str} {k : Nat} {sp : Sp} (F : Fun K x qual st f fd) (S : FnScope N ps (defScope st))
    (many : ∀ vs H Q E, sp vs H Q E → vs.length = ps.length)
    (body : ∀ (cdv : Value) (A : Around) (fr : List Env) (s : Shared) (H : Hp) (vs : List V) (Q : VK) (E : XK), A.guards = some [] → Room k (A.deeper (envOfC qual (defScope st) s.heap.objs.size f cdv)) → sp vs H Q E →
      ∃ t, PSs (cxOf CX0 P w K mg bs N qual (defScope st) f cdv A fr s H E).nox (defBody st) t ∧ t ⟨fun _ H' => Q .non H', Q, fun _ _ => False, fun _ _ => False⟩ (start N vs) H) : FnG P w K mg bs CX0 (k + 1) f fd ps sp :=
  okG F S many fun cdv A fr s H vs Q E g r h => by
    obtain ⟨t, p, q⟩ := body cdv A fr s H vs Q E g r h
    exact ⟨t, p.nox, q⟩
section
variable {X : Cx} {CX : CXT} {k : Nat} {f : Addr} {fd : FuncData} {ps : List Str} {sp : Sp} {ds : List Value} {dvs : List V} {E : XK}
theorem runG {pins : List (Addr × Obj)} {σ : L2.St} {H : Hp} {s : Shared} {Q : VK} {us : List Value} {vs : List V} (F : FnG X.prog X.w X.K X.mg X.base CX k f fd ps sp) (nothing : X.A.guards = some []) (room : Room k X.A) (hb : Binds X.K fd ps ds)
    (hd : Vals dvs ds) (out : Passes CX X E) (I : Inv X pins σ H s) (r : Vals vs us) (told : sp (vs ++ dvs) H Q E) : wpAny (model X.prog X.w) X.A (call (.ref f) us) (EP X pins σ Q) X.xe s := by
  have rel : Vals (vs ++ dvs) (us ++ ds) := r.append hd
  have size : (us ++ ds).length = ps.length := rel.length ▸ F.many _ _ _ _ told
  refine wpAny_call (codeAny_mono (F.go X.A nothing room X.stack s H _ _ _ Q E I.env0 (hb s us I.kIn size) rel told) fun res s2 z => ?_)
  match res, z with
  | .error e, z => exact out pins σ H s e s2 I z
  | .ok (.ret u), z => exact I.after z
  | .ok .next, z => exact z.elim
  | .ok .brk, z => exact z.elim
  | .ok .cont, z => exact z.elim
theorem pe_callG {x : Str} {p pos : Pos} {e : Expr} {es : List Expr} {t : TA} (F : FnG X.prog X.w X.K X.mg X.base CX k f fd ps sp) (nothing : X.A.guards = some []) (room : Room k X.A) (hg : Gl X x) (hm : X.mg x = some (.ref f)) (kp : PySem.W.keepIn X.K (.ref f) = true)
    (hb : Binds X.K fd ps ds) (hd : Vals dvs ds) (out : Passes CX X E) (ha : PA X (e :: es) t) (nd : (x == ("__debug__" : Str)) = false := by decide) (he : starEach (e :: es) X.env = (false, eval e X.env) :: starEach es X.env := by rfl)
    (hpl : (backTo pos (starEach es X.env)).any (·.1) = false := by rfl) : PE X (.Call (.Name x p) (e :: es) [] pos) (tCall sp dvs E t) := by
  refine ⟨fun pins s σ H Q I told => wpAny_Call_Name_kw (ld_glob I hg hm ?_ nd)⟩
  refine PySem.W.callWith_K (h₀ := X.base) I.ok.mod.kin kp (thn (ha.run pos pins s σ H _ I told) ?_) he hpl
  rintro us s1 ⟨vs, H1, J, r, q⟩
  exact ⟨J.kIn, runG F nothing room hb hd out J r q⟩
end
/-! ### what is shown by repr: plain data, whose lists and dicts were made by the law -/
def kD : Key → PyData
  | .inl i => .int i
  | .inr x => .str x
mutual
inductive Sh (H : Hp) : V → PyData → Prop
  | non : Sh H .non .none
  | bl (b : Bool) : Sh H (.bl b) (.bool b)
  | int (i : Int) : Sh H (.int i) (.int i)
  | str (x : Str) : Sh H (.str x) (.str x)
  | lst {a : Addr} {xs : List V} {ds : List PyData} : H a = some (.lst xs) → a ≠ sysModules → ShAll H xs ds → Sh H (.ref a) (.list ds)
  | tup {a : Addr} {xs : List V} {ds : List PyData} : H a = some (.tup xs) → ShAll H xs ds → Sh H (.ref a) (.tuple ds)
  | dic {a : Addr} {kvs : List (Key × V)} {ds : List PyData} : H a = some (.dK kvs) → ShAll H (kvs.map (·.2)) ds → Sh H (.ref a) (.dict ((kvs.map fun kv => kD kv.1).zip ds))
inductive ShAll (H : Hp) : List V → List PyData → Prop
  | nil : ShAll H [] []
  | cons {v : V} {vs : List V} {d : PyData} {ds : List PyData} : Sh H v d → ShAll H vs ds → ShAll H (v :: vs) (d :: ds)
end
theorem ShAll.length {H : Hp} : ∀ {vs : List V} {ds : List PyData}, ShAll H vs ds → vs.length = ds.length
  | _, _, .nil => rfl
  | _, _, .cons _ t => by rw [List.length_cons, List.length_cons, t.length]
mutual
theorem Sh.same {H H' : Hp} (s : Same H H') : ∀ {v : V} {d : PyData}, Sh H v d → Sh H' v d
  | _, _, .non => .non
  | _, _, .bl b => .bl b
  | _, _, .int i => .int i
  | _, _, .str x => .str x
  | _, _, .lst h n t => .lst (s _ _ h) n (t.same s)
  | _, _, .tup h t => .tup (s _ _ h) (t.same s)
  | _, _, .dic h t => .dic (s _ _ h) (t.same s)
theorem ShAll.same {H H' : Hp} (s : Same H H') : ∀ {vs : List V} {ds : List PyData}, ShAll H vs ds → ShAll H' vs ds
  | _, _, .nil => .nil
  | _, _, .cons h t => .cons (h.same s) (t.same s)
end
/-- the name of the class of such data -/
def tyD : PyData → String
  | .none => "NoneType"
  | .bool _ => "bool"
  | .int _ => "int"
  | .str _ => "str"
  | .list _ => "list"
  | .tuple _ => "tuple"
  | .dict _ => "dict"
theorem Sh.ty {K : PySem.W.Frag} {H : Hp} {v : V} {d : PyData} (h : Sh H v d) : TyX K H v (.type (tyD d)) := by
  cases h with
  | non => exact .base .non
  | bl b => exact .base (.bl b)
  | int i => exact .base (.int i)
  | str x => exact .base (.str x)
  | lst h _ _ => exact .base (.lst h)
  | tup h _ => exact .base (.tup h)
  | dic h _ => exact .base (.dK h)
section
variable {X : Cx} {pins : List (Addr × Obj)} {σ : L2.St} {H : Hp} {s : Shared}
theorem pairs_keys {P : Program} {w : World} {h : Heap} : ∀ {es : List DictEntry} {kvs : List (Key × Value)}, Pairs (mixKind P w) es kvs → ReadsAll h (es.map (·.key)) (kvs.map fun kv => kD kv.1) []
  | _, _, .nil => .nil
  | _, _, .cons (kv := kv) hk _ t => by
    have r := pairs_keys (h := h) t
    rcases keyIs_shape (k := kv.1) hk with ⟨i, u, e1, e2⟩ | ⟨x, u, e1, e2⟩
    · rw [List.map_cons, List.map_cons, e1, e2]
      exact ReadsAll.cons (as := []) (.int i u) r
    · rw [List.map_cons, List.map_cons, e1, e2]
      exact ReadsAll.cons (as := []) (.str x u) r
theorem pairs_vals {P : Program} {w : World} : ∀ {es : List DictEntry} {kvs : List (Key × Value)}, Pairs (mixKind P w) es kvs → es.map (·.val) = kvs.map (·.2)
  | _, _, .nil => rfl
  | _, _, .cons _ hv t => by rw [List.map_cons, List.map_cons, hv, pairs_vals t]
theorem kv_rel : ∀ {kvs : List (Key × V)} {vs : List (Key × Value)}, KV kvs vs → kvs.map (·.1) = vs.map (·.1) ∧ Vals (kvs.map (·.2)) (vs.map (·.2))
  | _, _, .nil => ⟨rfl, .nil⟩
  | _, _, .cons h t => by
    obtain ⟨a, b⟩ := kv_rel t
    exact ⟨by rw [List.map_cons, List.map_cons, a, h.1], .cons h.2 b⟩
mutual
theorem Sh.reads (I : Inv X pins σ H s) : ∀ (v : V) (d : PyData) (u : Value), Sh H v d → RelV v u → ∃ as, Reads s.heap u d as ∧ sysModules ∉ as
  | _, _, _, .non, r => by cases r; exact ⟨_, .none, List.not_mem_nil⟩
  | _, _, _, .bl b, r => by cases r; exact ⟨_, .bool b, List.not_mem_nil⟩
  | _, _, _, .int i, r => by obtain ⟨t, rfl⟩ := r; exact ⟨_, .int i t, List.not_mem_nil⟩
  | _, _, _, .str x, r => by obtain ⟨t, rfl⟩ := r; exact ⟨_, .str x t, List.not_mem_nil⟩
  | _, _, _, .lst (a := a) (xs := xs) h n t, r => by
    cases r
    obtain ⟨_, its, c, rv, ho⟩ := (show ObjOk X.prog X.w H s.heap a (.lst xs) from I.hok a _ h)
    obtain ⟨as, q, m⟩ := ShAll.reads I _ _ its t rv
    exact ⟨_, .list ho rfl rfl (by simpa using q), fun z => (List.mem_cons.mp z).elim (fun e => n e.symm) m⟩
  | _, _, _, .tup (a := a) (xs := xs) h t, r => by
    cases r
    obtain ⟨_, its, rv, o, ho, hc, c, hd⟩ := (show ObjOk X.prog X.w H s.heap a (.tup xs) from I.hok a _ h)
    obtain ⟨as, q, m⟩ := ShAll.reads I _ _ its t rv
    exact ⟨_, .tuple ho hc hd (by simpa using q), m⟩
  | _, _, _, .dic (a := a) (kvs := kvs) (ds := ds) h t, r => by
    cases r
    obtain ⟨_, low, vs, rel, o, es, ep, ho, hx, hd, _, hp, _⟩ := (show ObjOk X.prog X.w H s.heap a (.dK kvs) from I.hok a _ h)
    obtain ⟨rk, rv⟩ := kv_rel rel
    obtain ⟨as, q, m⟩ := ShAll.reads I _ _ (vs.map (·.2)) t rv
    have k1 : (kvs.map fun kv => kD kv.1) = vs.map fun kv => kD kv.1 := by
      have := congrArg (List.map kD) rk
      rw [List.map_map, List.map_map] at this
      exact this
    have ln : (kvs.map fun kv => kD kv.1).length = ds.length := by
      have := t.length
      rw [List.length_map] at this
      rw [List.length_map, this]
    refine ⟨_, .dict (as := []) (bs := as) ho hx.1 hd ?_ ?_, ?_⟩
    · rw [List.map_fst_zip (Nat.le_of_eq ln), k1]
      exact pairs_keys hp
    · rw [List.map_snd_zip (Nat.le_of_eq ln.symm), pairs_vals hp]
      exact q
    · intro z
      rcases List.mem_cons.mp z with e | e
      · exact absurd low (by rw [← e]; simp)
      · exact m e
theorem ShAll.reads (I : Inv X pins σ H s) : ∀ (vs : List V) (ds : List PyData) (us : List Value), ShAll H vs ds → Vals vs us → ∃ as, ReadsAll s.heap us ds as ∧ sysModules ∉ as
  | _, _, _, .nil, r => by cases r; exact ⟨_, .nil, List.not_mem_nil⟩
  | _, _, _, .cons h t, r => by
    cases r with
    | cons r1 r2 =>
      obtain ⟨as, q1, m1⟩ := Sh.reads I _ _ _ h r1
      obtain ⟨bs, q2, m2⟩ := ShAll.reads I _ _ _ t r2
      exact ⟨_, .cons q1 q2, fun z => (List.mem_append.mp z).elim m1 m2⟩
end
end
def rRepr : List V → Hp → VK → Prop := fun xs H Q => ∃ x d, xs = [x] ∧ Sh H x d ∧ d.showable = true ∧ d.shown.length ≤ sizeLine ∧ d.depth ≤ 50 ∧ Q (.str d.shown) H
theorem call_repr {X : Cx} (nothing : X.A.guards = some []) (hu : X.A.units + 64 < cLine) : CallR X (.builtin "repr") rRepr := by
  intro pins s σ H xs us Q I r h
  obtain ⟨x, d, rfl, sh, able, fits, deep, q⟩ := h
  cases r with
  | @cons _ u _ _ r1 r2 =>
    cases r2
    obtain ⟨as, rd, low⟩ := Sh.reads I _ _ _ sh r1
    have fin : ∀ h' t tk, (∀ b o, s.heap.get? b = some o → h'.get? b = some o) → EP X pins σ Q (.str d.shown t) { s with heap := h', toks := tk } := fun h' t tk kept => ⟨.str d.shown, H, I.kept kept, ⟨t, rfl⟩, q⟩
    cases sh with
    | non => cases r1; exact PySem.P.repr_of_none (fin _ _ _ fun _ _ z => z)
    | bl b => cases r1; exact PySem.P.repr_of_bool (fin _ _ _ fun _ _ z => z)
    | int i => obtain ⟨t, rfl⟩ := r1; exact PySem.P.repr_of_int (of_decide_eq_true able) (fin _ _ _ fun _ _ z => z)
    | str x => obtain ⟨t, rfl⟩ := r1; exact PySem.P.repr_of_str (fin _ _ _ fun _ _ z => z) fits
    | lst _ _ _ => cases r1; exact repr_of_reads' rd able (fun _ => low) nothing (by omega) (fun _ _ z => z) fin fits
    | tup _ _ => cases r1; exact repr_of_reads' rd able (fun _ => low) nothing (by omega) (fun _ _ z => z) fin fits
    | dic _ _ => cases r1; exact repr_of_reads' rd able (fun _ => low) nothing (by omega) (fun _ _ z => z) fin fits
/-- a display's list is none of the interpreter's own -/
def tLstN (t : TA) : TE := fun σ H Q => t σ H fun xs H1 => xs.length ≤ sizeLine ∧ ∀ p, H1 p = none → p ≠ sysModules → Q (.ref p) (upd H1 p (.lst xs))
theorem pe_lstN {X : Cx} {es : List Expr} {t : TA} {pos : Pos} (h : PA X es t) : PE X (.List es pos) (tLstN t) := by
  refine ⟨fun pins s σ H Q I told => wpAny_List_spliced (thn (h.run pos pins s σ H _ I told) ?_)⟩
  rintro us s1 ⟨xs, H1, J, r, small, q⟩
  have free : H1 s1.heap.objs.size = none := J.hok.fresh (Nat.le_refl _)
  refine ⟨by rw [← r.length]; exact small, .ref s1.heap.objs.size, upd H1 s1.heap.objs.size (.lst xs), J.laid (t' := s1.toks) (fun b u z => Heap.get?_push_of_some _ z) (Nat.le_refl _) ⟨small, us, 0, r, Heap.get?_push_size _ rfl⟩, rfl, q _ free (Nat.ne_of_gt J.big)⟩
/-! ### the end of a law whose defs are called where nothing is being shown -/
theorem law_G {P : Program} {w : World} {K : PySem.W.Frag} {mg mb : Str → Option Value} {CX : CXT} {k : Nat} {fa a : Addr} {fd : FuncData} {x : Str} {sp : Sp} {s : Shared} {vs : List Value} {ns : List Int}
    (inK : K.In s.heap) (gl : s.heap.Ns mainGlobals mg) (bl : s.heap.Ns builtinsNs mb) (boot : ∀ y : Str, y ≠ "__name__" → mb y = bootBuiltins y) (lim : s.heap.NoLimit) (ng : s.gens = #[])
    (at_ : s.heap.get? a = some { cls := .type "list", data := .seq vs.toArray }) (are : IntsAre vs ns) (small : ns.length ≤ sizeLine) (room : Room k callerA)
    (F : ∀ bs : Heap, K.In bs → bs.Ns mainGlobals mg → FnG P w K mg bs CX k fa fd [x] sp) (bound : ∀ (s : Shared) (u : Value), BindsTo s fd ⟨[u], []⟩ [(x, u)])
    (told : ∀ H : Hp, Only H → SqL K H a (ns.map V.int) → sp [.ref a] H (fun v _ => v = .bl true) fun _ _ _ => False)
    (noX : ∀ H e s', CX [] H s (fun _ _ _ => False) e s' → False) :
    codeAny (model P w) callerA (.call (.ref fa) ⟨[.ref a], []⟩) (fun r s' => r = .ok (.ret (.bool true)) ∧ OldK s.heap s'.heap ∧ s'.os = s.os ∧ AllBare s'.gens) s := by
  have main : ∀ H : Hp, Only H → SqL K H a (ns.map V.int) → HOk P w H s.heap → (∀ b, H b ≠ none → b = a) → (H a ≠ none → K.lookup a = none) →
      codeAny (model P w) callerA (.call (.ref fa) ⟨[.ref a], []⟩) (fun r s' => r = .ok (.ret (.bool true)) ∧ OldK s.heap s'.heap ∧ s'.os = s.os ∧ AllBare s'.gens) s := by
    intro H only list ok alone out
    have seen : ∀ {b : Addr} {o : Obj}, s.heap.get? b = some o → H b = none → (hidT s.heap H).get? b = some o := fun z n => hidT_get z n
    have dict : ∀ {b : Addr} {o : Obj} {es : Array DictEntry} {ep : Nat}, s.heap.get? b = some o → o.data = .dict es ep → H b = none := by
      intro b o es ep z dz
      refine Classical.byContradiction fun some_ => ?_
      have eb := alone b some_
      rw [eb, at_] at z
      cases z
      cases (show Data.seq vs.toArray _ = Data.dict es ep from dz)
    have names : ∀ {b : Addr} {m : Str → Option Value}, s.heap.Ns b m → (hidT s.heap H).Ns b m := by
      rintro b m ⟨o, es, ep, z, dz, rest⟩
      exact ⟨o, es, ep, seen z (dict z dz), dz, rest⟩
    have inB : K.In (hidT s.heap H) := by
      intro b o z
      refine seen (inK b o z) (Classical.byContradiction fun some_ => ?_)
      have eb := alone b some_
      subst eb
      rw [out some_] at z
      cases z
    obtain ⟨ml, l1, l2⟩ := lim
    have mod : Mod K mg (hidT s.heap H) := ⟨inB, names gl, ⟨mb, names bl, boot⟩, ⟨ml, names l1, l2⟩⟩
    have env : Env0 P w K mg (hidT s.heap H) callerA [] s H := { frames := rfl, mod := mod, bs := fun b o z => of_hidT z, bsz := Nat.le_of_eq (hidT_size _ _), funs := trivial, frf := (fun b hb => by cases (show b ∈ ([] : List Addr) from hb)), hok := ok, bare := .of_eq ng }
    refine codeAny_mono ((F _ inB (names gl)).go callerA rfl room [] s H _ [.ref a] [.ref a] _ _ env (bound s (.ref a)) (.cons rfl .nil) (told H only list)) fun r s2 z => ?_
    match r, z with
    | .error e, z => exact (noX H e s2 z).elim
    | .ok .next, z => exact z.elim
    | .ok .brk, z => exact z.elim
    | .ok .cont, z => exact z.elim
    | .ok (.ret u), ⟨v, H2, os, bare, un, ok2, rel, q⟩ =>
      cases (show v = V.bl true from q)
      cases (show u = Value.bool true from rel)
      refine ⟨rfl, OldK.of_keep fun b o z => ?_, os, bare⟩
      by_cases hb : H b = none
      · exact un.keep b o z hb (fun m => by cases (show b ∈ ([] : List Addr) from m)) (fun m => by cases m)
      · rcases only b with n | ⟨ob, xs, f⟩
        · exact absurd n hb
        · have o1 := (ok b _ f).1
          have o2 := (ok2 b _ (un.frzs b ob _ f)).1
          rw [z] at o1
          rw [Option.some.inj o1]
          exact o2
  have rel := vals_ints are
  cases hk : K.lookup a with
  | some o =>
    have z := inK a o hk
    rw [at_] at z
    cases z
    exact main (fun _ => none) (fun _ => .inl rfl) (.inr ⟨_, vs.toArray, _, hk, rfl, rfl, rfl, by rw [List.size_toArray, are.length]; exact small, by simpa using rel⟩) (fun b u z => by cases z) (fun b z => absurd rfl z) fun z => absurd rfl z
  | none =>
    have on : ∀ b : Addr, b = a → (if b = a then some (HO.frz { cls := .type "list", data := .seq vs.toArray } (.lst (ns.map V.int))) else none) = some (HO.frz { cls := .type "list", data := .seq vs.toArray } (.lst (ns.map V.int))) := fun b e => if_pos e
    refine main (fun b => if b = a then some (.frz { cls := .type "list", data := .seq vs.toArray } (.lst (ns.map V.int))) else none) (fun b => ?_) (.inl (.inr ⟨_, on a rfl⟩)) (fun b u z => ?_) (fun b z => ?_) fun _ => hk
    · rcases Classical.em (b = a) with e | e
      · exact .inr ⟨_, _, on b e⟩
      · exact .inl (if_neg e)
    · rcases Classical.em (b = a) with e | e
      · have := (on b e).symm.trans z
        cases this
        subst e
        exact ⟨at_, by rw [List.length_map]; exact small, vs, _, rel, at_⟩
      · have := (if_neg e).symm.trans z
        cases this
    · exact Classical.byContradiction fun e => z (if_neg e)
theorem walk_G {l : PySem.W.OpenLaw} {n k : Nat} {q : Program} {loose : List Str} {XP : (Str → Option Value) → Heap → Prop} {YP : World → Heap → Prop} {d : DefRec} {K : Params → PySem.W.Frag} {CX : World → CXT} {sp : World → Sp} {x : Str}
    (most : l.most = some n) (small : n ≤ sizeLine) (nodef : d.params.defaults = []) (room : Room k callerA) (inK : ∀ (w : World) (h : Heap), YP w h → (K w.params).In h)
    (F : ∀ (w : World) (mg : Str → Option Value) (fa : Addr) (h : Heap), (K w.params).In h → h.Ns mainGlobals mg → mg d.name = some (.ref fa) →
      ∃ fd : FuncData, (∀ (s : Shared) (u : Value), BindsTo s fd ⟨[u], []⟩ [(x, u)]) ∧ ∀ bs : Heap, (K w.params).In bs → bs.Ns mainGlobals mg → FnG l.prog w (K w.params) mg bs (CX w) k fa fd [x] (sp w))
    (told : ∀ (w : World) (H : Hp) (a : Addr) (ns : List Int), ns.length ≤ n → Only H → SqL (K w.params) H a (ns.map V.int) → sp w [.ref a] H (fun v _ => v = .bl true) fun _ _ _ => False)
    (noX : ∀ (w : World) (H : Hp) (s : Shared) (e : Value) (s' : Shared), CX w [] H s (fun _ _ _ => False) e s' → False) :
    PySem.W.WalkO q loose XP YP l.row.toRowW d [] (fun f vs => PySem.call f vs) := by
  refine Att.attach_call most nodef fun w s₀ s₁ mg mb fa o pm cd doc a vs ns G Y ho hd hcd hmg hobj hints hlen hg => ?_
  obtain ⟨fd, bound, FG⟩ := F w mg fa _ (inK w _ Y) G.T.g hmg
  exact law_G (inK w _ Y) G.T.g G.T.b G.T.builtins G.T.nolimit hg hobj hints (Nat.le_trans hlen small) room FG bound (fun H only list => told w H a ns hlen only list) fun H e s2 => noX w H s₁ e s2

/-! ### the end of a law whose defs are called where nothing is being shown, with tables of code objects -/
def LawAtG (l : PySem.W.OpenLaw) (w : World) (K : PySem.W.Frag) (CX : CXT) (k n : Nat) (x : Str) (mg : Str → Option Value) (f : Addr) (top : Heap) : Prop :=
  ∃ (fd : FuncData) (ts : List (Addr × Addr)) (sp : Sp), (∀ t ∈ ts, top.get? t.2 = some { cls := .none, data := .fields #[] }) ∧ (∀ t ∈ ts, K.lookup t.2 = none) ∧ (∀ t ∈ ts, PySem.W.CodeHd top t.1 t.2) ∧ (∀ (st : Shared) (v : Value), BindsTo st fd ⟨[v], []⟩ [(x, v)]) ∧
    (∀ (H : Hp) (p : Addr) (zs : List Int), zs.length ≤ n → (∀ z ∈ zs, Builtin.Int.intBits z ≤ 1048576) → (∀ t ∈ ts, H t.2 = some (.tbl #[])) → SqL K H p (zs.map V.int) → sp [.ref p] H (fun v _ => v = .bl true) fun _ _ _ => False) ∧
    ∀ under : Heap, K.In under → under.Ns mainGlobals mg → (∀ t ∈ ts, LamX.TabB under mg t.1 t.2) → FnG l.prog w K mg under CX k f fd [x] sp
theorem law_GT {P : Program} {w : World} {K : PySem.W.Frag} {mg mb : Str → Option Value} {CX : CXT} {k : Nat} {f p : Addr} {ts : List (Addr × Addr)} {fd : FuncData} {x : Str} {sp : Sp} {s : Shared} {us : List Value} {zs : List Int}
    (inK : K.In s.heap) (gl : s.heap.Ns mainGlobals mg) (bl : s.heap.Ns builtinsNs mb) (boot : ∀ y : Str, y ≠ "__name__" → mb y = bootBuiltins y) (lim : s.heap.NoLimit) (ng : s.gens = #[])
    (bare : ∀ t ∈ ts, s.heap.get? t.2 = some { cls := .none, data := .fields #[] }) (out : ∀ t ∈ ts, K.lookup t.2 = none) (code : ∀ t ∈ ts, PySem.W.CodeHd s.heap t.1 t.2)
    (bmod : ∃ (m : Addr) (o : Obj), mg "__builtins__" = some (.ref m) ∧ m ≠ builtinsNs ∧ s.heap.get? m = some o ∧ o.cls = .type "module" ∧ o.dict = some builtinsNs ∧ o.data = .plain)
    (script : s.heap.get? p = some { cls := .type "list", data := .seq us.toArray }) (are : IntsAre us zs) (small : zs.length ≤ sizeLine) (room : Room k callerA)
    (F : ∀ under : Heap, K.In under → under.Ns mainGlobals mg → (∀ t ∈ ts, LamX.TabB under mg t.1 t.2) → FnG P w K mg under CX k f fd [x] sp) (bound : ∀ (st : Shared) (v : Value), BindsTo st fd ⟨[v], []⟩ [(x, v)])
    (told : ∀ H : Hp, (∀ t ∈ ts, H t.2 = some (.tbl #[])) → SqL K H p (zs.map V.int) → sp [.ref p] H (fun v _ => v = .bl true) fun _ _ _ => False)
    (noX : ∀ H e st, CX [] H s (fun _ _ _ => False) e st → False) :
    codeAny (model P w) callerA (.call (.ref f) ⟨[.ref p], []⟩) (fun r st => r = .ok (.ret (.bool true)) ∧ OldK s.heap st.heap ∧ st.os = s.os ∧ AllBare st.gens) s := by
  have tabAt : ∀ c ∈ ts.map Prod.snd, s.heap.get? c = some { cls := .none, data := .fields #[] } := by
    intro c hc
    obtain ⟨t, ht, rfl⟩ := List.mem_map.mp hc
    exact bare t ht
  have inTs : ∀ {t : Addr × Addr}, t ∈ ts → t.2 ∈ ts.map Prod.snd := fun ht => List.mem_map_of_mem ht
  have pNo : ¬ p ∈ ts.map Prod.snd := by
    intro hp
    have both := (tabAt p hp).symm.trans script
    have kinds := congrArg (fun o : Option Obj => o.map Obj.cls) both
    simp at kinds
  have main : ∀ H : Hp, (∀ t ∈ ts, H t.2 = some (.tbl #[])) → (∀ c, H c = none ∨ c ∈ ts.map Prod.snd ∨ ∃ o ys, H c = some (.frz o (.lst ys))) → SqL K H p (zs.map V.int) → HOk P w H s.heap → (∀ c, H c ≠ none → c = p ∨ c ∈ ts.map Prod.snd) → (H p ≠ none → K.lookup p = none) →
      codeAny (model P w) callerA (.call (.ref f) ⟨[.ref p], []⟩) (fun r st => r = .ok (.ret (.bool true)) ∧ OldK s.heap st.heap ∧ st.os = s.os ∧ AllBare st.gens) s := by
    intro H tabs kinds list ok alone off
    have free : ∀ {c : Addr} {o : Obj}, s.heap.get? c = some o → (∀ ys m, ¬ o.data = .seq ys m) → ¬ o.data = .fields #[] → H c = none := by
      intro c o ho n1 n2
      refine Classical.byContradiction fun some_ => ?_
      rcases alone c some_ with rfl | hc
      · cases Option.some.inj (ho.symm.trans script)
        exact n1 _ _ rfl
      · cases Option.some.inj (ho.symm.trans (tabAt c hc))
        exact n2 rfl
    have names : ∀ {c : Addr} {m : Str → Option Value}, s.heap.Ns c m → (hidT s.heap H).Ns c m := by
      rintro c m ⟨o, es, ep, ho, dz, more⟩
      refine ⟨o, es, ep, hidT_get ho (free ho (fun ys j z => ?_) fun z => ?_), dz, more⟩ <;> exact Data.noConfusion (dz.symm.trans z)
    have inB : K.In (hidT s.heap H) := by
      intro c o ho
      refine hidT_get (inK c o ho) (Classical.byContradiction fun some_ => ?_)
      rcases alone c some_ with rfl | hc
      · exact absurd (ho.symm.trans (off some_)) (by simp)
      · obtain ⟨t, ht, rfl⟩ := List.mem_map.mp hc
        exact absurd (ho.symm.trans (out t ht)) (by simp)
    obtain ⟨ml, l1, l2⟩ := lim
    have mod : L2.Mod K mg (hidT s.heap H) := ⟨inB, names gl, ⟨mb, names bl, boot⟩, ⟨ml, names l1, l2⟩⟩
    have tables : ∀ t ∈ ts, LamX.TabB (hidT s.heap H) mg t.1 t.2 := by
      intro t ht
      constructor
      · obtain ⟨o, ys, file, tf, flags, tg, inF, text, tt, c1, c2, c3, c4, c5, c6, c7, c8, c9, c10⟩ := code t ht
        refine ⟨o, ys, file, tf, flags, tg, inF, text, tt, hidT_get c1 (free c1 (fun us j z => Data.noConfusion (c3.symm.trans z)) fun z => ?_), c2, c3, c4, c5, c6, c7, c8, c9, c10⟩
        have z2 := c3.symm.trans z
        cases z2
        simp at c4
      · obtain ⟨m, o, b1, b2, b3, b4, b5, b6⟩ := bmod
        refine ⟨m, o, b1, b2, fun z => ?_, fun z => ?_, hidT_get b3 (free b3 (fun us j z => Data.noConfusion (b6.symm.trans z)) fun z => Data.noConfusion (b6.symm.trans z)), b4, b5, b6⟩
        · obtain ⟨o', es, ep, ho, dz, _⟩ := gl
          subst z
          cases Option.some.inj (b3.symm.trans ho)
          exact Data.noConfusion (b6.symm.trans dz)
        · subst z
          cases Option.some.inj (b3.symm.trans (bare t ht))
          exact Data.noConfusion b6
      · intro z
        obtain ⟨o', es, ep, ho, dz, _⟩ := gl
        rw [z] at ho
        cases Option.some.inj (ho.symm.trans (bare t ht))
        exact Data.noConfusion dz
    have env : Env0 P w K mg (hidT s.heap H) callerA [] s H := { frames := rfl, mod := mod, bs := fun c o z => of_hidT z, bsz := Nat.le_of_eq (hidT_size _ _), funs := trivial, frf := (fun c hc => by cases (show c ∈ ([] : List Addr) from hc)), hok := ok, bare := .of_eq ng }
    refine codeAny_mono ((F _ inB (names gl) tables).go callerA rfl room [] s H _ [.ref p] [.ref p] _ _ env (bound s (.ref p)) (.cons rfl .nil) (told H tabs list)) fun r st z => ?_
    match r, z with
    | .error e, z => exact (noX H e st z).elim
    | .ok .next, z => exact z.elim
    | .ok .brk, z => exact z.elim
    | .ok .cont, z => exact z.elim
    | .ok (.ret u), ⟨v, H2, os, bg, un, ok2, rel, q⟩ =>
      cases (show v = V.bl true from q)
      cases (show u = Value.bool true from rel)
      have old : ∀ c o, ¬ c ∈ ts.map Prod.snd → s.heap.get? c = some o → st.heap.get? c = some o := by
        intro c o nc ho
        by_cases hc : H c = none
        · exact un.keep c o ho hc (fun m => by cases (show c ∈ ([] : List Addr) from m)) (fun m => by cases m)
        · rcases kinds c with n | n | ⟨ob, ys, fz⟩
          · exact absurd n hc
          · exact absurd n nc
          · have o1 := (ok c _ fz).1
            have o2 := (ok2 c _ (un.frzs c ob _ fz)).1
            rw [ho] at o1
            rw [Option.some.inj o1]
            exact o2
      have grown : ∀ c ∈ ts.map Prod.snd, ∃ more : Array Value, st.heap.get? c = some { cls := .none, data := .fields more } := by
        intro c hc
        obtain ⟨t, ht, rfl⟩ := List.mem_map.mp hc
        obtain ⟨more, hm⟩ := un.tbls t.2 #[] (tabs t ht)
        exact ⟨_, ok2 t.2 _ hm⟩
      refine ⟨rfl, ⟨fun c o ho => ?_, fun c o ho => ?_⟩, os, bg⟩
      · by_cases hc : c ∈ ts.map Prod.snd
        · obtain ⟨more, hm⟩ := grown c hc
          obtain ⟨t, ht, rfl⟩ := List.mem_map.mp hc
          cases Option.some.inj (ho.symm.trans (bare t ht))
          exact .inr (.inl ⟨((code t ht).tab (bare t ht)).isCodeTable, rfl, #[], more, rfl, by rw [Array.empty_append]; exact hm⟩)
        · exact .inl (old c o hc ho)
      · by_cases hc : c ∈ ts.map Prod.snd
        · obtain ⟨more, hm⟩ := grown c hc
          exact ⟨_, hm⟩
        · exact ⟨o, old c o hc ho⟩
  have rel := vals_ints are
  let base : Hp := fun c => if c ∈ ts.map Prod.snd then some (.tbl #[]) else none
  have onT : ∀ {c : Addr}, c ∈ ts.map Prod.snd → base c = some (.tbl #[]) := fun hc => if_pos hc
  have offT : ∀ {c : Addr}, ¬ c ∈ ts.map Prod.snd → base c = none := fun hc => if_neg hc
  cases hk : K.lookup p with
  | some o =>
    cases Option.some.inj ((inK p o hk).symm.trans script)
    refine main base (fun t ht => onT (inTs ht)) (fun c => ?_) (.inr ⟨_, us.toArray, _, hk, rfl, rfl, rfl, by rw [List.size_toArray, are.length]; exact small, by simpa using rel⟩) (fun c u z => ?_) (fun c z => ?_) fun z => absurd (offT pNo) z
    · rcases Classical.em (c ∈ ts.map Prod.snd) with hc | hc
      · exact .inr (.inl hc)
      · exact .inl (offT hc)
    · rcases Classical.em (c ∈ ts.map Prod.snd) with hc | hc
      · cases Option.some.inj ((onT hc).symm.trans z)
        exact tabAt c hc
      · exact absurd ((offT hc).symm.trans z) (by simp)
    · exact .inr (Classical.byContradiction fun hc => z (offT hc))
  | none =>
    let frz : HO := .frz { cls := .type "list", data := .seq us.toArray } (.lst (zs.map V.int))
    have onP : (fun c => if c = p then some frz else base c) p = some frz := if_pos rfl
    have offP : ∀ {c : Addr}, ¬ c = p → (fun c => if c = p then some frz else base c) c = base c := fun hc => if_neg hc
    refine main (fun c => if c = p then some frz else base c) (fun t ht => ?_) (fun c => ?_) (.inl (.inr ⟨_, onP⟩)) (fun c u z => ?_) (fun c z => ?_) fun _ => hk
    · refine (offP fun e => pNo ?_).trans (onT (inTs ht))
      rw [← e]
      exact inTs ht
    · rcases Classical.em (c = p) with rfl | e
      · exact .inr (.inr ⟨_, _, onP⟩)
      · rcases Classical.em (c ∈ ts.map Prod.snd) with hc | hc
        · exact .inr (.inl hc)
        · exact .inl ((offP e).trans (offT hc))
    · rcases Classical.em (c = p) with rfl | e
      · cases Option.some.inj (onP.symm.trans z)
        exact ⟨script, by rw [List.length_map]; exact small, us, _, rel, script⟩
      · have z := (offP e).symm.trans z
        rcases Classical.em (c ∈ ts.map Prod.snd) with hc | hc
        · cases Option.some.inj ((onT hc).symm.trans z)
          exact tabAt c hc
        · exact absurd ((offT hc).symm.trans z) (by simp)
    · rcases Classical.em (c = p) with e | e
      · exact .inl e
      · exact .inr (Classical.byContradiction fun hc => z ((offP e).trans (offT hc)))
theorem walk_GT {l : PySem.W.OpenLaw} {n k : Nat} {q : Program} {loose : List Str} {XP : (Str → Option Value) → Heap → Prop} {YP : World → Heap → Prop} {d : DefRec} {CX : World → CXT} {x : Str}
    (most : l.most = some n) (small : n ≤ sizeLine) (nodef : d.params.defaults = []) (room : Room k callerA)
    (F : ∀ (w : World) (mg : Str → Option Value) (f : Addr) (top : Heap), YP w top → top.Ns mainGlobals mg → mg d.name = some (.ref f) → ∃ K : PySem.W.Frag, K.In top ∧ LawAtG l w K (CX w) k n x mg f top)
    (noX : ∀ (w : World) (H : Hp) (s : Shared) (e : Value) (st : Shared), CX w [] H s (fun _ _ _ => False) e st → False) :
    PySem.W.WalkO q loose XP YP l.row.toRowW d [] (fun f vs => PySem.call f vs) := by
  refine Att.attach_callB most nodef fun w s0 s mg mb f o pm cd doc p us zs G Y ho hd hcd named script are few bits ng => ?_
  obtain ⟨K, inK, fd, ts, sp, bare, out, code, bound, told, FG⟩ := F w mg f _ Y G.T.g named
  exact law_GT inK G.T.g G.T.b G.T.builtins G.T.nolimit ng bare out code G.T.bmain script are (Nat.le_trans few small) room FG bound (fun H tabs list => told H p zs few bits tabs list) fun H e st => noX w H s e st

/-! ### data made by the law or the program: numbers, truths, texts, lists and tuples of these -/
mutual
inductive Tk (H : Hp) : V → PyData → Prop
  | bl (b : Bool) : Tk H (.bl b) (.bool b)
  | int (i : Int) : Tk H (.int i) (.int i)
  | str (x : Str) : Tk H (.str x) (.str x)
  | lst {a : Addr} {xs : List V} {ds : List PyData} : H a = some (.lst xs) → TkAll H xs ds → Tk H (.ref a) (.list ds)
  | tup {a : Addr} {xs : List V} {ds : List PyData} : H a = some (.tup xs) → TkAll H xs ds → Tk H (.ref a) (.tuple ds)
inductive TkAll (H : Hp) : List V → List PyData → Prop
  | nil : TkAll H [] []
  | cons {v : V} {vs : List V} {d : PyData} {ds : List PyData} : Tk H v d → TkAll H vs ds → TkAll H (v :: vs) (d :: ds)
end
theorem TkAll.length {H : Hp} : ∀ {vs : List V} {ds : List PyData}, TkAll H vs ds → vs.length = ds.length
  | _, _, .nil => rfl
  | _, _, .cons _ t => by rw [List.length_cons, List.length_cons, t.length]
mutual
theorem Tk.same {H H' : Hp} (s : Same H H') : ∀ {v : V} {d : PyData}, Tk H v d → Tk H' v d
  | _, _, .bl b => .bl b
  | _, _, .int i => .int i
  | _, _, .str x => .str x
  | _, _, .lst h t => .lst (s _ _ h) (t.same s)
  | _, _, .tup h t => .tup (s _ _ h) (t.same s)
theorem TkAll.same {H H' : Hp} (s : Same H H') : ∀ {vs : List V} {ds : List PyData}, TkAll H vs ds → TkAll H' vs ds
  | _, _, .nil => .nil
  | _, _, .cons h t => .cons (h.same s) (t.same s)
end
theorem TkAll.get {H : Hp} : ∀ {xs : List V} {ds : List PyData} {j : Nat} {x : V}, TkAll H xs ds → xs[j]? = some x → ∃ d, ds[j]? = some d ∧ Tk H x d
  | _, _, _, _, .nil, h => by simp at h
  | _, _, 0, _, .cons (d := d) a _, h => by
    cases (Option.some.inj h)
    exact ⟨d, rfl, a⟩
  | _, _, j + 1, _, .cons _ t, h => t.get h
theorem TkAll.append {H : Hp} : ∀ {xs ys : List V} {ds es : List PyData}, TkAll H xs ds → TkAll H ys es → TkAll H (xs ++ ys) (ds ++ es)
  | _, _, _, _, .nil, t => t
  | _, _, _, _, .cons a r, t => .cons a (r.append t)
theorem TkAll.ints {H : Hp} : ∀ ns : List Int, TkAll H (ns.map V.int) (ns.map PyData.int)
  | [] => .nil
  | n :: r => .cons (.int n) (TkAll.ints r)
theorem Tk.int_inv {H : Hp} {v : V} {i : Int} (h : Tk H v (.int i)) : v = .int i := by cases h; rfl
theorem Tk.tup_inv {H : Hp} {v : V} {ds : List PyData} (h : Tk H v (.tuple ds)) : ∃ a xs, v = .ref a ∧ H a = some (.tup xs) ∧ TkAll H xs ds := by
  cases h with
  | tup h t => exact ⟨_, _, rfl, h, t⟩
theorem Tk.lst_inv {H : Hp} {v : V} {ds : List PyData} (h : Tk H v (.list ds)) : ∃ a xs, v = .ref a ∧ H a = some (.lst xs) ∧ TkAll H xs ds := by
  cases h with
  | lst h t => exact ⟨_, _, rfl, h, t⟩
theorem TkAll.int_inv {H : Hp} : ∀ {vs : List V} {ns : List Int}, TkAll H vs (ns.map PyData.int) → vs = ns.map V.int
  | _, [], .nil => rfl
  | _, n :: r, .cons h t => by rw [List.map_cons, h.int_inv, t.int_inv]
/-- heaps without one place -/
def hd1 (p : Addr) (H : Hp) : Hp := fun b => if b = p then none else H b
theorem hd1_le {p : Addr} {H : Hp} : Same (hd1 p H) H := fun b o e => by
  unfold hd1 at e
  by_cases h : b = p
  · rw [if_pos h] at e; cases e
  · rw [if_neg h] at e; exact e
theorem hd1_same {p : Addr} {H H' : Hp} (s : Same H H') : Same (hd1 p H) (hd1 p H') := fun b o e => by
  unfold hd1 at e ⊢
  by_cases h : b = p
  · rw [if_pos h] at e; cases e
  · rw [if_neg h] at e ⊢; exact s _ _ e
theorem hd1_upd {p : Addr} {H : Hp} {o : HO} : Same (hd1 p H) (hd1 p (upd H p o)) := fun b x e => by
  unfold hd1 at e ⊢
  by_cases h : b = p
  · rw [if_pos h] at e; cases e
  · rw [if_neg h] at e ⊢; rw [upd_ne h]; exact e
theorem hd1_at {p b : Addr} {H : Hp} (h : b ≠ p) : hd1 p H b = H b := if_neg h
theorem hd1_of {p : Addr} {H H' : Hp} (s : Same H H') (n : H p = none) : Same H (hd1 p H') := fun b o e => by
  rw [hd1_at (ne_of_none e n)]
  exact s _ _ e
theorem same_of_hd1 {p : Addr} {H H' : Hp} {o : HO} (s : Same H (hd1 p H')) : Same H (upd H' p o) := fun b x e => by
  have z := s b x e
  unfold hd1 at z
  by_cases h : b = p
  · rw [if_pos h] at z; cases z
  · rw [if_neg h] at z; rw [upd_ne h]; exact z

/-! ### tables and gates -/
def tabOf (bs : List Bool) : Str := ⟨(bs.map fun b => if b = true then 49 else 48).toArray⟩
def plc (ws : List Int) : Int := ws.foldl (fun p w => 2 * p + w) 0
def gateM (bs : List Bool) (ws : List Int) : Int := if bs.getD (plc ws).toNat false = true then 1 else 0
theorem plc_snoc (ws : List Int) (w : Int) : plc (ws ++ [w]) = 2 * plc ws + w := by
  unfold plc
  rw [List.foldl_append]
  rfl
theorem plc_take {ws : List Int} {i : Nat} {u : Int} (h : ws[i]? = some u) : plc (ws.take (i + 1)) = 2 * plc (ws.take i) + u := by
  rw [List.take_add_one, h]
  exact plc_snoc _ _
theorem plc_bd : ∀ (n : Nat) (ws : List Int), ws.length = n → (∀ w ∈ ws, w = 0 ∨ w = 1) → 0 ≤ plc ws ∧ plc ws < 2 ^ n := by
  intro n
  induction n with
  | zero =>
    intro ws h _
    cases List.eq_nil_of_length_eq_zero h
    decide
  | succ n ih =>
    intro ws h hw
    have hne : ws ≠ [] := fun z => by rw [z] at h; cases h
    obtain ⟨r, x, rfl⟩ : ∃ r x, ws = r ++ [x] := ⟨ws.dropLast, ws.getLast hne, (List.dropLast_concat_getLast hne).symm⟩
    have hr := ih r (by rw [List.length_append] at h; simpa using h) fun w h' => hw w (List.mem_append_left _ h')
    have hx := hw x (by simp)
    rw [plc_snoc, Int.pow_succ]
    omega
theorem gate01 (bs : List Bool) (ws : List Int) : gateM bs ws = 0 ∨ gateM bs ws = 1 := by
  unfold gateM
  split
  · exact .inr rfl
  · exact .inl rfl
theorem int_sign (b : Bool) : PySem.intText? ⟨#[if b = true then 49 else 48]⟩ = some (if b = true then 1 else 0) := by
  cases b <;> decide +kernel
def spGate (K : PySem.W.Frag) : Sp := fun vs H Q _ => ∃ (bs : List Bool) (la : Addr) (ws : List Int), vs = [.str (tabOf bs), .ref la] ∧ SqL K H la (ws.map V.int) ∧ (∀ w ∈ ws, w = 0 ∨ w = 1) ∧ bs.length = 2 ^ ws.length ∧ ws.length ≤ 3 ∧ Q (.int (gateM bs ws)) H
theorem gate_read {bs : List Bool} {ws : List Int} (hw : ∀ w ∈ ws, w = 0 ∨ w = 1) (hb : bs.length = 2 ^ ws.length) (h3 : ws.length ≤ 3) : ∃ b : Bool, 0 ≤ plc ws ∧ plc ws < 2 ^ 63 ∧ plc ws < (tabOf bs).length ∧ (tabOf bs).cps[(plc ws).toNat]? = some (if b = true then 49 else 48) ∧ gateM bs ws = if b = true then 1 else 0 := by
  obtain ⟨p0, p1⟩ := plc_bd _ ws rfl hw
  have p8 : plc ws < 8 := by
    have : (2 : Int) ^ ws.length ≤ 8 := by
      have : ws.length = 0 ∨ ws.length = 1 ∨ ws.length = 2 ∨ ws.length = 3 := by omega
      rcases this with h | h | h | h <;> rw [h] <;> decide
    omega
  have hlt : (plc ws).toNat < bs.length := by
    have : ((2 ^ ws.length : Nat) : Int) = (2 : Int) ^ ws.length := by simp
    omega
  refine ⟨bs[(plc ws).toNat], p0, by omega, ?_, ?_, ?_⟩
  · have : (tabOf bs).length = bs.length := by simp [tabOf, Str.length]
    rw [this]
    omega
  · simp [tabOf, List.getElem?_eq_getElem hlt]
  · unfold gateM
    rw [List.getD_eq_getElem?_getD, List.getElem?_eq_getElem hlt]
    rfl

/-! ### walks -/
theorem gx_tup {α : Type} {K : PySem.W.Frag} {a : Addr} {xs : List V} {g : TG} {tt : TT} {te : TE} {vs : List Nat} {σ0 : L2.St} {End : α → Hp → Prop} {Yd : α → V → Hp → (α → Hp → Prop) → Prop} {a0 : α} {H0 : Hp} (Pv : Nat → α → Hp → Prop) (h0 : Pv 0 a0 H0)
    (hl : ∀ i c H, i ≤ xs.length → Pv i c H → SqT K H a xs)
    (hs : ∀ i x c H, xs[i]? = some x → Pv i c H → g x σ0 H fun σ2 H2 => wipe σ2 vs = σ0 ∧ tt σ2 H2 fun b H3 => if b = true then te σ2 H3 fun y H4 => Yd c y H4 (Pv (i + 1)) else Pv (i + 1) c H3) (hd : ∀ c H, Pv xs.length c H → End c H) :
    ∃ W : Nat → Nat → α → Hp → Prop, (∃ m, W 0 m a0 H0) ∧ tGx (Itt K a) g tt te σ0 vs End Yd W := by
  refine ⟨fun i m c H => m = xs.length - i ∧ i ≤ xs.length ∧ Pv i c H, ⟨xs.length, rfl, Nat.zero_le _, h0⟩, ?_⟩
  rintro i m c H ⟨rfl, hi, p⟩
  by_cases hlt : i < xs.length
  · have hx : xs[i]? = some xs[i] := List.getElem?_eq_getElem hlt
    refine .inr ⟨⟨xs, xs[i], hl i c H hi p, hx⟩, Pv (i + 1), fun c' H' p' => ⟨xs.length - (i + 1), by omega, rfl, hlt, p'⟩, fun x H' y => ?_⟩
    obtain ⟨rfl, y⟩ := y
    exact hs i x c _ (y xs (hl i c _ hi p)) p
  · have e : i = xs.length := by omega
    subst e
    exact .inl ⟨⟨xs, hl _ c H hi p, Nat.le_refl _⟩, hd c H p⟩
theorem lc_zipT {K : PySem.W.Frag} {a b : Addr} {xs ys : List V} {g : TG} {tt : TT} {te : TE} {vs : List Nat} {σ : L2.St} {H1 : Hp} {D : Addr} {Qd : Hp → Prop} (el : xs.length = ys.length) (Pv : Nat → Hp → Prop) (h0 : Pv 0 (upd H1 D (.lst []))) (hl : ∀ i H, i ≤ xs.length → Pv i H → SqT K H a xs ∧ SqT K H b ys)
    (hs : ∀ i x y T H, xs[i]? = some x → ys[i]? = some y → H T = none → Pv i H → g (.ref T) (wipe σ vs) (upd H T (.tup [x, y])) fun σ2 H2 => wipe σ2 vs = wipe σ vs ∧ tt σ2 H2 fun b H3 =>
      if b = true then te σ2 H3 fun y H4 => ∃ acc, H4 D = some (.lst acc) ∧ acc.length < sizeLine ∧ Pv (i + 1) (upd H4 D (.lst (acc ++ [y]))) else Pv (i + 1) H3) (hd : ∀ H, Pv xs.length H → Qd H) :
    ∃ W : Nat → Nat → Hp → Prop, (∃ m, W 0 m (upd H1 D (.lst []))) ∧ ∀ i m H, W i m H →
      ((RZ.ItzT K a b).stop i H ∧ Qd H) ∨ ((RZ.ItzT K a b).go i H ∧ ∃ Nx : Hp → Prop, (∀ H', Nx H' → ∃ m', m' < m ∧ W (i + 1) m' H') ∧ ∀ x H', (RZ.ItzT K a b).yld i H x H' → g x (wipe σ vs) H' fun σ2 H2 => wipe σ2 vs = wipe σ vs ∧ tt σ2 H2 fun b H3 =>
        if b = true then te σ2 H3 fun y H4 => ∃ acc, H4 D = some (.lst acc) ∧ acc.length < sizeLine ∧ Nx (upd H4 D (.lst (acc ++ [y]))) else Nx H3) := by
  refine ⟨fun i m H => m = xs.length - i ∧ i ≤ xs.length ∧ Pv i H, ⟨xs.length, by simp, Nat.zero_le _, h0⟩, ?_⟩
  rintro i m H ⟨rfl, hi, p⟩
  obtain ⟨qx, qy⟩ := hl i H hi p
  by_cases hlt : i < xs.length
  · have hx : xs[i]? = some xs[i] := List.getElem?_eq_getElem hlt
    have hy : ys[i]? = some (ys[i]'(by omega)) := List.getElem?_eq_getElem _
    refine .inr ⟨⟨xs, ys, _, _, qx, qy, hx, hy⟩, Pv (i + 1), fun H' p' => ⟨xs.length - (i + 1), by omega, rfl, hlt, p'⟩, fun x H' y => ?_⟩
    obtain ⟨T, x1, y1, rfl, nT, rfl, e1, e2⟩ := y
    exact hs i x1 y1 T H (e1 xs qx) (e2 ys qy) nT p
  · have e : i = xs.length := by omega
    subst e
    exact .inl ⟨⟨xs, ys, qx, qy, .inl (Nat.le_refl _)⟩, hd H p⟩

/-! ### enumerate(tuple) -/
theorem draws_tuple {P : Program} {w : World} {A : Around} (hA : A.handled = none) (it a : Addr) (items : Array Value) (hne : a ≠ it) : Draws P w A it [it, a] items.size (fun i v => items[i]? = some v) (fun i h => h.IsTupleIter it a i ∧ h.IsTuple a items) where
  live := fun _ _ st => let ⟨o, ho, _⟩ := st.1; ⟨o, ho⟩
  frame := fun _ _ _ st hk => ⟨st.1.at fun o e => hk it (by simp) o e, by
    obtain ⟨o, ho, r⟩ := st.2
    exact ⟨o, hk a (by simp) o ho, r⟩⟩
  item := fun i s Q E hi st hQ => by
    refine RZ.nextOf_tuple_item st.1 st.2 (x := items[i]) (by simp [hi]) fun h' hit' hs' => ?_
    refine hQ _ h' s.toks (by simp [hi]) ⟨hit', ?_⟩ hs'
    obtain ⟨o, ho, r⟩ := st.2
    exact ⟨o, hs'.extBut a o hne ho, r⟩
  done := fun s Q E st hE => RZ.nextOf_tuple_end hA st.1 st.2 (by simp) hE
open PySem.AutoSeq1 in
set_option maxHeartbeats 1000000 in
theorem meets_enumerate_newT (l : Addr) (items : Array Value) (o : Obj) (hc : o.cls = .type "tuple") (n : Nat) (hd : o.data = .seq items n) :
    Meets (Builtin.«enumerate.__new__» ⟨[.type "enumerate", .ref l], []⟩) (fun _ R s => s.heap.get? l = some o ∧
      R (.ok (.ret (.ref (s.heap.push { cls := .type "tuple_iterator", data := .fields #[.ref l, .int 0 0] }).objs.size)))
        { s with heap := (s.heap.push { cls := .type "tuple_iterator", data := .fields #[.ref l, .int 0 0] }).push { cls := .type "enumerate", data := .fields #[.none, .bool false, .ref s.heap.objs.size, rawInt 0, .none, .none] } }) :=
  .of_wp fun prog w A R s h => by
    obtain ⟨hp, g, d, tk, os⟩ := s; obtain ⟨hl, h⟩ := h
    have hsub := sub_enumerate
    have hL : Heap.IsTuple (Shared.heap ⟨hp, g, d, tk, os⟩) l items := ⟨_, hl, hc, n, hd⟩
    wp_walk using wpAny_loadPart' hl
    refine wpAny_stack_any fun st => wpAny_pure ?_
    split
    · rename_i c _ _ _ _ _
      cases (c == Value.type "enumerate")
      · wp_walk using wpAny_loadPart' hl, wpAny_pyIter_tuple hL
        exact ⟨_, rfl, h⟩
      · wp_walk using wpAny_loadPart' hl, wpAny_pyIter_tuple hL
        exact ⟨_, rfl, h⟩
    · wp_walk using wpAny_loadPart' hl, wpAny_pyIter_tuple hL
      exact ⟨_, rfl, h⟩
theorem call_enumerate_tuple {prog : Program} {w : World} {A : Around} {E : Value → Shared → Prop} {s : Shared} {l : Addr} {items : Array Value} {Q : Value → Shared → Prop} (hL : s.heap.IsTuple l items)
    (h : ∀ h', IsEnum h' (s.heap.objs.size + 1) s.heap.objs.size 0 .none → h'.IsTupleIter s.heap.objs.size l 0 → h'.objs.size = s.heap.objs.size + 2 →
      (∀ b o, s.heap.get? b = some o → h'.get? b = some o) → Q (.ref (s.heap.objs.size + 1)) { s with heap := h' }) :
    wpAny (model prog w) A (call (.type "enumerate") [.ref l]) Q E s := by
  obtain ⟨o, hl, hc, n, hd⟩ := hL
  refine callType_new F.called_enumerate (by decide) (F.typeCall_enumerate_1 _) (F.newCall_enumerate_1 _) (fun obj => F.args_object_init_2 obj _) F.entry_enumerate_new
    (meets_enumerate_newT l items o hc n hd) ⟨hl, ?_⟩
  have hz : (s.heap.push { cls := .type "tuple_iterator", data := .fields #[.ref l, .int 0 0] }).objs.size = s.heap.objs.size + 1 := Heap.size_push ..
  show _ ∧ _
  rw [hz]
  have he : IsEnum ((s.heap.push { cls := .type "tuple_iterator", data := .fields #[.ref l, .int 0 0] }).push
      { cls := .type "enumerate", data := .fields #[.none, .bool false, .ref s.heap.objs.size, rawInt 0, .none, .none] }) (s.heap.objs.size + 1) s.heap.objs.size 0 .none := by
    have := Heap.get?_push_size (s.heap.push { cls := .type "tuple_iterator", data := .fields #[.ref l, .int 0 0] })
      (o := { cls := .type "enumerate", data := .fields #[.none, .bool false, .ref s.heap.objs.size, rawInt 0, .none, .none] }) rfl
    rw [hz] at this; exact this
  refine ⟨⟨_, he, rfl⟩, h _ he ⟨_, Heap.get?_push_of_some _ (Heap.get?_push_size _ rfl), rfl, rfl⟩ (by rw [Heap.size_push, hz]) fun b o x => Heap.get?_push_of_some _ (Heap.get?_push_of_some _ x)⟩
/-- the tuple at a, each item in a new pair -/
def IteT (K : PySem.W.Frag) (a : Addr) : It :=
  ⟨fun i H => ∃ (xs : List V) (x : V), SqT K H a xs ∧ xs[i]? = some x, fun i H v H' => ∃ T x, v = .ref T ∧ H T = none ∧ H' = upd H T (.tup [.int (i : Nat), x]) ∧ ∀ xs, SqT K H a xs → xs[i]? = some x, fun i H => ∃ xs : List V, SqT K H a xs ∧ xs.length = i⟩
theorem turn_enumT {P : Program} {w : World} {K : PySem.W.Frag} {elts : List Expr} {kk : Nat} {tpos : Pos} (a e it : Addr) :
    Turn P w K (.Tuple elts kk tpos) (IteT K a) [e, it] e (fun i h => (∃ old, IsEnum h e it ((i : Nat) : Int) old) ∧ h.IsTupleIter it a i ∧ e ≠ it) where
  mem := by simp
  obj := fun i h st b hb => by
    obtain ⟨⟨old, he⟩, ⟨o, ho, hc, hd⟩, _⟩ := st
    have e' : b = e ∨ b = it := by simpa using hb
    rcases e' with z | z
    · rw [z]; exact ⟨_, he, fun v q => nomatch q⟩
    · rw [z]; exact ⟨o, ho, fun v q => by rw [hd] at q; cases q⟩
  keep := fun i h h' st k => let ⟨⟨old, he⟩, hi, hne⟩ := st; ⟨⟨old, k e (by simp) _ he⟩, hi.at fun o q => k it (by simp) o q, hne⟩
  item := by
    intro X hP hw hK hc i pins s σ H E I hf st hg
    subst hP hw hK
    obtain ⟨⟨old, he⟩, hit, hne⟩ := st
    obtain ⟨xs, x, hq, hx⟩ := hg
    obtain ⟨its, rv, p, hz⟩ := I.tuple hq
    obtain ⟨u, hu, ru⟩ := rv.get hx
    have hel : e < s.heap.objs.size := Heap.lt_size he
    have hil : it < s.heap.objs.size := by obtain ⟨_, q, _⟩ := hit; exact Heap.lt_size q
    have hpt : s.heap.IsTuple a its.toArray := p
    have hai : a ≠ it := fun z => by
      obtain ⟨o1, h1, c1, _⟩ := hpt
      obtain ⟨o2, h2, c2, _⟩ := hit
      rw [z, h2] at h1
      cases h1
      rw [c2] at c1
      exact absurd (Value.type.inj c1) (by decide)
    have hae : e ≠ a := fun z => by
      obtain ⟨o1, h1, c1, _⟩ := hpt
      rw [← z, he] at h1
      cases h1
      exact absurd (Value.type.inj c1) (by decide)
    have hil2 : i < its.toArray.size := by
      rw [List.size_toArray]
      exact (List.getElem?_eq_some_iff.mp hu).1
    refine wpAny_pyNext_enum_itemD (draws_tuple (A := X.A.in1) (I.ok.hd hc) it a its.toArray hai) he ⟨hit, hpt⟩ hil2 hne (by simp only [List.mem_cons, List.not_mem_nil, or_false, not_or]; exact ⟨hne, hae⟩) fun y h' tk hy ho hst hT hsz hk => ?_
    have hyu : y = u := by
      have : its[i]? = some y := by simpa using hy
      rw [hu] at this
      exact (Option.some.inj this).symm
    subst hyu
    have hit' := hst.1
    refine ⟨_, rfl, wpAny_letOwnedTupleGo_enum (s := { s with heap := h', toks := tk + 1 }) ho fun h'' he' sb => ?_⟩
    have hT2 : h''.get? s.heap.objs.size = some { cls := .type "tuple", data := .seq #[.int i tk, y] } := (sb.2 _ (Nat.ne_of_gt hel)).trans hT
    have new : ObjOk X.prog X.w (upd H s.heap.objs.size (.tup [.int (i : Nat), x])) h'' s.heap.objs.size (.tup [.int (i : Nat), x]) :=
      ⟨by show 2 ≤ sizeLine; decide, [.int i tk, y], .cons ⟨_, rfl⟩ (.cons ru .nil), ⟨_, hT2, rfl, _, rfl⟩⟩
    have I1 : Inv X pins σ (upd H s.heap.objs.size (.tup [.int (i : Nat), x])) { s with heap := h'', toks := tk + 1 } :=
      I.turnedNew (ch := [e, it]) (fun b ob hb q => (sb.2 b (fun z => hb (by simp [z]))).trans (hk b ob (fun z => hb (by simp [z])) (fun z => hb (by simp [z])) q)) hf (Nat.le_refl _) new
    refine ⟨.ref s.heap.objs.size, _, I1, rfl, ⟨_, x, rfl, I.hok.fresh (Nat.le_refl _), rfl, fun ys hy => by rw [I.tuple_inj hy hq]; exact hx⟩, ⟨⟨y, ?_⟩, hit'.at fun o q => (sb.2 it (Ne.symm hne)).trans q, hne⟩, fun b hb => ?_⟩
    · have e1 : ((i + 1 : Nat) : Int) = (i : Int) + 1 := by omega
      rw [e1]; exact he'
    · have hb' : b < s.heap.objs.size := by
        have e' : b = e ∨ b = it := by simpa using hb
        rcases e' with z | z
        · rw [z]; exact hel
        · rw [z]; exact hil
      rw [upd_ne (Nat.ne_of_lt hb')]
      exact (hf b hb).1
  done := by
    intro X hP hw hK hc i pins s σ H E I hf st hg
    subst hP hw hK
    obtain ⟨⟨old, he⟩, hit, hne⟩ := st
    obtain ⟨xs, hq, hx⟩ := hg
    obtain ⟨its, rv, p, hz⟩ := I.tuple hq
    obtain ⟨f0, f1, f2, f3, f4, f5⟩ := hf it (by simp)
    have hl := rv.length
    have hpt : s.heap.IsTuple a its.toArray := p
    have hai : a ≠ it := fun z => by
      obtain ⟨o1, h1, c1, _⟩ := hpt
      obtain ⟨o2, h2, c2, _⟩ := hit
      rw [z, h2] at h1
      cases h1
      rw [c2] at c1
      exact absurd (Value.type.inj c1) (by decide)
    have hn : i = its.toArray.size := by rw [List.size_toArray]; omega
    exact wpAny_pyNext_enum_endD (draws_tuple (A := X.A.in1) (I.ok.hd hc) it a its.toArray hai) he (by rw [← hn]; exact ⟨hit, hpt⟩) fun h' eb => ⟨rfl, I.turned (t' := s.toks) (fun b o hb q => eb b o hb q) f0 f1 f3 f4 f5⟩
  self := fun A i s Q E st h => let ⟨⟨_, he⟩, _⟩ := st; wpAny_pyIter_enum he h
def iEnumT (K : PySem.W.Frag) (ta : TA) : TI := fun σ H R => ta σ H fun vs H1 => ∃ a xs, vs = [.ref a] ∧ SqT K H1 a xs ∧ R (IteT K a) H1
theorem pi_enumT {X : Cx} {e : Expr} {ta : TA} {p pos tpos : Pos} {elts : List Expr} {kk : Nat} (hg : Gl X "enumerate") (hm : X.mg "enumerate" = none) (ha : PA X [e] ta) (hs : starEach [e] X.env = [(false, eval e X.env)] := by rfl) :
    PI X (.Tuple elts kk tpos) (.Call (.Name "enumerate" p) [e] [] pos) (iEnumT X.K ta) := by
  refine ⟨fun pins s σ H R I h => ?_⟩
  refine Call_ (ld_blt I hg hm boot_enumerate (PyProof.Rows.callWith_type1 (thn (ha.run pos pins s σ H _ I h) fun us s1 ⟨vs, H1, I1, r1, q1⟩ => ?_) hs rfl))
  obtain ⟨a, xs, ex, hq, q⟩ := q1
  subst ex
  cases r1 with
  | cons r rr =>
    cases rr
    cases r
    obtain ⟨its, rv, p', hz⟩ := I1.tuple hq
    refine call_enumerate_tuple p' fun h' he hit hsz hk => wpAny_pyIter_enum he ?_
    have I2 : Inv X pins σ H1 { s1 with heap := h' } := I1.kept (t' := s1.toks) hk
    refine ⟨s1.heap.objs.size + 1, [s1.heap.objs.size + 1, s1.heap.objs.size], _, _, H1, rfl, I2, turn_enumT a (s1.heap.objs.size + 1) s1.heap.objs.size, ⟨⟨.none, he⟩, hit, Nat.succ_ne_self _⟩, fun b hb => ?_, q⟩
    have e' : b = s1.heap.objs.size + 1 ∨ b = s1.heap.objs.size := by simpa using hb
    have hle : s1.heap.objs.size ≤ b := by
      rcases e' with z | z
      · rw [z]; exact Nat.le_add_right _ _
      · rw [z]; exact Nat.le_refl _
    exact I1.fpOk hle (I1.hok.fresh hle)
theorem gx_enum {α : Type} {K : PySem.W.Frag} {a : Addr} {xs : List V} {g : TG} {tt : TT} {te : TE} {vs : List Nat} {σ0 : L2.St} {End : α → Hp → Prop} {Yd : α → V → Hp → (α → Hp → Prop) → Prop} {a0 : α} {H0 : Hp} (Pv : Nat → α → Hp → Prop) (h0 : Pv 0 a0 H0)
    (hl : ∀ i c H, i ≤ xs.length → Pv i c H → SqT K H a xs)
    (hs : ∀ i x T c H, xs[i]? = some x → H T = none → Pv i c H → g (.ref T) σ0 (upd H T (.tup [.int (i : Nat), x])) fun σ2 H2 => wipe σ2 vs = σ0 ∧ tt σ2 H2 fun b H3 => if b = true then te σ2 H3 fun y H4 => Yd c y H4 (Pv (i + 1)) else Pv (i + 1) c H3) (hd : ∀ c H, Pv xs.length c H → End c H) :
    ∃ W : Nat → Nat → α → Hp → Prop, (∃ m, W 0 m a0 H0) ∧ tGx (IteT K a) g tt te σ0 vs End Yd W := by
  refine ⟨fun i m c H => m = xs.length - i ∧ i ≤ xs.length ∧ Pv i c H, ⟨xs.length, rfl, Nat.zero_le _, h0⟩, ?_⟩
  rintro i m c H ⟨rfl, hi, p⟩
  by_cases hlt : i < xs.length
  · have hx : xs[i]? = some xs[i] := List.getElem?_eq_getElem hlt
    refine .inr ⟨⟨xs, xs[i], hl i c H hi p, hx⟩, Pv (i + 1), fun c' H' p' => ⟨xs.length - (i + 1), by omega, rfl, hlt, p'⟩, fun x H' y => ?_⟩
    obtain ⟨T, x1, rfl, nT, rfl, e1⟩ := y
    exact hs i x1 T c H (e1 xs (hl i c _ hi p)) nT p
  · have e : i = xs.length := by omega
    subst e
    exact .inl ⟨⟨xs, hl _ c H hi p, rfl⟩, hd c H p⟩
theorem gx_str {α : Type} {z : Str} {g : TG} {tt : TT} {te : TE} {vs : List Nat} {σ0 : L2.St} {End : α → Hp → Prop} {Yd : α → V → Hp → (α → Hp → Prop) → Prop} {a0 : α} {H0 : Hp} (Pv : Nat → α → Hp → Prop) (h0 : Pv 0 a0 H0)
    (hs : ∀ i x c H, z.cps[i]? = some x → Pv i c H → g (.str ⟨#[x]⟩) σ0 H fun σ2 H2 => wipe σ2 vs = σ0 ∧ tt σ2 H2 fun b H3 => if b = true then te σ2 H3 fun y H4 => Yd c y H4 (Pv (i + 1)) else Pv (i + 1) c H3) (hd : ∀ c H, Pv z.cps.size c H → End c H) :
    ∃ W : Nat → Nat → α → Hp → Prop, (∃ m, W 0 m a0 H0) ∧ tGx (Its z) g tt te σ0 vs End Yd W := by
  refine ⟨fun i m c H => m = z.cps.size - i ∧ i ≤ z.cps.size ∧ Pv i c H, ⟨z.cps.size, rfl, Nat.zero_le _, h0⟩, ?_⟩
  rintro i m c H ⟨rfl, hi, p⟩
  by_cases hlt : i < z.cps.size
  · refine .inr ⟨hlt, Pv (i + 1), fun c' H' p' => ⟨z.cps.size - (i + 1), by omega, rfl, hlt, p'⟩, fun x H' y => ?_⟩
    obtain ⟨rfl, ch, hc, rfl⟩ := y
    exact hs i ch c _ hc p
  · have e : i = z.cps.size := by omega
    subst e
    exact .inl ⟨Nat.le_refl _, hd c H p⟩

/-! ### nets, and the words of nets -/
abbrev Gt := List Bool × List Nat
def gD (g : Gt) : PyData := .tuple [.str (tabOf g.1), .tuple ((g.2.map Int.ofNat).map PyData.int)]
def netD (many : Int) (gs : List Gt) : PyData := .tuple [.int many, .tuple (gs.map gD)]
def rowD (r : List Int) : PyData := .tuple (r.map PyData.int)
def chD (a b : List Int) : PyData := .tuple [rowD a, rowD b]
def GtOk (n : Nat) (g : Gt) : Prop := g.1.length = 2 ^ g.2.length ∧ 1 ≤ g.2.length ∧ g.2.length ≤ 3 ∧ ∀ i ∈ g.2, i < n
def NetOk (n : Nat) (gs : List Gt) : Prop := ∀ k g, gs[k]? = some g → GtOk (n + k) g
def Row01 (r : List Int) : Prop := ∀ x ∈ r, x = 0 ∨ x = 1
mutual
theorem Tk.gr {H H' : Hp} (s : Gr H H') : ∀ {v : V} {d : PyData}, Tk H v d → Tk H' v d
  | _, _, .bl b => .bl b
  | _, _, .int i => .int i
  | _, _, .str x => .str x
  | _, _, .lst h t => .lst (s.lst h) (t.gr s)
  | _, _, .tup h t => .tup (s.tup h) (t.gr s)
theorem TkAll.gr {H H' : Hp} (s : Gr H H') : ∀ {vs : List V} {ds : List PyData}, TkAll H vs ds → TkAll H' vs ds
  | _, _, .nil => .nil
  | _, _, .cons h t => .cons (h.gr s) (t.gr s)
end
theorem Tk.row_inv {H : Hp} {v : V} {r : List Int} (h : Tk H v (rowD r)) : ∃ a, v = .ref a ∧ H a = some (.tup (r.map V.int)) := by
  obtain ⟨a, xs, rfl, ha, t⟩ := h.tup_inv
  rw [t.int_inv] at ha
  exact ⟨a, rfl, ha⟩
theorem Tk.ch_inv {H : Hp} {v : V} {a b : List Int} (h : Tk H v (chD a b)) : ∃ c ra rb, v = .ref c ∧ H c = some (.tup [.ref ra, .ref rb]) ∧ H ra = some (.tup (a.map V.int)) ∧ H rb = some (.tup (b.map V.int)) := by
  obtain ⟨c, xs, rfl, hc, t⟩ := h.tup_inv
  cases t with
  | cons h1 t => cases t with
    | cons h2 t =>
      cases t
      obtain ⟨ra, rfl, ha⟩ := h1.row_inv
      obtain ⟨rb, rfl, hb⟩ := h2.row_inv
      exact ⟨c, ra, rb, rfl, hc, ha, hb⟩
theorem Tk.net_inv {H : Hp} {v : V} {m : Int} {gs : List Gt} (h : Tk H v (netD m gs)) : ∃ n g xs, v = .ref n ∧ H n = some (.tup [.int m, .ref g]) ∧ H g = some (.tup xs) ∧ TkAll H xs (gs.map gD) := by
  obtain ⟨n, xs, rfl, hn, t⟩ := h.tup_inv
  cases t with
  | cons h1 t => cases t with
    | cons h2 t =>
      cases t
      cases h1
      obtain ⟨g, ys, rfl, hg, t2⟩ := h2.tup_inv
      exact ⟨n, g, ys, rfl, hn, hg, t2⟩
theorem Tk.gt_inv {H : Hp} {v : V} {g : Gt} (h : Tk H v (gD g)) : ∃ a i, v = .ref a ∧ H a = some (.tup [.str (tabOf g.1), .ref i]) ∧ H i = some (.tup ((g.2.map Int.ofNat).map V.int)) := by
  obtain ⟨a, xs, rfl, ha, t⟩ := h.tup_inv
  cases t with
  | cons h1 t => cases t with
    | cons h2 t =>
      cases t
      cases h1
      obtain ⟨i, rfl, hi⟩ := (show Tk H _ (rowD (g.2.map Int.ofNat)) from h2).row_inv
      exact ⟨a, i, rfl, ha, hi⟩
theorem TkAll.at {H : Hp} {α : Type} {f : α → PyData} {xs : List V} {ds : List α} (t : TkAll H xs (ds.map f)) {j : Nat} {v : V} (h : xs[j]? = some v) : ∃ x, ds[j]? = some x ∧ Tk H v (f x) := by
  obtain ⟨dx, hdx, tx⟩ := t.get h
  rw [List.getElem?_map] at hdx
  cases hz : ds[j]? with
  | none => rw [hz] at hdx; cases hdx
  | some x =>
    rw [hz] at hdx
    cases Option.some.inj hdx
    exact ⟨x, rfl, tx⟩
theorem TkAll.at' {H : Hp} {α : Type} {f : α → PyData} {xs : List V} {ds : List α} (t : TkAll H xs (ds.map f)) {j : Nat} {x : α} (h : ds[j]? = some x) : ∃ v, xs[j]? = some v ∧ Tk H v (f x) := by
  have hl := t.length
  rw [List.length_map] at hl
  have hj := (List.getElem?_eq_some_iff.mp h).1
  obtain ⟨y, hy, ty⟩ := t.at (List.getElem?_eq_getElem (l := xs) (i := j) (by omega))
  cases Option.some.inj (h.symm.trans hy)
  exact ⟨_, List.getElem?_eq_getElem _, ty⟩
theorem grow_upd {H H' : Hp} {p : Addr} {o : HO} (g : Gr H H') (n : H' p = none) : Gr H (upd H' p o) := g.trans (Gr.none n)
/-- no table, no older list: only the list at D is written -/
def GrD (D : Addr) (H H' : Hp) : Prop := Gr H (hd1 D H')
theorem GrD.gr {D : Addr} {H H' : Hp} (g : GrD D H H') : Gr H H' := g.trans (Gr.of hd1_le)
theorem TabG_hd1 {D P : Addr} {H : Hp} (h : GxR.TabG H P) (n : D ≠ P) : GxR.TabG (hd1 D H) P := by
  obtain ⟨ps, e, t⟩ := h
  exact ⟨ps, by rw [hd1_at (Ne.symm n)]; exact e, t⟩
theorem GrD.new {D : Addr} {H : Hp} {o : HO} (n : H D = none) : GrD D H (upd H D o) := Gr.of (hd1_of (same_upd n) n)
theorem hd1_gr {D : Addr} {H H' : Hp} (g : Gr H H') (hD : ∀ P, GxR.TabG H P → D ≠ P) : Gr (hd1 D H) (hd1 D H') := by
  refine ⟨fun b o n e => ?_, fun b t => ?_⟩
  · have hb : b ≠ D := fun z => by
      unfold hd1 at e
      rw [if_pos z] at e; cases e
    rw [hd1_at hb] at e ⊢
    exact g.1 b o n e
  · obtain ⟨ps, e, t⟩ := t
    have e' := hd1_le _ _ e
    exact TabG_hd1 (g.2 b ⟨ps, e', t⟩) (hD b ⟨ps, e', t⟩)
theorem GrD.then {D : Addr} {H H1 H2 : Hp} {xs : List V} (a : GrD D H H1) (hD : H1 D = some (.lst xs)) (b : Gr H1 H2) : GrD D H H2 := a.trans (hd1_gr b fun P ⟨ps, e, _⟩ z => by
  rw [← z, hD] at e
  cases e)
theorem GrD.set {D : Addr} {H H1 : Hp} {o : HO} (a : GrD D H H1) : GrD D H (upd H1 D o) := a.trans (Gr.of hd1_upd)

end Gk

set_option Elab.async false
set_option linter.all false
set_option maxRecDepth 100000
set_option maxHeartbeats 1000000
set_option pp.maxSteps 1500
set_option pp.deepTerms false
namespace Gk
open PySem PySem.Spec PyProof.Rows L2
/-! ### data of tuples alone: no list that is written can harm it -/
mutual
def noL : PyData → Bool
  | .list _ => false
  | .tuple ds => noLs ds
  | _ => true
def noLs : List PyData → Bool
  | [] => true
  | d :: r => noL d && noLs r
end
def Ts (H H' : Hp) : Prop := ∀ b xs, H b = some (HO.tup xs) → H' b = some (.tup xs)
theorem Ts.refl {H : Hp} : Ts H H := fun _ _ e => e
theorem Ts.trans {H H1 H2 : Hp} (a : Ts H H1) (b : Ts H1 H2) : Ts H H2 := fun c xs e => b c xs (a c xs e)
theorem Ts.same {H H' : Hp} (s : Same H H') : Ts H H' := fun b xs e => s _ _ e
theorem Ts.gr {H H' : Hp} (s : Gr H H') : Ts H H' := fun b xs e => s.tup e
theorem Ts.new {H : Hp} {p : Addr} {o : HO} (h : H p = none) : Ts H (upd H p o) := Ts.same (same_upd h)
theorem Ts.set {H : Hp} {p : Addr} {xs ys : List V} (h : H p = some (.lst xs)) : Ts H (upd H p (.lst ys)) := fun b zs e => by
  rw [upd_ne (ne_of e h (by intro z; cases z))]
  exact e
mutual
theorem Tk.ts {H H' : Hp} (s : Ts H H') : ∀ {v : V} {d : PyData}, Tk H v d → noL d = true → Tk H' v d
  | _, _, .bl b, _ => .bl b
  | _, _, .int i, _ => .int i
  | _, _, .str x, _ => .str x
  | _, _, .lst h t, n => by cases n
  | _, _, .tup h t, n => .tup (s _ _ h) (t.ts s n)
theorem TkAll.ts {H H' : Hp} (s : Ts H H') : ∀ {vs : List V} {ds : List PyData}, TkAll H vs ds → noLs ds = true → TkAll H' vs ds
  | _, _, .nil, _ => .nil
  | _, _, .cons (d := d) (ds := ds) h t, n => by
    have n' : noL d = true ∧ noLs ds = true := Bool.and_eq_true_iff.mp n
    exact .cons (h.ts s n'.1) (t.ts s n'.2)
end
theorem noLs_map {α : Type} {f : α → PyData} (h : ∀ x, noL (f x) = true) : ∀ l : List α, noLs (l.map f) = true
  | [] => rfl
  | x :: r => by
    show (noL (f x) && noLs (r.map f)) = true
    rw [h x, noLs_map h r]
    rfl
theorem noL_row (r : List Int) : noL (rowD r) = true := noLs_map (fun _ => rfl) r
theorem noL_gate (g : Gt) : noL (gD g) = true := by
  show (true && (noLs ((g.2.map Int.ofNat).map PyData.int) && true)) = true
  rw [noLs_map (fun _ => rfl)]
  rfl
theorem noL_gates (gs : List Gt) : noLs (gs.map gD) = true := noLs_map noL_gate gs
theorem noL_net (m : Int) (gs : List Gt) : noL (netD m gs) = true := by
  show (true && (noLs (gs.map gD) && true)) = true
  rw [noL_gates]
  rfl
theorem noL_ch (a b : List Int) : noL (chD a b) = true := by
  show (noL (rowD a) && (noL (rowD b) && true)) = true
  rw [noL_row, noL_row]
  rfl

section
variable {P : Program} {w : World} {K : PySem.W.Frag} {mg : Str → Option Value} {base : Heap}
/-! ### the deck whose cells are taken from behind -/
def DeckC (H : Hp) (d l : Addr) (n : Int) : Prop := d ≠ l ∧ ∃ (cs : List Int) (y z : Int), H d = some (.lst [.ref l, .int y, .int z]) ∧ H l = some (.lst (cs.map V.int)) ∧ cs.length ≤ 63 ∧ 0 ≤ z ∧ z ≤ n
theorem DeckC.mono {H : Hp} {d l : Addr} {n m : Int} (D : DeckC H d l n) (h : n ≤ m) : DeckC H d l m := by
  obtain ⟨ne, cs, z, y, h1, h2, h3, h4, h5⟩ := D
  exact ⟨ne, cs, z, y, h1, h2, h3, h4, Int.le_trans h5 h⟩
theorem DeckC.same {H H' : Hp} {d l : Addr} {n : Int} (D : DeckC H d l n) (s : Same H H') : DeckC H' d l n := by
  obtain ⟨ne, cs, z, y, hd, hl, r⟩ := D
  exact ⟨ne, cs, z, y, s _ _ hd, s _ _ hl, r⟩
theorem DeckC.gr {H H' : Hp} {d l : Addr} {n : Int} (D : DeckC H d l n) (s : Gr H H') : DeckC H' d l n := by
  obtain ⟨ne, cs, z, y, hd, hl, r⟩ := D
  exact ⟨ne, cs, z, y, s.lst hd, s.lst hl, r⟩
theorem DeckC.upd {H : Hp} {d l p : Addr} {n : Int} {o : HO} (D : DeckC H d l n) (h1 : p ≠ d) (h2 : p ≠ l) : DeckC (upd H p o) d l n := by
  obtain ⟨ne, cs, z, y, hd, hl, r⟩ := D
  exact ⟨ne, cs, z, y, by rw [upd_ne h1.symm]; exact hd, by rw [upd_ne h2.symm]; exact hl, r⟩
theorem DeckC.off {H : Hp} {d l p : Addr} {n : Int} (D : DeckC H d l n) (h : H p = none) : p ≠ d ∧ p ≠ l := by
  obtain ⟨ne, cs, z, y, hd, hl, r⟩ := D
  exact ⟨(ne_of_none hd h).symm, (ne_of_none hl h).symm⟩
theorem Ts.frC {H H' : Hp} {d l : Addr} {n : Int} (D : DeckC H d l n) (f : Fr d l H H') : Ts H H' := fun b xs e => by
  obtain ⟨ne, cs, z, y, hd, hl, r⟩ := D
  exact f b _ (ne_of e hd (by intro z; cases z)) (ne_of e hl (by intro z; cases z)) e
theorem Fr.upd {d l p : Addr} {H H' : Hp} {o : HO} (f : Fr d l H H') (h : H p = none) : Fr d l H (upd H' p o) := fun b u h1 h2 e => by
  rw [upd_ne (ne_of_none e h)]
  exact f b u h1 h2 e
theorem tab_frC {H H' : Hp} {d l P : Addr} {n : Int} (D : DeckC H d l n) (f : Fr d l H H') (t : GxR.TabG H P) : GxR.TabG H' P := by
  obtain ⟨ps, e, tr⟩ := t
  obtain ⟨ne, cs, z, y, hd, hl, r⟩ := D
  exact ⟨ps, f _ _ (ne_of e hd (by intro z; cases z)) (ne_of e hl (by intro z; cases z)) e, tr⟩
theorem none_of_frC {d l p : Addr} {H H' : Hp} {n : Int} (f : Fr d l H H') (D : DeckC H' d l n) (h : H' p = none) : H p = none := by
  have o := D.off h
  cases z : H p with
  | none => rfl
  | some u => rw [f _ _ o.1 o.2 z] at h; cases h
theorem cut63 {ns : List Int} (h : ns.length ≤ 63) : cutV (ns.map V.int) none (some 63) = ns.map V.int := by
  unfold cutV
  have e : HT.sIx (ns.map V.int).length (ns.map V.int).length (some 63) = min 63 (ns.map V.int).length := HT.sIx_nat _ _ 63
  rw [HT.sIx_none, e, List.length_map, List.drop_zero]
  apply List.take_of_length_le
  rw [List.length_map]
  omega
theorem sq_same {K : PySem.W.Frag} {H H' : Hp} {a : Addr} {xs : List V} (s : Same H H') (h : SqL K H a xs) : SqL K H' a xs := h.imp (fun r => r.imp (fun e => s _ _ e) (fun ⟨ob, e⟩ => ⟨ob, s _ _ e⟩)) id
def sp_deck (K : PySem.W.Frag) : Sp := fun vs H Q _ => ∃ (a : Addr) (ns : List Int), vs = [.ref a] ∧ SqL K H a (ns.map V.int) ∧ ns.length ≤ 63 ∧ ∀ H' d l, Same H H' → DeckC H' d l 0 → Q (.ref d) H'
theorem ok_deck (T : Tx w K mg) : FnOk P w K mg base CX0 1 T.f_deck T.fd_deck ["_law_script"] (sp_deck K) := by
  refine T.F_deck.ok sc_deck (fun vs H Q E h => ?_) (fun cdv A outer s H vs Q E hr h => ?_)
  · obtain ⟨a, ns, rfl, _⟩ := h
    rfl
  · obtain ⟨a, ns, rfl, hS, hlen, q⟩ := h
    refine ⟨_, (pss_one (ps_ret (pe_lst (pa_cons (RevL.pe_lstRev rfl (by rfl) T.m_list (by rfl) T.m_reversed (pe_slice sl_list (pv 0) po_none (po_some pe_int))) (pa_cons (pe_op op_add (pe_callB (cr_sum rfl) (by rfl) T.m_sum (by decide +kernel) (pa_cons (pe_slice sl_list (pv 0) po_none (po_some pe_int)) pa_nil)) (pe_callB call_len_seq (by rfl) T.m_len PySem.boot_len (pa_cons (pe_slice sl_list (pv 0) po_none (po_some pe_int)) pa_nil))) (pa_cons pe_int pa_nil)))))), ?_⟩
    refine ⟨.ref a, rfl, 63, rfl, a, _, rfl, hS, fun c1 n1 => ?_⟩
    rw [cut63 hlen]
    have s1 := same_upd (o := HO.lst (ns.map V.int)) n1
    refine ⟨c1, _, rfl, SqL.of upd_same, fun l nl => ?_⟩
    have s2 := same_upd (o := HO.lst (ns.map V.int).reverse) nl
    refine ⟨.ref a, rfl, 63, rfl, a, _, rfl, sq_same (s1.trans s2) hS, fun c3 n3 => ?_⟩
    rw [cut63 hlen]
    have s3 := same_upd (o := HO.lst (ns.map V.int)) n3
    refine ⟨c3, ns, rfl, SqL.of upd_same, .ref a, rfl, 63, rfl, a, _, rfl, sq_same ((s1.trans s2).trans s3) hS, fun c4 n4 => ?_⟩
    rw [cut63 hlen]
    have s4 := same_upd (o := HO.lst (ns.map V.int)) n4
    refine ⟨c4, _, rfl, .inl (SqL.of upd_same), _, _, rfl, rfl, sl3, fun d nd => ?_⟩
    have s5 := same_upd (o := HO.lst [V.ref l, V.int (ns.sum + ((ns.map V.int).length : Nat)), V.int 0]) nd
    have hl4 := s4 _ _ (s3 _ _ (show (upd (upd H c1 (.lst (ns.map V.int))) l (.lst (ns.map V.int).reverse)) l = _ from upd_same))
    refine q _ d l ((((s1.trans s2).trans s3).trans s4).trans s5) ⟨(ne_of_none hl4 nd).symm, ns.reverse, _, 0, upd_same, ?_, by rw [List.length_reverse]; exact hlen, Int.le_refl _, Int.le_refl _⟩
    rw [List.map_reverse]
    exact s5 _ _ hl4
def sp_mixed (K : PySem.W.Frag) : Sp := fun vs H Q _ => ∃ c k : Int, vs = [.int c, .int k] ∧ 0 ≤ k ∧ k < 2000000000 ∧ ∀ v, 0 ≤ v → Q (.int v) H
theorem ok_mixed (T : Tx w K mg) : FnOk P w K mg base CX0 1 T.f_mixed T.fd_mixed ["_law_cell", "_law_k"] (sp_mixed K) := by
  refine T.F_mixed.ok sc_mixed (fun vs H Q E h => ?_) (fun cdv A outer s H vs Q E hr h => ?_)
  · obtain ⟨c, k, rfl, _⟩ := h
    rfl
  · obtain ⟨c, k, rfl, k0, k1, q⟩ := h
    refine ⟨_, (pss_cons (ps_set (i := 2) sc_mixed.nd rfl (by first | exact .inl rfl | exact .inr rfl) (pe_op op_mod (pe_op op_mul (pe_op op_add (pe_op op_add (pe_op op_mod (pv 0) pe_int) (pe_op op_mul pe_int (pv 1))) pe_int) pe_int) pe_int)) (pss_cons (ps_set (i := 2) sc_mixed.nd rfl (by first | exact .inl rfl | exact .inr rfl) (pe_op op_mod (pe_op op_add (pe_op op_add (pe_op op_mul (pv 2) (pv 2)) (pe_op op_mul pe_int (pv 1))) pe_int) pe_int)) (pss_one (ps_ret (pe_op op_add (pe_op op_mul (pv 2) pe_int) (pe_op op_mod (pe_op op_add (pe_op op_add (pe_op op_mul (pv 2) (pv 2)) (pe_op op_mul pe_int (pv 2))) (pv 1)) pe_int)))))), ?_⟩
    refine ⟨.int c, rfl, _, _, rfl, rfl, p29, .int k, rfl, 7919, k, rfl, rfl, .inl ⟨by decide, by decide⟩, _, _, rfl, rfl, _, _, rfl, rfl, _, 48271, rfl, rfl, .inr ⟨by decide, by decide⟩, _, _, rfl, rfl, p47, ?_⟩
    dsimp only
    have v0 := Int.emod_nonneg ((c % 2147483629 + 7919 * k + 1) * 48271) (show (2147483647 : Int) ≠ 0 by decide)
    have v1 := Int.emod_lt_of_pos ((c % 2147483629 + 7919 * k + 1) * 48271) (show (0 : Int) < 2147483647 by decide)
    revert v0 v1
    generalize ((c % 2147483629 + 7919 * k + 1) * 48271) % 2147483647 = v
    intro v0 v1
    refine ⟨.int v, rfl, .int v, rfl, v, v, rfl, rfl, .inl ⟨by omega, by omega⟩, .int k, rfl, 69621, k, rfl, rfl, .inl ⟨by decide, by decide⟩, _, _, rfl, rfl, _, _, rfl, rfl, _, _, rfl, rfl, p87, ?_⟩
    dsimp only
    have u0 := Int.emod_nonneg (v * v + 69621 * k + 7) (show (2147483587 : Int) ≠ 0 by decide)
    have u1 := Int.emod_lt_of_pos (v * v + 69621 * k + 7) (show (0 : Int) < 2147483587 by decide)
    revert u0 u1
    generalize (v * v + 69621 * k + 7) % 2147483587 = u
    intro u0 u1
    refine ⟨.int u, rfl, u, 2147483563, rfl, rfl, .inl ⟨by omega, by omega⟩, .int u, rfl, .int u, rfl, u, u, rfl, rfl, .inl ⟨by omega, by omega⟩, .int u, rfl, 16807, u, rfl, rfl, .inl ⟨by decide, by decide⟩, _, _, rfl, rfl, .int k, rfl, _, _, rfl, rfl, _, _, rfl, rfl, (show (0 : Int) < 2147483563 by decide), _, _, rfl, rfl, ?_⟩
    refine q _ ?_
    have a := Int.emod_nonneg (u * u + 16807 * u + k) (show (2147483563 : Int) ≠ 0 by decide)
    have b : 0 ≤ u * 2147483563 := by omega
    omega
def sp_take (K : PySem.W.Frag) : Sp := fun vs H Q _ => ∃ (d l : Addr) (m n : Int), vs = [.ref d, .int m] ∧ DeckC H d l n ∧ n < 1000000000 ∧ 0 < m ∧ m < 1073741824 ∧ ∀ H' v, DeckC H' d l (n + 1) → Fr d l H H' → 0 ≤ v → v < m → Q (.int v) H'
theorem ok_take (T : Tx w K mg) : FnOk P w K mg base CX0 2 T.f_take T.fd_take ["_law_deck_here", "_law_most"] (sp_take K) := by
  refine T.F_take.ok sc_take (fun vs H Q E h => ?_) (fun cdv A outer s H vs Q E hr h => ?_)
  · obtain ⟨d, l, m, n, rfl, _⟩ := h
    rfl
  · obtain ⟨d, l, m, n, rfl, D, hn, hm0, hm1, q⟩ := h
    obtain ⟨ne, cs, y, z, hd, hl, hcs, hz0, hz1⟩ := D
    refine ⟨_, (pss_cons (ps_set (i := 2) sc_take.nd rfl (by first | exact .inl rfl | exact .inr rfl) (pe_ix ix_list (pv 0) pe_int (fun _ _ => rfl))) (pss_cons (ps_asg (pe_op op_add (pe_ix ix_list (pv 0) pe_int (fun _ _ => rfl)) pe_int) (pg_sub (pv 0) pe_int set_list)) (pss_cons (ps_if (pt_cmpR (op_eqD hr.units) (pv 2) (pe_lst pa_nil) (nomark _)) (pss_one (ps_ret (pe_op op_mod (pe_call (ok_mixed T) (hr.mono (by decide)) (by rfl) T.g_mixed T.F_mixed.kp T.b_mixed .nil pass0 (pa_cons (pe_ix ix_list (pv 0) pe_int (fun _ _ => rfl)) (pa_cons (pe_ix ix_list (pv 0) pe_int (fun _ _ => rfl)) pa_nil))) (pv 1)))) pss_nil) (pss_cons (ps_set (i := 3) sc_take.nd rfl (by first | exact .inl rfl | exact .inr rfl) (pe_bm0 PySem.F.plainAttrs_list PySem.F.slot_list_pop PySem.F.type_list_pop mt_pop (pv 2))) (pss_cons (ps_if (pt_cmpR op_lt (pv 3) (pe_op op_pow pe_int pe_int) (nomark _)) (pss_one (ps_ret (pe_op op_mod (pe_call (ok_mixed T) (hr.mono (by decide)) (by rfl) T.g_mixed T.F_mixed.kp T.b_mixed .nil pass0 (pa_cons (pv 3) (pa_cons (pe_ix ix_list (pv 0) pe_int (fun _ _ => rfl)) pa_nil))) (pv 1)))) pss_nil) (C8.pss_cut (ps_if (pt_cmpR op_gt (pe_op op_fdiv (pv 3) (pv 1)) pe_int (nomark _)) (pss_one (ps_expr (pe_bm PySem.F.plainAttrs_list PySem.F.slot_list_append PySem.F.type_list_append mt_append (pv 2) (pa_cons (pe_op op_fdiv (pv 3) (pv 1)) pa_nil)))) pss_nil) (pss_one (ps_ret (pe_op op_mod (pv 3) (pv 1)))))))))), ?_⟩
    refine ⟨.ref d, rfl, d, _, 0, .ref l, rfl, rfl, SqL.of hd, rfl, ?_⟩
    refine ⟨.ref d, rfl, d, _, 2, .int z, rfl, rfl, SqL.of hd, rfl, z, 1, rfl, rfl, .ref d, rfl, d, _, 2, 2, rfl, rfl, hd, rfl, ?_⟩
    have hd1 : (upd H d (.lst [.ref l, .int y, .int (z + 1)])) d = some (.lst [.ref l, .int y, .int (z + 1)]) := upd_same
    have hl1 : (upd H d (.lst [.ref l, .int y, .int (z + 1)])) l = some (.lst (cs.map V.int)) := by rw [upd_ne ne.symm]; exact hl
    have fr1 : Fr d l H (upd H d (.lst [.ref l, .int y, .int (z + 1)])) := Fr.d
    have hz2 : 0 ≤ z + 1 := by omega
    have hz3 : z + 1 ≤ n + 1 := by omega
    have hz4 : z + 1 < 2000000000 := by omega
    show tSeq _ _ _ _ (upd H d (.lst [.ref l, .int y, .int (z + 1)]))
    revert hd1 hl1 fr1 hz2 hz3 hz4
    generalize upd H d (.lst [.ref l, .int y, .int (z + 1)]) = H1
    generalize z + 1 = z'
    intro hd1 hl1 fr1 hz2 hz3 hz4
    refine ⟨.ref l, rfl, Nat.zero_le _, fun p np => ?_⟩
    have fr2 : Fr d l H (upd H1 p (.lst [])) := fr1.trans (Fr.new np)
    have hd2 : (upd H1 p (.lst [])) d = some (.lst [.ref l, .int y, .int z']) := same_upd np _ _ hd1
    have hl2 : (upd H1 p (.lst [])) l = some (.lst (cs.map V.int)) := same_upd np _ _ hl1
    refine ⟨.list (cs.map .int), .list [], .lst (SqL.of hl2) (dpInts cs), .lst (SqL.of upd_same) .nil, shInts cs, rfl, _, rfl, ?_⟩
    revert fr2 hd2 hl2
    generalize upd H1 p (.lst []) = H2
    intro fr2 hd2 hl2
    by_cases hc : cs = []
    · subst hc
      refine iteT ?_
      refine ⟨.ref d, rfl, d, _, 1, .int y, rfl, rfl, SqL.of hd2, rfl, .ref d, rfl, d, _, 2, .int z', rfl, rfl, SqL.of hd2, rfl, y, z', rfl, hz2, hz4, fun v v0 => ⟨.int m, rfl, _, _, rfl, rfl, hm0, ?_⟩⟩
      exact q _ _ ⟨ne, [], y, z', hd2, hl2, hcs, hz2, hz3⟩ fr2 (Int.emod_nonneg _ (by omega)) (Int.emod_lt_of_pos _ hm0)
    · obtain ⟨r, c, rfl⟩ : ∃ r c, cs = r ++ [c] := ⟨cs.dropLast, cs.getLast hc, (List.dropLast_concat_getLast hc).symm⟩
      have en : PyData.eqv (.list ((r ++ [c]).map PyData.int)) (.list []) = false := by
        cases r <;> rfl
      rw [en]
      refine iteF ?_
      have la : ((r ++ [c]).map V.int)[((r ++ [c]).map V.int).length - 1]? = some (.int c) := by simp
      refine ⟨.ref l, rfl, .inl ⟨rfl, _, SqL.of hl2⟩, l, _, .int c, rfl, rfl, hl2, la, ?_⟩
      have dl : ((r ++ [c]).map V.int).dropLast = r.map V.int := by rw [List.map_append]; exact List.dropLast_concat
      rw [dl]
      have hd3 : (upd H2 l (.lst (r.map V.int))) d = some (.lst [.ref l, .int y, .int z']) := by rw [upd_ne ne]; exact hd2
      have hl3 : (upd H2 l (.lst (r.map V.int))) l = some (.lst (r.map V.int)) := upd_same
      have fr3 : Fr d l H (upd H2 l (.lst (r.map V.int))) := fr2.trans Fr.l
      have hr63 : r.length + 1 ≤ 63 := by rw [List.length_append] at hcs; exact hcs
      revert hd3 hl3 fr3
      generalize upd H2 l (.lst (r.map V.int)) = H3
      intro hd3 hl3 fr3
      refine ⟨.int c, rfl, _, _, rfl, rfl, ⟨by decide, by decide, by decide⟩, _, _, rfl, rfl, _, rfl, ite2 (fun _ => ?_) (fun _ => ?_)⟩
      · refine ⟨.int c, rfl, .ref d, rfl, d, _, 2, .int z', rfl, rfl, SqL.of hd3, rfl, c, z', rfl, hz2, hz4, fun v v0 => ⟨.int m, rfl, _, _, rfl, rfl, hm0, ?_⟩⟩
        exact q _ _ ⟨ne, r, y, z', hd3, hl3, by omega, hz2, hz3⟩ fr3 (Int.emod_nonneg _ (by omega)) (Int.emod_lt_of_pos _ hm0)
      · refine ⟨fun σ H' => σ = [some (.ref d), some (.int m), some (.ref l), some (.int c)] ∧ ∃ cs : List Int, cs.length ≤ 63 ∧ H' d = some (.lst [.ref l, .int y, .int z']) ∧ H' l = some (.lst (cs.map V.int)) ∧ Fr d l H H', ?_, ?_⟩
        · refine ⟨.int c, rfl, .int m, rfl, _, _, rfl, rfl, ⟨hm0, hm1⟩, _, _, rfl, rfl, _, rfl, ite2 (fun _ => ?_) (fun _ => ?_)⟩
          · refine ⟨.ref l, rfl, .inl ⟨rfl, _, SqL.of hl3⟩, .int c, rfl, .int m, rfl, _, _, rfl, rfl, ⟨hm0, hm1⟩, l, _, _, rfl, rfl, hl3, ?_, ?_⟩
            · rw [List.length_map]
              exact Nat.lt_of_lt_of_le (show r.length < 64 by omega) (by decide)
            · refine ⟨rfl, r ++ [c / m], by rw [List.length_append]; exact hr63, by rw [upd_ne ne]; exact hd3, ?_, fr3.trans Fr.l⟩
              rw [upd_same, List.map_append]
              rfl
          · exact ⟨rfl, r, by omega, hd3, hl3, fr3⟩
        · rintro σ H4 ⟨rfl, cs4, l4, hd4, hl4, fr4⟩
          refine ⟨.int c, rfl, .int m, rfl, _, _, rfl, rfl, hm0, ?_⟩
          exact q _ _ ⟨ne, cs4, y, z', hd4, hl4, l4, hz2, hz3⟩ fr4 (Int.emod_nonneg _ (by omega)) (Int.emod_lt_of_pos _ hm0)

end
end Gk

set_option Elab.async false
set_option linter.all false
set_option maxRecDepth 100000
set_option maxHeartbeats 1000000
set_option pp.maxSteps 1500
set_option pp.deepTerms false
namespace Gk
open PySem PySem.Spec PyProof.Rows L2
/-! ### slices and sums of tuples: what is told stands in a heap that has grown -/
theorem cut_all {xs : List V} {lo hi : Option Int} (h : HT.sIx xs.length 0 lo = 0 ∧ HT.sIx xs.length xs.length hi = xs.length) : cutV xs lo hi = xs := by
  unfold cutV
  rw [h.1, h.2, List.drop_zero, Nat.sub_zero, List.take_length]
theorem same_refl {H : Hp} : Same H H := fun _ _ e => e
theorem slA {K : PySem.W.Frag} {a : Addr} {xs : List V} {lo hi : Option Int} {H : Hp} {Q : VK} (h : H a = some (.tup xs)) (q : ∀ p H', Same H H' → H' p = some (.tup (cutV xs lo hi)) → Q (.ref p) H') : rSlA K (.ref a) lo hi H Q :=
  ⟨a, xs, rfl, SqT.of h, fun w => q a H same_refl (by rw [cut_all w]; exact h), fun _ p np => q p _ (same_upd np) upd_same⟩
theorem slAn {K : PySem.W.Frag} {a : Addr} {xs : List V} {lo : Option Int} {H : Hp} {Q : VK} {σ : L2.St} (h : H a = some (.tup xs)) (q : ∀ p H', Same H H' → H' p = some (.tup (cutV xs lo none)) → Q (.ref p) H') : tNoPart σ H (fun u H3 => rSlA K (.ref a) lo u H3 Q) := slA h q
theorem catA {K : PySem.W.Frag} {a b : Addr} {xs ys : List V} {H : Hp} {Q : VK} (ha : H a = some (.tup xs)) (hb : H b = some (.tup ys)) (hl : xs.length + ys.length ≤ sizeLine) (q : ∀ p H', Same H H' → H' p = some (.tup (xs ++ ys)) → Q (.ref p) H') : rCatA K (.ref a) (.ref b) H Q :=
  ⟨a, b, xs, ys, rfl, rfl, SqT.of ha, SqT.of hb, hl, fun e => q b H same_refl (by rw [e]; exact hb), fun _ e => q a H same_refl (by rw [e, List.append_nil]; exact ha), fun _ _ p np => q p _ (same_upd np) upd_same⟩
theorem cut_to {xs : List V} {k : Nat} : cutV xs none (some (k : Int)) = xs.take k := by
  unfold cutV
  rw [HT.sIx_none, HT.sIx_nat, List.drop_zero, Nat.sub_zero]
  apply List.ext_getElem?
  intro i
  rw [List.getElem?_take, List.getElem?_take]
  by_cases h : i < k
  · rw [if_pos h]
    by_cases h2 : i < xs.length
    · rw [if_pos (by omega)]
    · rw [List.getElem?_eq_none (by omega)]
      split <;> rfl
  · rw [if_neg h, if_neg (by omega)]
theorem cut_from {xs : List V} {k : Nat} : cutV xs (some (k : Int)) none = xs.drop k := by
  unfold cutV
  rw [HT.sIx_none, HT.sIx_nat]
  by_cases h : k ≤ xs.length
  · rw [Nat.min_eq_left h]
    exact List.take_of_length_le (by rw [List.length_drop]; exact Nat.le_refl _)
  · rw [Nat.min_eq_right (by omega), Nat.sub_self, List.take_zero, List.drop_eq_nil_of_le (by omega)]
theorem TkAll.take {H : Hp} : ∀ {xs : List V} {ds : List PyData} (k : Nat), TkAll H xs ds → TkAll H (xs.take k) (ds.take k)
  | _, _, 0, _ => by rw [List.take_zero, List.take_zero]; exact .nil
  | _, _, _ + 1, .nil => .nil
  | _, _, k + 1, .cons a t => .cons a (t.take k)
theorem TkAll.drop {H : Hp} : ∀ {xs : List V} {ds : List PyData} (k : Nat), TkAll H xs ds → TkAll H (xs.drop k) (ds.drop k)
  | _, _, 0, t => t
  | _, _, _ + 1, .nil => .nil
  | _, _, k + 1, .cons _ t => t.drop k
theorem set_put {α : Type} {l : List α} {i : Nat} {x : α} (h : i < l.length) : (l.take i ++ [x]) ++ l.drop (i + 1) = l.set i x := by
  rw [List.set_eq_take_append_cons_drop, if_pos h, List.append_assoc]
  rfl
def rJoinK (K : PySem.W.Frag) : V → List V → Hp → VK → Prop := fun x xs H Q => ∃ a p, ∃ ys : List Str, x = .str a ∧ xs = [.ref p] ∧ (SqL K H p (ys.map V.str) ∨ SqT K H p (ys.map V.str)) ∧ (ys.map (·.length)).sum + ys.length * a.length ≤ 16777216 ∧ Q (.str (Txt.join a ys)) H

/-! ### sizes of what is shown -/
def fineB (n m : Nat) (d : PyData) : Bool := d.showable && (d.leavesShort 200 && (decide (d.weight ≤ n) && decide (d.depth ≤ m)))
theorem fine_iff {n m : Nat} {d : PyData} : fineB n m d = true ↔ d.showable = true ∧ d.leavesShort 200 = true ∧ d.weight ≤ n ∧ d.depth ≤ m := by
  unfold fineB
  rw [Bool.and_eq_true, Bool.and_eq_true, Bool.and_eq_true, decide_eq_true_eq, decide_eq_true_eq]
theorem fine_mono {n m n' m' : Nat} {d : PyData} (h : fineB n m d = true) (a : n ≤ n') (b : m ≤ m') : fineB n' m' d = true := by
  obtain ⟨h1, h2, h3, h4⟩ := fine_iff.mp h
  exact fine_iff.mpr ⟨h1, h2, Nat.le_trans h3 a, Nat.le_trans h4 b⟩
theorem fine_fits {n m : Nat} {d : PyData} (h : fineB n m d = true) (hn : n ≤ 50000) : d.shown.length ≤ sizeLine := by
  obtain ⟨_, h2, h3, _⟩ := fine_iff.mp h
  have := PyData.shown_le 200 (by decide) d h2
  have e : sizeLine = 16777216 := by decide
  rw [e]
  omega
theorem fine_all {n m : Nat} : ∀ {ds : List PyData}, (∀ d ∈ ds, fineB n m d = true) → PyData.showableAll ds = true ∧ PyData.leavesShortAll 200 ds = true ∧ PyData.weightAll ds ≤ ds.length * (n + 1) ∧ PyData.depthAll ds ≤ m
  | [], _ => ⟨rfl, rfl, Nat.zero_le _, Nat.zero_le _⟩
  | d :: r, h => by
    obtain ⟨a1, a2, a3, a4⟩ := fine_iff.mp (h d (List.mem_cons_self ..))
    obtain ⟨b1, b2, b3, b4⟩ := fine_all (ds := r) fun x hx => h x (List.mem_cons_of_mem _ hx)
    refine ⟨?_, ?_, ?_, ?_⟩
    · unfold PyData.showableAll
      rw [a1, b1]
      rfl
    · unfold PyData.leavesShortAll
      rw [a2, b2]
      rfl
    · unfold PyData.weightAll
      rw [List.length_cons, Nat.succ_mul]
      omega
    · unfold PyData.depthAll
      omega
theorem fine_tup {n m k : Nat} {ds : List PyData} (h : ∀ d ∈ ds, fineB n m d = true) (hk : ds.length ≤ k) : fineB (k * (n + 1)) (m + 1) (.tuple ds) = true := by
  obtain ⟨b1, b2, b3, b4⟩ := fine_all h
  refine fine_iff.mpr ⟨b1, b2, ?_, ?_⟩
  · show PyData.weightAll ds ≤ _
    exact Nat.le_trans b3 (Nat.mul_le_mul_right _ hk)
  · show PyData.depthAll ds + 1 ≤ _
    omega
theorem fine_lst {n m k : Nat} {ds : List PyData} (h : ∀ d ∈ ds, fineB n m d = true) (hk : ds.length ≤ k) : fineB (k * (n + 1)) (m + 1) (.list ds) = true := by
  obtain ⟨b1, b2, b3, b4⟩ := fine_all h
  refine fine_iff.mpr ⟨b1, b2, ?_, ?_⟩
  · show PyData.weightAll ds ≤ _
    exact Nat.le_trans b3 (Nat.mul_le_mul_right _ hk)
  · show PyData.depthAll ds + 1 ≤ _
    omega

mutual
theorem Sh.gr {H H' : Hp} (s : Gr H H') : ∀ {v : V} {d : PyData}, Sh H v d → Sh H' v d
  | _, _, .non => .non
  | _, _, .bl b => .bl b
  | _, _, .int i => .int i
  | _, _, .str x => .str x
  | _, _, .lst h n t => .lst (s.lst h) n (t.gr s)
  | _, _, .tup h t => .tup (s.tup h) (t.gr s)
  | _, _, .dic h t => .dic (s.1 _ _ (fun _ z => by cases z) h) (t.gr s)
theorem ShAll.gr {H H' : Hp} (s : Gr H H') : ∀ {vs : List V} {ds : List PyData}, ShAll H vs ds → ShAll H' vs ds
  | _, _, .nil => .nil
  | _, _, .cons h t => .cons (h.gr s) (t.gr s)
end
theorem ShAll.get {H : Hp} : ∀ {xs : List V} {ds : List PyData} {j : Nat} {x : V}, ShAll H xs ds → xs[j]? = some x → ∃ d, ds[j]? = some d ∧ Sh H x d
  | _, _, _, _, .nil, h => by simp at h
  | _, _, 0, _, .cons (d := d) a _, h => by
    cases (Option.some.inj h)
    exact ⟨d, rfl, a⟩
  | _, _, j + 1, _, .cons _ t, h => t.get h
theorem ShAll.append {H : Hp} : ∀ {xs ys : List V} {ds es : List PyData}, ShAll H xs ds → ShAll H ys es → ShAll H (xs ++ ys) (ds ++ es)
  | _, _, _, _, .nil, t => t
  | _, _, _, _, .cons a r, t => .cons a (r.append t)
theorem ShAll.take {H : Hp} : ∀ {xs : List V} {ds : List PyData} (n : Nat), ShAll H xs ds → ShAll H (xs.take n) (ds.take n)
  | _, _, 0, _ => by rw [List.take_zero, List.take_zero]; exact .nil
  | _, _, n + 1, .nil => .nil
  | _, _, n + 1, .cons a r => .cons a (r.take n)
theorem ShAll.drop {H : Hp} : ∀ {xs : List V} {ds : List PyData} (n : Nat), ShAll H xs ds → ShAll H (xs.drop n) (ds.drop n)
  | _, _, 0, h => h
  | _, _, n + 1, .nil => .nil
  | _, _, n + 1, .cons _ r => r.drop n
theorem notT {b : Bool} (h : (!b) = true) : ¬ b = true := by cases b <;> simp_all
theorem notF {b : Bool} (h : ¬ (!b) = true) : b = true := by cases b <;> simp_all

/-! ### anything against a text: ==, in a tuple of texts -/
def sB (z : Str) : PyData → Bool
  | .str x => decide (x = z)
  | _ => false
namespace EqS
open PySem PySem.Spec PyProof.Rows L2 PySem.SeqAt
theorem dict_declines_str (l : Addr) (es : Array DictEntry) (n : Nat) (dd : Option Addr) (sl : Array (Option Value)) (b : PySem.Str) (u : Tok) :
    Meets (Builtin.«dict.__eq__» ⟨[.ref l, .str b u], []⟩) (fun _ R s => s.heap.get? l = some { cls := .type "dict", dict := dd, data := .dict es n, slots := sl } ∧ R (.ok (.ret .notImplemented)) s) :=
  .of_wp fun prog w A R s h => by obtain ⟨hp, g, d, tk, os⟩ := s; obtain ⟨hl, h⟩ := h; have f1 := F.sub_str_dict; wp_walk using wpAny_loadPart' hl; exact ⟨_, rfl, h⟩
theorem str_declines_dict (b : PySem.Str) (u : Tok) (l : Addr) (es : Array DictEntry) (n : Nat) (dd : Option Addr) (sl : Array (Option Value)) :
    Meets (Builtin.«str.__eq__» ⟨[.str b u, .ref l], []⟩) (fun _ R s => s.heap.get? l = some { cls := .type "dict", dict := dd, data := .dict es n, slots := sl } ∧ R (.ok (.ret .notImplemented)) s) :=
  .of_wp fun prog w A R s h => by obtain ⟨hp, g, d, tk, os⟩ := s; obtain ⟨hl, h⟩ := h; wp_walk using wpAny_loadPart' hl, wpAny_load hl; exact ⟨_, rfl, h⟩
section
variable {A : Around} {s : Shared}
theorem rc_dict_str {l : Addr} {o : Obj} {es : Array DictEntry} {n : Nat} (b : PySem.Str) (u : Tok) (ho : s.heap.get? l = some o) (hc : o.cls = .type "dict") (hd : o.data = .dict es n) (hu : A.units < cLine) : RcAt A s (.ref l) (.str b u) false := fun prog w E Q h => by
  obtain ⟨cls, dd, data, sl⟩ := o
  simp only at hc hd
  subst hc hd
  exact rc_eq_decline_or (k := false) ⟨_, ho, rfl⟩ (typeIs_str s b u) (by decide) F.sub_str_dict F.slot_dict_eq F.slot_str_eq_refl
    (fun _ hq => call_meets F.slot_dict_eq ⟨_, ho, rfl⟩ F.entry_dict_eq (F.args_dict_eq_2 _ _) (dict_declines_str l es n dd sl b u) ⟨ho, hq⟩)
    (fun _ hq => call_meets F.slot_str_eq_refl (typeIs_str s b u) F.entry_str_eq (F.args_str_eq_2 _ _) (str_declines_dict b u l es n dd sl) ⟨ho, hq⟩)
    (fun _ hq => wpAny_of_eq (rfl : isSame (.ref l) (.str b u) = pure false) hq) (.inr hu) h
theorem rc_str_dict {l : Addr} {o : Obj} {es : Array DictEntry} {n : Nat} (b : PySem.Str) (u : Tok) (ho : s.heap.get? l = some o) (hc : o.cls = .type "dict") (hd : o.data = .dict es n) (hu : A.units < cLine) : RcAt A s (.str b u) (.ref l) false := fun prog w E Q h => by
  obtain ⟨cls, dd, data, sl⟩ := o
  simp only at hc hd
  subst hc hd
  exact rc_eq_decline_or (k := false) (typeIs_str s b u) ⟨_, ho, rfl⟩ (by decide) F.sub_dict_str F.slot_str_eq F.slot_dict_eq_refl
    (fun _ hq => call_meets F.slot_str_eq (typeIs_str s b u) F.entry_str_eq (F.args_str_eq_2 _ _) (str_declines_dict b u l es n dd sl) ⟨ho, hq⟩)
    (fun _ hq => call_meets F.slot_dict_eq_refl ⟨_, ho, rfl⟩ F.entry_dict_eq (F.args_dict_eq_2 _ _) (dict_declines_str l es n dd sl b u) ⟨ho, hq⟩)
    (fun _ hq => wpAny_of_eq (rfl : isSame (.str b u) (.ref l) = pure false) hq) (.inr hu) h
theorem beq_sB (x z : PySem.Str) : (x == z) = decide (x = z) := by
  by_cases h : x = z
  · rw [decide_eq_true h, h, beq_self_eq_true]
  · rw [decide_eq_false h]
    exact beq_eq_false_iff_ne.mpr h
theorem rc_any {v : Value} {d : PyData} {as : List Addr} (r : Reads s.heap v d as) (z : PySem.Str) (t : Tok) (hu : A.units < cLine) : RcAt A s v (.str z t) (sB z d) := by
  cases r with
  | none => exact RcAt.none_str z t
  | bool b => exact RcAt.bool_str b z t
  | int i k => exact RcAt.int_str i k z t
  | str x k =>
    have := RcAt.str_str (A := A) (s := s) x k z t
    rw [beq_sB] at this
    exact this
  | list h1 h2 h3 _ => exact RcAt.list_str z t ⟨_, h1, h2, _, h3⟩ hu
  | tuple h1 h2 h3 _ => exact RcAt.tuple_str z t ⟨_, h1, h2, _, h3⟩ hu
  | dict h1 h2 h3 _ _ => exact rc_dict_str z t h1 h2 h3 hu
theorem eq_any {v : Value} {d : PyData} {as : List Addr} (r : Reads s.heap v d as) (z : PySem.Str) (t : Tok) (hu : A.units < cLine) : EqAt A s (.str z t) v (sB z d) := by
  cases r with
  | none => exact EqAt.str_none z t
  | bool b => exact EqAt.str_bool z t b
  | int i k => exact EqAt.str_int z t i k
  | str x k =>
    have := EqAt.str_str (A := A) (s := s) z t x k
    have e : (z == x) = sB z (.str x) := by
      rw [beq_sB]
      show decide (z = x) = decide (x = z)
      exact decide_eq_decide.mpr ⟨Eq.symm, Eq.symm⟩
    rw [e] at this
    exact this
  | list h1 h2 h3 _ => exact EqAt.str_list z t ⟨_, h1, h2, _, h3⟩ hu
  | tuple h1 h2 h3 _ => exact EqAt.str_tuple z t ⟨_, h1, h2, _, h3⟩ hu
  | dict h1 h2 h3 _ _ =>
    intro prog w E Q h
    unfold eqBool
    refine wpAny_holding ?_
    refine wpAny_ite_split (fun hab => absurd (eq_of_beq hab) nofun) (fun _ => ?_)
    exact wpAny_bind (rc_str_dict z t h1 h2 h3 hu prog w E _ (wpAny_truthy_bool h))
end
theorem u0 {n c : Nat} (h : n + 64 < c) : n < c := by omega
theorem u1 {n c : Nat} (h : n + 64 < c) : n + 1 < c := by omega
section
variable {X : Cx}
def rEqS : R2 := fun x y H Q => ∃ d z, Sh H x d ∧ y = .str z ∧ Q (.bl (sB z d)) H
theorem op_eqS (hu : X.A.units < cLine) : OpR X (compareOp .Eq) rEqS := by
  intro pins s σ H x y v u Q I rx ry h
  obtain ⟨d, z, sh, rfl, q⟩ := h
  obtain ⟨as, r, _⟩ := Sh.reads I x d v sh rx
  obtain ⟨t, rfl⟩ := ry
  exact rc_any r z t hu X.prog X.w X.xe _ ⟨.bl _, H, I, rfl, q⟩
def rInS : R2 := fun x y H Q => ∃ (d : PyData) (a : Addr) (zs : List PySem.Str), Sh H x d ∧ y = .ref a ∧ H a = some (.tup (zs.map V.str)) ∧ Q (.bl (zs.any fun z => sB z d)) H
theorem any_vals : ∀ {zs : List PySem.Str} {us : List Value} (d : PyData), Vals (zs.map V.str) us → (us.any fun u => match u with | .str z _ => sB z d | _ => false) = zs.any fun z => sB z d
  | [], _, _, .nil => rfl
  | z :: r, _, d, .cons h t => by
    obtain ⟨k, rfl⟩ := h
    rw [List.any_cons, List.any_cons, any_vals d t]
theorem mem_vals : ∀ {zs : List PySem.Str} {us : List Value}, Vals (zs.map V.str) us → ∀ u ∈ us, ∃ z t, u = Value.str z t
  | [], _, .nil, _, h => by cases h
  | z :: r, _, .cons h t, u, hu => by
    obtain ⟨k, rfl⟩ := h
    rcases List.mem_cons.mp hu with e | e
    · exact ⟨_, _, e⟩
    · exact mem_vals t u e
theorem op_inS (hu : X.A.units + 1 < cLine) : OpR X (compareOp .In) rInS := by
  intro pins s σ H x y v u Q I rx ry h
  obtain ⟨d, a, zs, sh, rfl, ha, q⟩ := h
  obtain ⟨as, r, _⟩ := Sh.reads I x d v sh rx
  cases ry
  obtain ⟨its, rv, ⟨⟨cls, dd, data, sl⟩, ho, hc, n, hd⟩, hs⟩ := I.tuple (SqT.of (K := X.K) ha)
  refine in_tupleAt (fun u => match u with | .str z _ => sB z d | _ => false) ⟨_, ho, hc, n, hd⟩ (fun u hu' => ?_) ⟨.bl _, H, I, rfl, ?_⟩
  · obtain ⟨z, t, rfl⟩ := mem_vals rv u (by simpa using hu')
    exact eq_any r z t (by show X.A.units + 1 < cLine; exact hu)
  · have e : (its.toArray.any fun u => match u with | .str z _ => sB z d | _ => false) = zs.any fun z => sB z d := by
      rw [← any_vals d rv]
      simp
    rw [e]
    exact q
end
end EqS

section
variable {P : Program} {w : World} {K : PySem.W.Frag} {mg : Str → Option Value} {base : Heap}
/-! ### kinds of data -/
def isIntD : PyData → Bool
  | .int _ => true
  | .bool _ => true
  | _ => false
def isBoolD : PyData → Bool
  | .bool _ => true
  | _ => false
def isTupD : PyData → Bool
  | .tuple _ => true
  | _ => false
def isStrD : PyData → Bool
  | .str _ => true
  | _ => false
theorem kitInt : ∀ d : PyData, kitB (tyD d) "int" = some (isIntD d)
  | .none => (by decide +kernel : kitB "NoneType" "int" = some false)
  | .bool _ => (by decide +kernel : kitB "bool" "int" = some true)
  | .int _ => (by decide +kernel : kitB "int" "int" = some true)
  | .str _ => (by decide +kernel : kitB "str" "int" = some false)
  | .list _ => (by decide +kernel : kitB "list" "int" = some false)
  | .tuple _ => (by decide +kernel : kitB "tuple" "int" = some false)
  | .dict _ => (by decide +kernel : kitB "dict" "int" = some false)
theorem kitBool : ∀ d : PyData, kitB (tyD d) "bool" = some (isBoolD d)
  | .none => (by decide +kernel : kitB "NoneType" "bool" = some false)
  | .bool _ => (by decide +kernel : kitB "bool" "bool" = some true)
  | .int _ => (by decide +kernel : kitB "int" "bool" = some false)
  | .str _ => (by decide +kernel : kitB "str" "bool" = some false)
  | .list _ => (by decide +kernel : kitB "list" "bool" = some false)
  | .tuple _ => (by decide +kernel : kitB "tuple" "bool" = some false)
  | .dict _ => (by decide +kernel : kitB "dict" "bool" = some false)
theorem kitTup : ∀ d : PyData, kitB (tyD d) "tuple" = some (isTupD d)
  | .none => (by decide +kernel : kitB "NoneType" "tuple" = some false)
  | .bool _ => (by decide +kernel : kitB "bool" "tuple" = some false)
  | .int _ => (by decide +kernel : kitB "int" "tuple" = some false)
  | .str _ => (by decide +kernel : kitB "str" "tuple" = some false)
  | .list _ => (by decide +kernel : kitB "list" "tuple" = some false)
  | .tuple _ => (by decide +kernel : kitB "tuple" "tuple" = some true)
  | .dict _ => (by decide +kernel : kitB "dict" "tuple" = some false)
theorem kitStr : ∀ d : PyData, kitB (tyD d) "str" = some (isStrD d)
  | .none => (by decide +kernel : kitB "NoneType" "str" = some false)
  | .bool _ => (by decide +kernel : kitB "bool" "str" = some false)
  | .int _ => (by decide +kernel : kitB "int" "str" = some false)
  | .str _ => (by decide +kernel : kitB "str" "str" = some true)
  | .list _ => (by decide +kernel : kitB "list" "str" = some false)
  | .tuple _ => (by decide +kernel : kitB "tuple" "str" = some false)
  | .dict _ => (by decide +kernel : kitB "dict" "str" = some false)
def wholeD : PyData → Bool
  | .int _ => true
  | _ => false
def worthD : PyData → Bool
  | .int i => decide (0 ≤ i) && decide (i ≤ 1)
  | _ => false
theorem whole_of : ∀ {d : PyData}, isIntD d = true → wholeD d = !isBoolD d
  | .int _, _ => rfl
  | .bool _, _ => rfl
  | .none, h => by cases h
  | .str _, h => by cases h
  | .list _, h => by cases h
  | .tuple _, h => by cases h
  | .dict _, h => by cases h
theorem whole_not : ∀ {d : PyData}, ¬ isIntD d = true → wholeD d = false
  | .int _, h => absurd rfl h
  | .bool _, h => absurd rfl h
  | .none, _ => rfl
  | .str _, _ => rfl
  | .list _, _ => rfl
  | .tuple _, _ => rfl
  | .dict _, _ => rfl
theorem whole_int : ∀ {d : PyData}, wholeD d = true → ∃ i, d = .int i
  | .int i, _ => ⟨i, rfl⟩
  | .bool _, h => by cases h
  | .none, h => by cases h
  | .str _, h => by cases h
  | .list _, h => by cases h
  | .tuple _, h => by cases h
  | .dict _, h => by cases h
theorem worth_not : ∀ {d : PyData}, ¬ wholeD d = true → worthD d = false
  | .int _, h => absurd rfl h
  | .bool _, _ => rfl
  | .none, _ => rfl
  | .str _, _ => rfl
  | .list _, _ => rfl
  | .tuple _, _ => rfl
  | .dict _, _ => rfl
theorem tup_of : ∀ {d : PyData}, isTupD d = true → ∃ ds, d = .tuple ds
  | .tuple ds, _ => ⟨ds, rfl⟩
  | .bool _, h => by cases h
  | .none, h => by cases h
  | .str _, h => by cases h
  | .list _, h => by cases h
  | .int _, h => by cases h
  | .dict _, h => by cases h
def sp_is_whole (K : PySem.W.Frag) : Sp := fun vs H Q _ => ∃ (v : V) (d : PyData), vs = [v] ∧ Sh H v d ∧ Q (.bl (wholeD d)) H
theorem ok_is_whole (T : Tx w K mg) : FnOk P w K mg base CX0 1 T.f_is_whole T.fd_is_whole ["thing"] (sp_is_whole K) := by
  refine T.F_is_whole.ok sc_is_whole (fun vs H Q E h => ?_) (fun cdv A outer s H vs Q E hr h => ?_)
  · obtain ⟨v, d, rfl, _⟩ := h
    rfl
  · obtain ⟨v, d, rfl, sh, q⟩ := h
    refine ⟨_, (pss_one (ps_ret (pe_and (pe_callB call_isi (by rfl) T.m_isinstance (by decide +kernel) (pa_cons (pv 0) (pa_cons (pe_bltn (v := .ty "int") (u := .type "int") (by rfl) T.m_int (by decide +kernel) rfl) pa_nil))) (pe_one (pe_not (pe_callB call_isi (by rfl) T.m_isinstance (by decide +kernel) (pa_cons (pv 0) (pa_cons (pe_bltn (v := .ty "bool") (u := .type "bool") (by rfl) T.m_bool (by decide +kernel) rfl) pa_nil)))))))), ?_⟩
    refine ⟨v, rfl, _, _, _, _, _, rfl, .ty _, sh.ty, kit_ty (kitInt d), _, rfl, ite2 (fun e => ?_) (fun e => ?_)⟩
    · refine ⟨v, rfl, _, _, _, _, _, rfl, .ty _, sh.ty, kit_ty (kitBool d), _, rfl, ?_⟩
      rw [← whole_of e]
      exact q
    · rw [whole_not e] at q
      exact q

end
end Gk

set_option Elab.async false
set_option linter.all false
set_option maxRecDepth 100000
set_option maxHeartbeats 1000000
set_option pp.maxSteps 1500
set_option pp.deepTerms false
namespace Gk
open PySem PySem.Spec PyProof.Rows L2
theorem str_len (x : String) : (Str.ofString x).length = x.length := PySem.ofString_length x

theorem int_weight {i : Int} {k : Nat} (h : i.natAbs < 2 ^ k) : (PyData.int i).weight ≤ k := by
  show (if i == 0 then 0 else i.natAbs.log2 + 1) ≤ k
  by_cases z : i = 0
  · rw [if_pos (by rw [z]; rfl)]
    exact Nat.zero_le _
  · rw [if_neg (by simpa using z)]
    exact (Nat.log2_lt (by omega)).mpr h

/-! ### what is spoilt stays small -/
mutual
def gd (B : Nat) : PyData → Bool
  | .none => true
  | .bool _ => true
  | .int i => decide (i.natAbs ≤ B)
  | .str x => x.cps.toList.all fun c => decide (c < 128)
  | .list xs => gds B xs
  | .tuple xs => gds B xs
  | .dict kvs => kvs.isEmpty
def gds (B : Nat) : List PyData → Bool
  | [] => true
  | x :: r => gd B x && gds B r
end
theorem gds_iff {B : Nat} : ∀ {l : List PyData}, gds B l = true ↔ ∀ x ∈ l, gd B x = true
  | [] => ⟨fun _ x hx => (by cases hx), fun _ => rfl⟩
  | y :: r => by
    show (gd B y && gds B r) = true ↔ _
    rw [Bool.and_eq_true, gds_iff (l := r)]
    exact ⟨fun ⟨a, b⟩ x hx => (List.mem_cons.mp hx).elim (fun e => e ▸ a) (b x), fun h => ⟨h y (List.mem_cons_self ..), fun x hx => h x (List.mem_cons_of_mem _ hx)⟩⟩
mutual
theorem gd_mono {B C : Nat} (h : B ≤ C) : ∀ {d : PyData}, gd B d = true → gd C d = true
  | .none, _ => rfl
  | .bool _, _ => rfl
  | .int _, e => decide_eq_true (Nat.le_trans (of_decide_eq_true e) h)
  | .str _, e => e
  | .list _, e => gds_mono h e
  | .tuple _, e => gds_mono h e
  | .dict _, e => e
theorem gds_mono {B C : Nat} (h : B ≤ C) : ∀ {l : List PyData}, gds B l = true → gds C l = true
  | [], _ => rfl
  | _ :: _, e => by
    have e' := Bool.and_eq_true_iff.mp e
    exact Bool.and_eq_true_iff.mpr ⟨gd_mono h e'.1, gds_mono h e'.2⟩
end
theorem small_log {i : Int} {B : Nat} (h : i.natAbs ≤ B) (hB : B < 2 ^ 190) : i.natAbs.log2 < 190 := by
  by_cases z : i.natAbs = 0
  · rw [z]; decide
  · exact (Nat.log2_lt z).mpr (Nat.lt_of_le_of_lt h hB)
mutual
theorem gd_show {B : Nat} (hB : B < 2 ^ 190) : ∀ {d : PyData}, gd B d = true → d.showable = true ∧ d.leavesShort 200 = true
  | .none, _ => ⟨rfl, rfl⟩
  | .bool _, _ => ⟨rfl, rfl⟩
  | .int i, e => by
    have l := small_log (of_decide_eq_true e) hB
    refine ⟨decide_eq_true (Nat.lt_trans l (by decide)), decide_eq_true ?_⟩
    have := PySem.int_text_length_le (a := i) (k := 190) (by decide) l
    show (Str.ofString (toString i)).length ≤ 200
    rw [str_len]
    omega
  | .str x, e => by
    refine ⟨rfl, ?_⟩
    show (x.cps.toList.all fun c => decide (c < 16 ^ 8)) = true
    refine List.all_eq_true.mpr fun c hc => decide_eq_true (Nat.lt_trans (of_decide_eq_true (List.all_eq_true.mp e c hc)) (by decide))
  | .list _, e => gds_show hB e
  | .tuple _, e => gds_show hB e
  | .dict [], _ => ⟨rfl, rfl⟩
  | .dict (_ :: _), e => by cases e
theorem gds_show {B : Nat} (hB : B < 2 ^ 190) : ∀ {l : List PyData}, gds B l = true → PyData.showableAll l = true ∧ PyData.leavesShortAll 200 l = true
  | [], _ => ⟨rfl, rfl⟩
  | _ :: _, e => by
    have e' := Bool.and_eq_true_iff.mp e
    have a := gd_show hB e'.1
    have b := gds_show hB e'.2
    exact ⟨Bool.and_eq_true_iff.mpr ⟨a.1, b.1⟩, Bool.and_eq_true_iff.mpr ⟨a.2, b.2⟩⟩
end
def Fit (B n m : Nat) (d : PyData) : Prop := gd B d = true ∧ d.weight ≤ n ∧ d.depth ≤ m
def FitL (B n m : Nat) (ds : List PyData) : Prop := gds B ds = true ∧ PyData.weightAll ds ≤ n ∧ PyData.depthAll ds ≤ m
theorem Fit.mono {B n m B' n' m' : Nat} {d : PyData} (h : Fit B n m d) (a : B ≤ B') (b : n ≤ n') (c : m ≤ m') : Fit B' n' m' d := ⟨gd_mono a h.1, Nat.le_trans h.2.1 b, Nat.le_trans h.2.2 c⟩
theorem Fit.tup {B n m : Nat} {ds : List PyData} (h : FitL B n m ds) : Fit B n (m + 1) (.tuple ds) := ⟨h.1, h.2.1, Nat.succ_le_succ h.2.2⟩
theorem Fit.lst {B n m : Nat} {ds : List PyData} (h : FitL B n m ds) : Fit B n (m + 1) (.list ds) := ⟨h.1, h.2.1, Nat.succ_le_succ h.2.2⟩
theorem Fit.inv {B n m : Nat} {ds : List PyData} (h : Fit B n (m + 1) (.tuple ds)) : FitL B n m ds := ⟨h.1, h.2.1, Nat.le_of_succ_le_succ h.2.2⟩
theorem Fit.fine {B n m : Nat} {d : PyData} (h : Fit B n m d) (hB : B < 2 ^ 190) (hn : n ≤ 50000) (hm : m ≤ 50) : d.showable = true ∧ d.shown.length ≤ sizeLine ∧ d.depth ≤ 50 := by
  have s := gd_show hB h.1
  exact ⟨s.1, fine_fits (n := n) (m := m) (fine_iff.mpr ⟨s.1, s.2, h.2.1, h.2.2⟩) hn, Nat.le_trans h.2.2 hm⟩
theorem weight_app : ∀ a b : List PyData, PyData.weightAll (a ++ b) = PyData.weightAll a + PyData.weightAll b
  | [], b => (Nat.zero_add _).symm
  | x :: r, b => by
    show x.weight + 1 + PyData.weightAll (r ++ b) = x.weight + 1 + PyData.weightAll r + PyData.weightAll b
    rw [weight_app r b]
    omega
theorem depth_app : ∀ a b : List PyData, PyData.depthAll (a ++ b) = max (PyData.depthAll a) (PyData.depthAll b)
  | [], b => (Nat.zero_max _).symm
  | x :: r, b => by
    show max x.depth (PyData.depthAll (r ++ b)) = max (max x.depth (PyData.depthAll r)) (PyData.depthAll b)
    rw [depth_app r b, Nat.max_assoc]
theorem FitL.app {B n n' m : Nat} {a b : List PyData} (h : FitL B n m a) (g : FitL B n' m b) : FitL B (n + n') m (a ++ b) := by
  refine ⟨gds_iff.mpr fun x hx => ?_, ?_, ?_⟩
  · rcases List.mem_append.mp hx with z | z
    · exact gds_iff.mp h.1 x z
    · exact gds_iff.mp g.1 x z
  · rw [weight_app]
    exact Nat.add_le_add h.2.1 g.2.1
  · rw [depth_app]
    exact Nat.max_le.mpr ⟨h.2.2, g.2.2⟩
theorem FitL.parts {B n m : Nat} {a b : List PyData} (h : FitL B n m (a ++ b)) : FitL B n m a ∧ FitL B n m b := by
  obtain ⟨h1, h2, h3⟩ := h
  rw [weight_app] at h2
  rw [depth_app] at h3
  exact ⟨⟨gds_iff.mpr fun x hx => gds_iff.mp h1 x (List.mem_append_left _ hx), by omega, by omega⟩, ⟨gds_iff.mpr fun x hx => gds_iff.mp h1 x (List.mem_append_right _ hx), by omega, by omega⟩⟩
theorem FitL.take {B n m : Nat} {a : List PyData} (h : FitL B n m a) (k : Nat) : FitL B n m (a.take k) := by
  rw [← List.take_append_drop k a] at h
  exact h.parts.1
theorem FitL.drop {B n m : Nat} {a : List PyData} (h : FitL B n m a) (k : Nat) : FitL B n m (a.drop k) := by
  rw [← List.take_append_drop k a] at h
  exact h.parts.2
theorem FitL.one {B n m : Nat} {d : PyData} (h : Fit B n m d) : FitL B (n + 1) m [d] := by
  refine ⟨gds_iff.mpr fun x hx => by rw [List.mem_singleton.mp hx]; exact h.1, ?_, ?_⟩
  · show d.weight + 1 + 0 ≤ n + 1
    have := h.2.1
    omega
  · show max d.depth 0 ≤ m
    have := h.2.2
    omega
theorem FitL.get {B n m : Nat} {ds : List PyData} (h : FitL B n m ds) {j : Nat} {d : PyData} (e : ds[j]? = some d) : Fit B n m d := by
  have s : ds = ds.take j ++ [d] ++ ds.drop (j + 1) := by
    obtain ⟨hl, e'⟩ := List.getElem?_eq_some_iff.mp e
    rw [← e', List.append_assoc, List.singleton_append, List.getElem_cons_drop, List.take_append_drop]
  rw [s] at h
  obtain ⟨h1, h2, h3⟩ := h.parts.1.parts.2
  refine ⟨gds_iff.mp h1 d (List.mem_singleton.mpr rfl), ?_, ?_⟩
  · have : d.weight + 1 + 0 ≤ n := h2
    omega
  · have : max d.depth 0 ≤ m := h3
    omega
theorem weight_rev (a : List PyData) : PyData.weightAll a.reverse = PyData.weightAll a := by
  induction a with
  | nil => rfl
  | cons x r ih =>
    rw [List.reverse_cons, weight_app, ih]
    show PyData.weightAll r + (x.weight + 1 + 0) = x.weight + 1 + PyData.weightAll r
    omega
theorem depth_rev (a : List PyData) : PyData.depthAll a.reverse = PyData.depthAll a := by
  induction a with
  | nil => rfl
  | cons x r ih =>
    rw [List.reverse_cons, depth_app, ih]
    show max (PyData.depthAll r) (max x.depth 0) = max x.depth (PyData.depthAll r)
    omega
theorem FitL.rev {B n m : Nat} {a : List PyData} (h : FitL B n m a) : FitL B n m a.reverse :=
  ⟨gds_iff.mpr fun x hx => gds_iff.mp h.1 x (List.mem_reverse.mp hx), by rw [weight_rev]; exact h.2.1, by rw [depth_rev]; exact h.2.2⟩
theorem ShAll.rev {H : Hp} : ∀ {xs : List V} {ds : List PyData}, ShAll H xs ds → ShAll H xs.reverse ds.reverse
  | _, _, .nil => .nil
  | _, _, .cons a r => by
    rw [List.reverse_cons, List.reverse_cons]
    exact (ShAll.rev r).append (.cons a .nil)

section
variable {P : Program} {w : World} {K : PySem.W.Frag} {mg : Str → Option Value} {base : Heap}
/-! ### forms, as data: what is one -/
def wIn : Str := Str.ofString "in"
def wNot : Str := Str.ofString "not"
def wAnd : Str := Str.ofString "and"
def wOr : Str := Str.ofString "or"
def wOne : Str := Str.ofString "one"
def wNou : Str := Str.ofString "nought"
def wireD (w : Int) : PyData → Bool
  | .int i => decide (0 ≤ i) && decide (i < w)
  | _ => false
def stillD (d : PyData) : Bool := sB wOne d || sB wNou d
def restD : PyData → Bool
  | .tuple ps => decide (2 ≤ ps.length) && decide (ps.length ≤ 4)
  | _ => false
def outP (m : Int) (h r : PyData) : Bool := if sB wIn h = true then wireD m r else if (sB wAnd h || sB wOr h) = true then restD r else sB wNot h
def outD (m : Int) : PyData → Bool
  | .tuple ds => (match ds with
    | [x] => stillD x
    | [h, r] => outP m h r
    | _ => false)
  | _ => false
def partsD : PyData → List PyData
  | .tuple ps => ps
  | _ => []
def inP (h r : PyData) : List PyData := if sB wNot h = true then [r] else if (sB wAnd h || sB wOr h) = true then partsD r else []
def inD : PyData → List PyData
  | .tuple ds => (match ds with
    | [h, r] => inP h r
    | _ => [])
  | _ => []
theorem parts_weight (r : PyData) : PyData.weightAll (partsD r) ≤ r.weight := by
  cases r <;> first | exact Nat.le_refl _ | exact Nat.zero_le _
theorem inD_weight (d : PyData) : PyData.weightAll (inD d) ≤ d.weight := by
  match d with
  | .tuple [h, r] =>
    show PyData.weightAll (inP h r) ≤ h.weight + 1 + (r.weight + 1 + 0)
    unfold inP
    split
    · show r.weight + 1 + 0 ≤ _
      omega
    · split
      · have := parts_weight r
        omega
      · exact Nat.zero_le _
  | .tuple [] => exact Nat.zero_le _
  | .tuple [_] => exact Nat.zero_le _
  | .tuple (_ :: _ :: _ :: _) => exact Nat.zero_le _
  | .none => exact Nat.zero_le _
  | .bool _ => exact Nat.zero_le _
  | .int _ => exact Nat.zero_le _
  | .str _ => exact Nat.zero_le _
  | .list _ => exact Nat.zero_le _
  | .dict _ => exact Nat.zero_le _
theorem mem_weight : ∀ {l : List PyData} {x : PyData}, x ∈ l → x.weight + 1 ≤ PyData.weightAll l
  | y :: r, x, h => by
    show _ ≤ y.weight + 1 + PyData.weightAll r
    rcases List.mem_cons.mp h with e | e
    · rw [e]; omega
    · have := mem_weight e
      omega
def isF (m : Int) (d : PyData) : Bool := outD m d && ((inD d).attach.all fun x => isF m x.1)
termination_by d.weight
decreasing_by
  have h1 := mem_weight x.2
  have h2 := inD_weight d
  omega
theorem isF_eq (m : Int) (d : PyData) : isF m d = (outD m d && (inD d).all (isF m)) := by
  rw [isF]
  congr 1
  rw [← List.attach_map_subtype_val (inD d), List.all_map]
  simp
theorem isF_out {m : Int} {d : PyData} (h : outD m d = false) : isF m d = false := by rw [isF_eq, h]; rfl
theorem isF_in {m : Int} {d : PyData} (h : outD m d = true) : isF m d = (inD d).all (isF m) := by rw [isF_eq, h]; rfl

end
end Gk

set_option Elab.async false
set_option linter.all false
set_option maxRecDepth 100000
set_option maxHeartbeats 1000000
set_option pp.maxSteps 1500
set_option pp.deepTerms false
namespace Gk
open PySem PySem.Spec PyProof.Rows L2
/-! ### d.get(key), d a module's dict -/
namespace KdG
open PySem PySem.W PySem.Calls PyProof.Rows L2
section
variable {X : Cx} {d : Addr} {es : Array DictEntry} {n : Nat} {o e : Expr} {apos cpos : Pos} {td ty : TE}
def tKGet (K : PySem.W.Frag) (d : Addr) (td ty : TE) : TE := fun σ H Q => td σ H fun x H1 => x = .ref d ∧ ty σ H1 fun y H2 => ∃ (z : Str) (r : Option Value) (v : V), y = .str z ∧ PySem.W.nsIn K d z = some r ∧ RelV v (r.getD .none) ∧ Q v H2
theorem pe_kget (D : KDict X.K X.w d es n) (ho : PE X o td) (he : PE X e ty) (m : M1 X o "get" apos e cpos) : PE X (.Call (.Attribute o "get" apos) [e] [] cpos) (tKGet X.K d td ty) := by
  refine ⟨fun pins s σ H Q I h => ?_⟩
  refine wpAny_Call_method m.base m.few m.line PySem.F.plainAttrs_dict PySem.F.slot_dict_get PySem.F.type_dict_get (thn (ho.run pins s σ H _ I h) fun u s1 ⟨x, H1, I1, rx, ex, q1⟩ => ?_)
  subst ex
  obtain rfl : u = Value.ref d := rx
  refine ⟨kd_type D I1, fun b q => ?_, ?_⟩
  · cases q
    exact ⟨_, I1.kIn _ _ D.at_, rfl⟩
  rw [m.trees]
  refine Calls.callWith_builtin rfl (Calls.evalArgs_plain (Calls.spliced_cons (thn (he.run pins s1 σ H1 _ I1 q1) fun iv s2 ⟨y, H2, I2, ry, z, r, v, ey, e1, rv, q2⟩ => Calls.spliced_nil ?_)))
  subst ey
  obtain ⟨t, rfl⟩ := ry
  refine call_meetsIn PySem.F.slot_dict_get (kd_type D I2) PySem.F.entry_dict_get (PySem.F.args_dict_get_2 _ _) (meets_dict_get (strKind X.prog X.w) d (PySem.strKind_is X.prog X.w z t) D.low) ⟨_, PySem.W.mapOf_K (prog := X.prog) I2.kIn D.at_ D.lit, v, H2, I2.tok _, ?_, q2⟩
  show RelV v ((findBy Value.isStrOf es z).getD .none)
  rw [PySem.W.find_K D.at_ e1]
  exact rv
end
end KdG

section
variable {P : Program} {w : World} {K : PySem.W.Frag} {mg : Str → Option Value} {base : Heap}
/-! ### forms -/
inductive Fm where
  | st (b : Bool)
  | inp (i : Nat)
  | no (f : Fm)
  | op (c : Bool) (fs : List Fm)
def wSt (b : Bool) : Str := if b = true then wOne else wNou
def wOp (c : Bool) : Str := if c = true then wAnd else wOr
mutual
def Fm.d : Fm → PyData
  | .st b => .tuple [.str (wSt b)]
  | .inp i => .tuple [.str wIn, .int i]
  | .no f => .tuple [.str wNot, f.d]
  | .op c fs => .tuple [.str (wOp c), .tuple (Fm.dl fs)]
def Fm.dl : List Fm → List PyData
  | [] => []
  | f :: r => f.d :: Fm.dl r
end
theorem Fm.dl_map : ∀ fs : List Fm, Fm.dl fs = fs.map Fm.d
  | [] => rfl
  | f :: r => by
    show f.d :: Fm.dl r = _
    rw [Fm.dl_map r]
    rfl
mutual
def Fm.ok (m : Nat) : Fm → Bool
  | .st _ => true
  | .inp i => decide (i < m)
  | .no f => f.ok m
  | .op _ fs => (decide (2 ≤ fs.length) && decide (fs.length ≤ 4)) && Fm.oks m fs
def Fm.oks (m : Nat) : List Fm → Bool
  | [] => true
  | f :: r => f.ok m && Fm.oks m r
end
mutual
def Fm.cnt : Fm → Nat
  | .st _ => 1
  | .inp _ => 1
  | .no f => 1 + f.cnt
  | .op _ fs => 1 + Fm.cnts fs
def Fm.cnts : List Fm → Nat
  | [] => 0
  | f :: r => f.cnt + Fm.cnts r
end
mutual
def Fm.lv : Fm → Nat
  | .st _ => 1
  | .inp _ => 1
  | .no f => f.lv
  | .op _ fs => Fm.lvs fs
def Fm.lvs : List Fm → Nat
  | [] => 0
  | f :: r => f.lv + Fm.lvs r
end
mutual
def Fm.dep : Fm → Nat
  | .st _ => 1
  | .inp _ => 1
  | .no f => f.dep + 1
  | .op _ fs => Fm.deps fs + 1
def Fm.deps : List Fm → Nat
  | [] => 0
  | f :: r => max f.dep (Fm.deps r)
end
def Fm.inner : Fm → List Fm
  | .no f => [f]
  | .op _ fs => fs
  | _ => []
theorem Fm.oks_mem {m : Nat} : ∀ {fs : List Fm}, Fm.oks m fs = true ↔ ∀ f ∈ fs, f.ok m = true
  | [] => ⟨(fun _ f h => by cases h), fun _ => rfl⟩
  | f :: r => by
    show (f.ok m && Fm.oks m r) = true ↔ _
    rw [Bool.and_eq_true, Fm.oks_mem (fs := r)]
    exact ⟨fun ⟨a, b⟩ x hx => (List.mem_cons.mp hx).elim (fun e => e ▸ a) (b x), fun h => ⟨h f List.mem_cons_self, fun x hx => h x (List.mem_cons_of_mem _ hx)⟩⟩
theorem Fm.deps_mem : ∀ {fs : List Fm} {f : Fm}, f ∈ fs → f.dep ≤ Fm.deps fs
  | g :: r, f, h => by
    show f.dep ≤ max g.dep (Fm.deps r)
    rcases List.mem_cons.mp h with e | e
    · rw [e]; exact Nat.le_max_left _ _
    · exact Nat.le_trans (Fm.deps_mem e) (Nat.le_max_right _ _)
theorem Fm.deps_le : ∀ {fs : List Fm} {k : Nat}, (∀ f ∈ fs, f.dep ≤ k) → Fm.deps fs ≤ k
  | [], _, _ => Nat.zero_le _
  | g :: r, k, h => Nat.max_le.mpr ⟨h g List.mem_cons_self, Fm.deps_le fun f hf => h f (List.mem_cons_of_mem _ hf)⟩
theorem Fm.inner_dep {f g : Fm} (h : g ∈ f.inner) : g.dep + 1 ≤ f.dep := by
  cases f with
  | st _ => cases h
  | inp _ => cases h
  | no f => rw [List.mem_singleton.mp h]; exact Nat.le_refl _
  | op c fs => exact Nat.succ_le_succ (Fm.deps_mem h)
theorem Fm.cnts_app : ∀ a b : List Fm, Fm.cnts (a ++ b) = Fm.cnts a + Fm.cnts b
  | [], b => (Nat.zero_add _).symm
  | f :: r, b => by
    show f.cnt + Fm.cnts (r ++ b) = f.cnt + Fm.cnts r + Fm.cnts b
    rw [Fm.cnts_app r b]
    omega
theorem Fm.lvs_app : ∀ a b : List Fm, Fm.lvs (a ++ b) = Fm.lvs a + Fm.lvs b
  | [], b => (Nat.zero_add _).symm
  | f :: r, b => by
    show f.lv + Fm.lvs (r ++ b) = f.lv + Fm.lvs r + Fm.lvs b
    rw [Fm.lvs_app r b]
    omega
theorem Fm.cnt_eq (f : Fm) : f.cnt = 1 + Fm.cnts f.inner := by
  cases f with
  | st _ => rfl
  | inp _ => rfl
  | no f => show 1 + f.cnt = 1 + (f.cnt + 0); omega
  | op c fs => rfl
mutual
theorem Fm.cnt_pos : ∀ f : Fm, 1 ≤ f.cnt
  | .st _ => Nat.le_refl _
  | .inp _ => Nat.le_refl _
  | .no f => by show 1 ≤ 1 + f.cnt; omega
  | .op _ fs => by show 1 ≤ 1 + Fm.cnts fs; omega
end
theorem w_head (z : Str) : ∀ x : Str, (sB z (.str x) = true) = (x = z) := fun x => by
  show (decide (x = z) = true) = _
  simp
theorem heads (c : Bool) : sB wIn (.str (wOp c)) = false ∧ sB wNot (.str (wOp c)) = false ∧ (sB wAnd (.str (wOp c)) || sB wOr (.str (wOp c))) = true := by
  cases c <;> decide +kernel
theorem headsN : sB wIn (.str wNot) = false ∧ sB wNot (.str wNot) = true ∧ (sB wAnd (.str wNot) || sB wOr (.str wNot)) = false := by decide +kernel
theorem headsI : sB wIn (.str wIn) = true ∧ sB wNot (.str wIn) = false ∧ (sB wAnd (.str wIn) || sB wOr (.str wIn)) = false := by decide +kernel
theorem headsS (b : Bool) : sB wIn (.str (wSt b)) = false ∧ sB wNot (.str (wSt b)) = false ∧ (sB wAnd (.str (wSt b)) || sB wOr (.str (wSt b))) = false := by cases b <;> decide +kernel
mutual
theorem Fm.isF {m : Nat} : ∀ {f : Fm}, f.ok m = true → isF m f.d = true
  | .st b, _ => by
    rw [isF_eq]
    show (stillD (.str (wSt b)) && true) = true
    cases b <;> decide +kernel
  | .inp i, h => by
    have h : i < m := of_decide_eq_true h
    rw [isF_eq]
    show (outP m (.str wIn) (.int i) && (inP (.str wIn) (.int i)).all (Gk.isF m)) = true
    unfold outP inP
    rw [if_pos headsI.1, headsI.2.1, if_neg (by decide), headsI.2.2, if_neg (by decide)]
    show ((decide (0 ≤ (i : Int)) && decide ((i : Int) < (m : Int))) && true) = true
    rw [decide_eq_true (by omega), decide_eq_true (by omega)]
    rfl
  | .no f, h => by
    have h : f.ok m = true := h
    rw [isF_eq]
    show (outP m (.str wNot) f.d && (inP (.str wNot) f.d).all (Gk.isF m)) = true
    unfold outP inP
    rw [if_pos headsN.2.1, headsN.1, if_neg (by decide), headsN.2.2, if_neg (by decide), headsN.2.1]
    show (true && (Gk.isF m f.d && true)) = true
    rw [Fm.isF h]
    rfl
  | .op c fs, h => by
    have h : ((decide (2 ≤ fs.length) && decide (fs.length ≤ 4)) && Fm.oks m fs) = true := h
    rw [Bool.and_eq_true] at h
    rw [isF_eq]
    show (outP m (.str (wOp c)) (.tuple (Fm.dl fs)) && (inP (.str (wOp c)) (.tuple (Fm.dl fs))).all (Gk.isF m)) = true
    unfold outP inP
    rw [(heads c).1, if_neg (by decide), (heads c).2.2, if_pos rfl, (heads c).2.1, if_neg (by decide), if_pos rfl]
    show ((decide (2 ≤ (Fm.dl fs).length) && decide ((Fm.dl fs).length ≤ 4)) && (Fm.dl fs).all (Gk.isF m)) = true
    have l : (Fm.dl fs).length = fs.length := by rw [Fm.dl_map, List.length_map]
    rw [l, h.1, Fm.isFs h.2]
    rfl
theorem Fm.isFs {m : Nat} : ∀ {fs : List Fm}, Fm.oks m fs = true → (Fm.dl fs).all (Gk.isF m) = true
  | [], _ => rfl
  | f :: r, h => by
    have h : (f.ok m && Fm.oks m r) = true := h
    rw [Bool.and_eq_true] at h
    show (Gk.isF m f.d && (Fm.dl r).all (Gk.isF m)) = true
    rw [Fm.isF h.1, Fm.isFs h.2]
    rfl
end
theorem w_len (c : Bool) : (wOp c).length ≤ 3 ∧ (wSt c).length ≤ 6 ∧ wIn.length = 2 ∧ wNot.length = 3 := by cases c <;> decide +kernel
theorem w_gd (c : Bool) : gd 100 (.str (wOp c)) = true ∧ gd 100 (.str (wSt c)) = true ∧ gd 100 (.str wIn) = true ∧ gd 100 (.str wNot) = true := by cases c <;> decide +kernel
mutual
theorem Fm.fit {m : Nat} (m6 : m ≤ 6) : ∀ {f : Fm}, f.ok m = true → gd 100 f.d = true ∧ f.d.weight + 1 ≤ 8 * f.cnt ∧ f.d.depth ≤ 2 * f.dep
  | .st b, _ => by cases b <;> decide +kernel
  | .inp i, h => by
    have h : i < m := of_decide_eq_true h
    have : i = 0 ∨ i = 1 ∨ i = 2 ∨ i = 3 ∨ i = 4 ∨ i = 5 := by omega
    rcases this with rfl | rfl | rfl | rfl | rfl | rfl <;> decide +kernel
  | .no f, h => by
    have h : f.ok m = true := h
    obtain ⟨a, b, c⟩ := Fm.fit m6 h
    refine ⟨?_, ?_, ?_⟩
    · show (gd 100 (.str wNot) && (gd 100 f.d && true)) = true
      rw [(w_gd true).2.2.2, a]
      rfl
    · show wNot.length + 1 + (f.d.weight + 1 + 0) + 1 ≤ 8 * (1 + f.cnt)
      have := (w_len true).2.2.2
      omega
    · show max 0 (max f.d.depth 0) + 1 ≤ 2 * (f.dep + 1)
      omega
  | .op c fs, h => by
    have h : ((decide (2 ≤ fs.length) && decide (fs.length ≤ 4)) && Fm.oks m fs) = true := h
    rw [Bool.and_eq_true] at h
    obtain ⟨a, b, e⟩ := Fm.fits m6 h.2
    refine ⟨?_, ?_, ?_⟩
    · show (gd 100 (.str (wOp c)) && (gds 100 (Fm.dl fs) && true)) = true
      rw [(w_gd c).1, a]
      rfl
    · show (wOp c).length + 1 + (PyData.weightAll (Fm.dl fs) + 1 + 0) + 1 ≤ 8 * (1 + Fm.cnts fs)
      have := (w_len c).1
      omega
    · show max 0 (max (PyData.depthAll (Fm.dl fs) + 1) 0) + 1 ≤ 2 * (Fm.deps fs + 1)
      omega
theorem Fm.fits {m : Nat} (m6 : m ≤ 6) : ∀ {fs : List Fm}, Fm.oks m fs = true → gds 100 (Fm.dl fs) = true ∧ PyData.weightAll (Fm.dl fs) ≤ 8 * Fm.cnts fs ∧ PyData.depthAll (Fm.dl fs) ≤ 2 * Fm.deps fs
  | [], _ => ⟨rfl, Nat.le_refl _, Nat.le_refl _⟩
  | f :: r, h => by
    have h : (f.ok m && Fm.oks m r) = true := h
    rw [Bool.and_eq_true] at h
    obtain ⟨a, b, c⟩ := Fm.fit m6 h.1
    obtain ⟨a2, b2, c2⟩ := Fm.fits m6 h.2
    refine ⟨?_, ?_, ?_⟩
    · show (gd 100 f.d && gds 100 (Fm.dl r)) = true
      rw [a, a2]
      rfl
    · show f.d.weight + 1 + PyData.weightAll (Fm.dl r) ≤ 8 * (f.cnt + Fm.cnts r)
      omega
    · show max f.d.depth (PyData.depthAll (Fm.dl r)) ≤ 2 * max f.dep (Fm.deps r)
      omega
end
mutual
theorem Fm.noL : ∀ f : Fm, noL f.d = true
  | .st _ => rfl
  | .inp _ => rfl
  | .no f => by
    show (true && (Gk.noL f.d && true)) = true
    rw [Fm.noL f]
    rfl
  | .op c fs => by
    show (true && (noLs (Fm.dl fs) && true)) = true
    rw [Fm.noLl fs]
    rfl
theorem Fm.noLl : ∀ fs : List Fm, noLs (Fm.dl fs) = true
  | [] => rfl
  | f :: r => by
    show (Gk.noL f.d && noLs (Fm.dl r)) = true
    rw [Fm.noL f, Fm.noLl r]
    rfl
end
theorem Fm.dep_pos (f : Fm) : 1 ≤ f.dep := by
  cases f with
  | st _ => exact Nat.le_refl _
  | inp _ => exact Nat.le_refl _
  | no f => exact Nat.succ_le_succ (Nat.zero_le _)
  | op c fs => exact Nat.succ_le_succ (Nat.zero_le _)
theorem Fm.inner_few {m : Nat} {f : Fm} (h : f.ok m = true) : f.inner.length ≤ 4 := by
  cases f with
  | st _ => exact Nat.zero_le _
  | inp _ => exact Nat.zero_le _
  | no f => show 1 ≤ 4; decide
  | op c fs =>
    have h : ((decide (2 ≤ fs.length) && decide (fs.length ≤ 4)) && Fm.oks m fs) = true := h
    rw [Bool.and_eq_true, Bool.and_eq_true (decide _)] at h
    exact of_decide_eq_true h.1.2
theorem Fm.inner_ok {m : Nat} {f g : Fm} (h : f.ok m = true) (hg : g ∈ f.inner) : g.ok m = true := by
  cases f with
  | st _ => cases hg
  | inp _ => cases hg
  | no f => rw [List.mem_singleton.mp hg]; exact h
  | op c fs =>
    have h : ((decide (2 ≤ fs.length) && decide (fs.length ≤ 4)) && Fm.oks m fs) = true := h
    rw [Bool.and_eq_true] at h
    exact Fm.oks_mem.mp h.2 g hg
theorem Fm.cnts_sum : ∀ fs : List Fm, (fs.map fun g => ((g.cnt : Nat) : Int)).sum = (Fm.cnts fs : Nat)
  | [] => rfl
  | f :: r => by
    rw [List.map_cons, List.sum_cons, Fm.cnts_sum r]
    show ((f.cnt : Nat) : Int) + (Fm.cnts r : Nat) = ((f.cnt + Fm.cnts r : Nat) : Int)
    push_cast
    rfl

theorem any_and_or (h : PyData) : ([wAnd, wOr].any fun z => sB z h) = (sB wAnd h || sB wOr h) := by
  show (sB wAnd h || (sB wOr h || false)) = _
  rw [Bool.or_false]
/-! ### forms on the heap -/
theorem Fm.tk_st {H : Hp} {v : V} {b : Bool} (h : Tk H v (Fm.st b).d) : ∃ a, v = .ref a ∧ H a = some (.tup [.str (wSt b)]) := by
  obtain ⟨a, xs, rfl, ha, t⟩ := Tk.tup_inv (ds := [.str (wSt b)]) h
  match xs, t with
  | [_], .cons (.str _) .nil => exact ⟨a, rfl, ha⟩
theorem Fm.tk_inp {H : Hp} {v : V} {i : Nat} (h : Tk H v (Fm.inp i).d) : ∃ a, v = .ref a ∧ H a = some (.tup [.str wIn, .int i]) := by
  obtain ⟨a, xs, rfl, ha, t⟩ := Tk.tup_inv (ds := [.str wIn, .int i]) h
  match xs, t with
  | [_, _], .cons (.str _) (.cons (.int _) .nil) => exact ⟨a, rfl, ha⟩
theorem Fm.tk_no {H : Hp} {v : V} {f : Fm} (h : Tk H v (Fm.no f).d) : ∃ a w, v = .ref a ∧ H a = some (.tup [.str wNot, w]) ∧ Tk H w f.d := by
  obtain ⟨a, xs, rfl, ha, t⟩ := Tk.tup_inv (ds := [.str wNot, f.d]) h
  match xs, t with
  | [_, w], .cons (.str _) (.cons tw .nil) => exact ⟨a, w, rfl, ha, tw⟩
theorem Fm.tk_op {H : Hp} {v : V} {c : Bool} {fs : List Fm} (h : Tk H v (Fm.op c fs).d) : ∃ a b ys, v = .ref a ∧ H a = some (.tup [.str (wOp c), .ref b]) ∧ H b = some (.tup ys) ∧ TkAll H ys (fs.map Fm.d) := by
  obtain ⟨a, xs, rfl, ha, t⟩ := Tk.tup_inv (ds := [.str (wOp c), .tuple (Fm.dl fs)]) h
  match xs, t with
  | [_, w], .cons (.str _) (.cons tw .nil) =>
    obtain ⟨b, ys, rfl, hb, ty⟩ := tw.tup_inv
    rw [Fm.dl_map] at ty
    exact ⟨a, b, ys, rfl, ha, hb, ty⟩

/-! ### what a form has within -/
def sp_inner_of (K : PySem.W.Frag) : Sp := fun vs H Q _ => ∃ (v : V) (f : Fm), vs = [v] ∧ Tk H v f.d ∧ ∀ H' a xs, Same H H' → H' a = some (.tup xs) → TkAll H' xs (f.inner.map Fm.d) → Q (.ref a) H'
theorem ok_inner_of (T : Tx w K mg) : FnOk P w K mg base CX0 1 T.f_inner_of T.fd_inner_of ["form"] (sp_inner_of K) := by
  refine T.F_inner_of.ok sc_inner_of (fun vs H Q E h => ?_) (fun cdv A outer s H vs Q E hr h => ?_)
  · obtain ⟨v, f, rfl, _⟩ := h
    rfl
  · obtain ⟨v, f, rfl, tk, q⟩ := h
    refine ⟨_, (pss_cons (ps_if (pt_cmpR op_eq (pe_ix ix_tup (pv 0) pe_int (fun _ _ => rfl)) pe_str (nomark _)) (pss_one (ps_ret (pe_tup (pa_cons (pe_ix ix_tup (pv 0) pe_int (fun _ _ => rfl)) pa_nil)))) pss_nil) (pss_one (ps_ret (pe_ifExp (pt_cmpR (EqS.op_inS (EqS.u1 hr.units)) (pe_ix ix_tup (pv 0) pe_int (fun _ _ => rfl)) (pe_tup (pa_cons pe_str (pa_cons pe_str pa_nil))) rfl) (pe_ix ix_tup (pv 0) pe_int (fun _ _ => rfl)) (pe_tup pa_nil))))), ?_⟩
    have key : (∃ a z r, v = .ref a ∧ H a = some (.tup (.str z :: r)) ∧ z ≠ wNot ∧ (sB wAnd (.str z) || sB wOr (.str z)) = false ∧ f.inner = []) ∨ (∃ g, f = .no g) ∨ ∃ c fs, f = .op c fs := by
      cases f with
      | st b =>
        obtain ⟨a, rfl, ha⟩ := Fm.tk_st tk
        exact .inl ⟨a, _, _, rfl, ha, by cases b <;> decide +kernel, (headsS b).2.2, rfl⟩
      | inp i =>
        obtain ⟨a, rfl, ha⟩ := Fm.tk_inp tk
        exact .inl ⟨a, _, _, rfl, ha, by decide +kernel, headsI.2.2, rfl⟩
      | no f => exact .inr (.inl ⟨f, rfl⟩)
      | op c fs => exact .inr (.inr ⟨c, fs, rfl⟩)
    rcases key with ⟨a, z, r, rfl, ha, n1, n2, fi⟩ | ⟨g, rfl⟩ | ⟨c, fs, rfl⟩
    · refine ⟨.ref a, rfl, a, _, ((0 : Nat) : Int), .str z, rfl, rfl, SqT.of ha, atI_nat rfl, rfl, _, rfl, ite2 (fun e => absurd (V.str.inj (of_decide_eq_true e)) n1) (fun _ => ?_)⟩
      refine ⟨.ref a, rfl, a, _, ((0 : Nat) : Int), .str z, rfl, rfl, SqT.of ha, atI_nat rfl, sl2, fun p np => ?_⟩
      have s1 := same_upd (o := HO.tup [V.str wAnd, V.str wOr]) np
      refine ⟨.str z, p, [wAnd, wOr], .str z, rfl, upd_same, _, rfl, ?_⟩
      rw [any_and_or, n2]
      exact iteF ⟨Nat.zero_le _, fun p2 np2 => q _ p2 [] (s1.trans (same_upd np2)) upd_same (by rw [fi]; exact .nil)⟩
    · obtain ⟨a, w', rfl, ha, tw⟩ := Fm.tk_no tk
      refine ⟨.ref a, rfl, a, _, 0, .str wNot, rfl, rfl, SqT.of ha, rfl, rfl, _, rfl, iteT ?_⟩
      refine ⟨.ref a, rfl, a, _, 1, w', rfl, rfl, SqT.of ha, rfl, sl1, fun p np => ?_⟩
      have s1 := same_upd (o := HO.tup [w']) np
      exact q _ p _ s1 upd_same (.cons (tw.same s1) .nil)
    · obtain ⟨a, b, ys, rfl, ha, hb, ty⟩ := Fm.tk_op tk
      refine ⟨.ref a, rfl, a, _, 0, .str (wOp c), rfl, rfl, SqT.of ha, rfl, rfl, _, rfl, ite2 (fun e => absurd (V.str.inj (of_decide_eq_true e)) (by cases c <;> decide +kernel)) (fun _ => ?_)⟩
      refine ⟨.ref a, rfl, a, _, 0, .str (wOp c), rfl, rfl, SqT.of ha, rfl, sl2, fun p np => ?_⟩
      have s1 := same_upd (o := HO.tup [V.str wAnd, V.str wOr]) np
      refine ⟨.str (wOp c), p, [wAnd, wOr], .str _, rfl, upd_same, _, rfl, ?_⟩
      rw [any_and_or, (heads c).2.2]
      exact iteT ⟨.ref a, rfl, a, _, 1, .ref b, rfl, rfl, SqT.of (s1 _ _ ha), rfl, q _ b ys s1 (s1 _ _ hb) (ty.same s1)⟩

end
end Gk

set_option Elab.async false
set_option linter.all false
set_option maxRecDepth 100000
set_option maxHeartbeats 1000000
set_option pp.maxSteps 1500
set_option pp.deepTerms false
namespace Gk
open PySem PySem.Spec PyProof.Rows L2
section
variable {P : Program} {w : World} {K : PySem.W.Frag} {mg : Str → Option Value} {base : Heap}
/-! ### the law's forms -/
def sp_l_inner (K : PySem.W.Frag) : Sp := fun vs H Q _ => ∃ (v : V) (f : Fm), vs = [v] ∧ Tk H v f.d ∧ ∀ H' a xs, Same H H' → H' a = some (.tup xs) → TkAll H' xs (f.inner.map Fm.d) → Q (.ref a) H'
theorem ok_inner (T : Tx w K mg) : FnOk P w K mg base CX0 1 T.f_inner T.fd_inner ["_law_form_here"] (sp_l_inner K) := by
  refine T.F_inner.ok sc_inner (fun vs H Q E h => ?_) (fun cdv A outer s H vs Q E hr h => ?_)
  · obtain ⟨v, f, rfl, _⟩ := h
    rfl
  · obtain ⟨v, f, rfl, tk, q⟩ := h
    refine ⟨_, (pss_cons (ps_if (pt_cmpR op_eq (pe_ix ix_tup (pv 0) pe_int (fun _ _ => rfl)) pe_str (nomark _)) (pss_one (ps_ret (pe_slice sl_tupA (pv 0) (po_some pe_int) po_none))) pss_nil) (pss_cons (ps_if (pt_cmpR (EqS.op_inS (EqS.u1 hr.units)) (pe_ix ix_tup (pv 0) pe_int (fun _ _ => rfl)) (pe_tup (pa_cons pe_str (pa_cons pe_str pa_nil))) rfl) (pss_one (ps_ret (pe_ix ix_tup (pv 0) pe_int (fun _ _ => rfl)))) pss_nil) (pss_one (ps_ret (pe_tup pa_nil))))), ?_⟩
    have key : (∃ a z r, v = .ref a ∧ H a = some (.tup (.str z :: r)) ∧ z ≠ wNot ∧ (sB wAnd (.str z) || sB wOr (.str z)) = false ∧ f.inner = []) ∨ (∃ g, f = .no g) ∨ ∃ c fs, f = .op c fs := by
      cases f with
      | st b =>
        obtain ⟨a, rfl, ha⟩ := Fm.tk_st tk
        exact .inl ⟨a, _, _, rfl, ha, by cases b <;> decide +kernel, (headsS b).2.2, rfl⟩
      | inp i =>
        obtain ⟨a, rfl, ha⟩ := Fm.tk_inp tk
        exact .inl ⟨a, _, _, rfl, ha, by decide +kernel, headsI.2.2, rfl⟩
      | no f => exact .inr (.inl ⟨f, rfl⟩)
      | op c fs => exact .inr (.inr ⟨c, fs, rfl⟩)
    rcases key with ⟨a, z, r, rfl, ha, n1, n2, fi⟩ | ⟨g, rfl⟩ | ⟨c, fs, rfl⟩
    · refine ⟨.ref a, rfl, a, _, ((0 : Nat) : Int), .str z, rfl, rfl, SqT.of ha, atI_nat rfl, rfl, _, rfl, ite2 (fun e => absurd (V.str.inj (of_decide_eq_true e)) n1) (fun _ => ?_)⟩
      refine ⟨.ref a, rfl, a, _, ((0 : Nat) : Int), .str z, rfl, rfl, SqT.of ha, atI_nat rfl, sl2, fun p np => ?_⟩
      have s1 := same_upd (o := HO.tup [V.str wAnd, V.str wOr]) np
      refine ⟨.str z, p, [wAnd, wOr], .str z, rfl, upd_same, _, rfl, ?_⟩
      rw [any_and_or, n2]
      exact iteF ⟨Nat.zero_le _, fun p2 np2 => q _ p2 [] (s1.trans (same_upd np2)) upd_same (by rw [fi]; exact .nil)⟩
    · obtain ⟨a, w', rfl, ha, tw⟩ := Fm.tk_no tk
      refine ⟨.ref a, rfl, a, _, 0, .str wNot, rfl, rfl, SqT.of ha, rfl, rfl, _, rfl, iteT ?_⟩
      refine ⟨.ref a, rfl, _, rfl, slAn ha fun p H1 s1 h1 => ?_⟩
      exact q H1 p _ s1 h1 (.cons (tw.same s1) .nil)
    · obtain ⟨a, b, ys, rfl, ha, hb, ty⟩ := Fm.tk_op tk
      refine ⟨.ref a, rfl, a, _, 0, .str (wOp c), rfl, rfl, SqT.of ha, rfl, rfl, _, rfl, ite2 (fun e => absurd (V.str.inj (of_decide_eq_true e)) (by cases c <;> decide +kernel)) (fun _ => ?_)⟩
      refine ⟨.ref a, rfl, a, _, 0, .str (wOp c), rfl, rfl, SqT.of ha, rfl, sl2, fun p np => ?_⟩
      have s1 := same_upd (o := HO.tup [V.str wAnd, V.str wOr]) np
      refine ⟨.str (wOp c), p, [wAnd, wOr], .str _, rfl, upd_same, _, rfl, ?_⟩
      rw [any_and_or, (heads c).2.2]
      exact iteT ⟨.ref a, rfl, a, _, 1, .ref b, rfl, rfl, SqT.of (s1 _ _ ha), rfl, q _ b ys s1 (s1 _ _ hb) (ty.same s1)⟩
/-- how many parts a form has, by its depth -/
def sp_count (K : PySem.W.Frag) (e : Nat) : Sp := fun vs H Q _ => ∃ (v : V) (f : Fm) (m : Nat), vs = [v] ∧ Tk H v f.d ∧ f.ok m = true ∧ f.dep ≤ e ∧ ∀ H', Same H H' → Q (.int (f.cnt : Nat)) H'
theorem ok_countE (T : Tx w K mg) : ∀ e : Nat, FnOk P w K mg base CX0 (e + 2) T.f_count T.fd_count ["_law_form_here"] (sp_count K e)
  | 0 => ⟨fun _ _ _ _ h => by obtain ⟨_, f, _, _, _, _, h, _⟩ := h; exact absurd h (by have := Fm.dep_pos f; omega), fun _ _ _ _ _ _ _ _ _ _ _ _ _ h => by obtain ⟨_, f, _, _, _, _, h, _⟩ := h; exact absurd h (by have := Fm.dep_pos f; omega)⟩
  | e + 1 => by
    have ih := ok_countE T e
    refine T.F_count.ok sc_count (fun vs H Q E h => ?_) (fun cdv A outer s H vs Q E hr h => ?_)
    · obtain ⟨v, f, m, rfl, _⟩ := h
      rfl
    · obtain ⟨v, f, m, rfl, tk, ok, de, q⟩ := h
      refine ⟨_, (pss_one (ps_ret (pe_op op_add pe_int (pe_callB (cr_sum rfl) (by rfl) T.m_sum (by decide +kernel) (pa_cons (pe_lc (own := [("_law_part", 1)]) (by rfl) sc_count.nd (pi_tup (pe_call (ok_inner T) (hr.mono (by omega)) (by rfl) T.g_inner T.F_inner.kp T.b_inner .nil pass0 (pa_cons (pv 0) pa_nil))) (blkOk_by (own := [("_law_part", 1)]) (N := ["_law_form_here", "_law_part"]) (sc := defScope s_count) (by decide +kernel)) (fun _ _ _ _ _ => (pg_name (i := 1) sc_count.nd rfl (by first | exact .inl rfl | exact .inr rfl))) (fun _ _ _ _ _ => pts_nil) (fun _ _ _ _ _ => (pe_call (ih) (hr.mono (by omega)) (by rfl) T.g_count T.F_count.kp T.b_count .nil pass0 (pa_cons (pv 1) pa_nil)))) pa_nil))))), ?_⟩
      refine ⟨v, rfl, v, f, rfl, tk, fun H1 a xs s1 ha txs => ⟨a, rfl, ⟨_, SqT.of ha⟩, fun D nD => ?_⟩⟩
      have lxs : xs.length = f.inner.length := by rw [txs.length, List.length_map]
      have few : f.inner.length ≤ 4 := Fm.inner_few ok
      refine lc_tup (K := K) (a := a) (xs := xs) (fun i H' => Same H1 (hd1 D H') ∧ H' D = some (.lst (((f.inner.take i).map fun g => ((g.cnt : Nat) : Int)).map V.int))) ⟨hd1_of (same_upd nD) nD, upd_same⟩ (fun i H' _ z => SqT.of (hd1_le _ _ (z.1 _ _ ha))) ?_ ?_
      · rintro i u H2 hu ⟨s2, hD⟩
        obtain ⟨g, hg, tg⟩ := txs.at hu
        have gm := List.mem_of_getElem? hg
        have k2 : Same H1 H2 := fun b o z => hd1_le _ _ (s2 b o z)
        have il := (List.getElem?_eq_some_iff.mp hg).1
        refine ⟨rfl, u, rfl, u, g, m, rfl, tg.same k2, Fm.inner_ok ok gm, by have := Fm.inner_dep gm; omega, fun H3 s3 => ⟨_, s3 _ _ hD, ?_, (s2.trans (hd1_same s3)).trans hd1_upd, ?_⟩⟩
        · rw [List.length_map, List.length_map, List.length_take]
          exact Nat.lt_of_le_of_lt (show min i f.inner.length ≤ 4 by omega) (by decide)
        · rw [upd_same, List.take_add_one, hg, List.map_append, List.map_append]
          rfl
      · rintro H2 ⟨s2, hD⟩
        rw [lxs, List.take_length] at hD
        have k2 : Same H1 H2 := fun b o z => hd1_le _ _ (s2 b o z)
        refine ⟨D, _, rfl, SqL.of hD, _, _, rfl, rfl, ?_⟩
        have e1 : (f.inner.map fun g => ((g.cnt : Nat) : Int)).sum = (Fm.cnts f.inner : Nat) := Fm.cnts_sum _
        rw [e1]
        have q := q H2 (s1.trans k2)
        rw [Fm.cnt_eq f] at q
        have e2 : ((1 + Fm.cnts f.inner : Nat) : Int) = 1 + (Fm.cnts f.inner : Nat) := by push_cast; rfl
        rw [e2] at q
        exact q

end
end Gk

set_option Elab.async false
set_option linter.all false
set_option maxRecDepth 100000
set_option maxHeartbeats 1000000
set_option pp.maxSteps 1500
set_option pp.deepTerms false
namespace Gk
open PySem PySem.Spec PyProof.Rows L2
section
variable {P : Program} {w : World} {K : PySem.W.Frag} {mg : Str → Option Value} {base : Heap}
/-! ### forms drawn -/
def Kp3 (a b c : Addr) (H H' : Hp) : Prop := ∀ x o, x ≠ a → x ≠ b → x ≠ c → H x = some o → H' x = some o
theorem Kp3.refl {a b c : Addr} {H : Hp} : Kp3 a b c H H := fun _ _ _ _ _ e => e
theorem Kp3.trans {a b c : Addr} {H H1 H2 : Hp} (s : Kp3 a b c H H1) (t : Kp3 a b c H1 H2) : Kp3 a b c H H2 := fun x o h1 h2 h3 e => t x o h1 h2 h3 (s x o h1 h2 h3 e)
theorem Kp3.fr {a b c : Addr} {H H' : Hp} (f : Fr a b H H') : Kp3 a b c H H' := fun x o h1 h2 _ e => f x o h1 h2 e
theorem Kp3.of {a b c : Addr} {H H' : Hp} (s : Same H H') : Kp3 a b c H H' := fun x o _ _ _ e => s x o e
theorem Kp3.ts {d l L : Addr} {n : Int} {b : V} {H H' : Hp} (k : Kp3 d l L H H') (D : DeckC H d l n) (hL : H L = some (.lst [b])) : Ts H H' := fun x xs e => by
  obtain ⟨_, cs, y, z, h1, h2, _⟩ := D
  exact k x _ (ne_of e h1 (by intro z; cases z)) (ne_of e h2 (by intro z; cases z)) (ne_of e hL (by intro z; cases z)) e
theorem Kp3.add {d l L : Addr} {H H' : Hp} {p : Addr} {o : HO} (k : Kp3 d l L H H') (n : H p = none) : Kp3 d l L H (upd H' p o) := fun x u h1 h2 h3 e => by
  rw [upd_ne (ne_of_none e n)]
  exact k x u h1 h2 h3 e
def sp_form (K : PySem.W.Frag) (e : Nat) : Sp := fun vs H Q _ => ∃ (d l L : Addr) (n : Int) (m : Nat) (b : Int), vs = [.ref d, .int (m : Nat), .int (e : Nat), .ref L] ∧ DeckC H d l n ∧ n + 40000 * (e + 1) ≤ 100000000 ∧ e ≤ 9 ∧ H L = some (.lst [.int b]) ∧ L ≠ d ∧ L ≠ l ∧ 1 ≤ m ∧ m ≤ 6 ∧ b ≤ 1000 ∧
  ∀ (v : V) (H' : Hp) (f : Fm), DeckC H' d l (n + 3 * ((e : Int) + 1) * (f.lv : Nat)) → Kp3 d l L H H' → H' L = some (.lst [.int (b - (f.lv : Nat))]) → Tk H' v f.d → f.ok m = true → f.dep ≤ e + 1 → 1 ≤ f.lv → (f.lv = 1 ∨ (f.lv : Int) ≤ b + 3 * e) → Q v H'
theorem never_okF {f : Addr} {fd : FuncData} {ps : List Str} : FnOk P w K mg base CX0 0 f fd ps (fun _ _ _ _ => False) := ⟨fun _ _ _ _ h => h.elim, fun _ _ _ _ _ _ _ _ _ _ _ _ _ h => h.elim⟩
theorem st_at {x : Int} (h0 : 7 < x) (h1 : x < 10) (u v : V) : ∃ b : Bool, atI [u, v] (x - 8) = some (if b = true then u else v) := by
  have : x = 8 ∨ x = 9 := by omega
  rcases this with rfl | rfl
  · exact ⟨true, rfl⟩
  · exact ⟨false, rfl⟩
theorem op_at {x : Int} (h0 : 0 ≤ x) (h1 : x < 2) : ∃ c : Bool, atI [V.str wAnd, V.str wOr] x = some (.str (wOp c)) := by
  have : x = 0 ∨ x = 1 := by omega
  rcases this with rfl | rfl
  · exact ⟨true, rfl⟩
  · exact ⟨false, rfl⟩
theorem num_at {x : Int} (h0 : 0 ≤ x) (h1 : x < 4) : ∃ c : Nat, atI [V.int 2, V.int 2, V.int 3, V.int 4] x = some (.int (c : Nat)) ∧ 2 ≤ c ∧ c ≤ 4 := by
  have : x = 0 ∨ x = 1 ∨ x = 2 ∨ x = 3 := by omega
  rcases this with rfl | rfl | rfl | rfl
  · exact ⟨2, rfl, by decide, by decide⟩
  · exact ⟨2, rfl, by decide, by decide⟩
  · exact ⟨3, rfl, by decide, by decide⟩
  · exact ⟨4, rfl, by decide, by decide⟩
theorem ok_formB (T : Tx w K mg) (e : Nat) (sub : Sp) (lvl : Nat) (hl : lvl + 3 ≤ e + 3) (ih : FnOk P w K mg base CX0 (lvl + 2) T.f_form T.fd_form ["_law_deck_here", "_law_many", "_law_deep", "_law_left"] sub) (hsub : ∀ k, e = k + 1 → ∀ vs H Q E, sp_form K k vs H Q E → sub vs H Q E) : FnOk P w K mg base CX0 (e + 3) T.f_form T.fd_form ["_law_deck_here", "_law_many", "_law_deep", "_law_left"] (sp_form K e) := by
  refine T.F_form.ok sc_form (fun vs H Q E h => ?_) (fun cdv A outer s H vs Q E hr h => ?_)
  · obtain ⟨d, l, L, n, m, b, rfl, _⟩ := h
    rfl
  · obtain ⟨d, l, L, n, m, b, rfl, D, hn, e9, hL, Ld, Ll, m1, m6, b1, q⟩ := h
    refine ⟨_, (pss_cons (ps_set (i := 4) sc_form.nd rfl (by first | exact .inl rfl | exact .inr rfl) (pe_call (ok_take T) (hr.mono (by omega)) (by rfl) T.g_take T.F_take.kp T.b_take .nil pass0 (pa_cons (pv 0) (pa_cons pe_int pa_nil)))) (pss_cons (ps_if (pt_cut (pw_or (pt_cmpR op_eq (pv 2) pe_int (nomark _)) (pw_or (pt_cmpR op_lt (pe_ix ix_list (pv 3) pe_int (fun _ _ => rfl)) pe_int (nomark _)) (pw_or1 (pt_cmpR op_lt (pv 4) pe_int (nomark _))))).pt) (pss_cons (ps_asg (pe_op op_sub (pe_ix ix_list (pv 3) pe_int (fun _ _ => rfl)) pe_int) (pg_sub (pv 3) pe_int set_list)) (pss_cons (ps_set (i := 5) sc_form.nd rfl (by first | exact .inl rfl | exact .inr rfl) (pe_call (ok_take T) (hr.mono (by omega)) (by rfl) T.g_take T.F_take.kp T.b_take .nil pass0 (pa_cons (pv 0) (pa_cons pe_int pa_nil)))) (pss_cons (ps_if (pt_cmpR op_gt (pv 5) pe_int (nomark _)) (pss_one (ps_ret (pe_ix ix_list (pe_lst (pa_cons (pe_tup (pa_cons pe_str pa_nil)) (pa_cons (pe_tup (pa_cons pe_str pa_nil)) pa_nil))) (pe_op op_sub (pv 5) pe_int) (fun _ _ => rfl)))) pss_nil) (pss_one (ps_ret (pe_tup (pa_cons pe_str (pa_cons (pe_call (ok_take T) (hr.mono (by omega)) (by rfl) T.g_take T.F_take.kp T.b_take .nil pass0 (pa_cons (pv 0) (pa_cons (pv 1) pa_nil))) pa_nil)))))))) pss_nil) (pss_cons (ps_if (pt_cmpR op_lt (pv 4) pe_int (nomark _)) (pss_one (ps_ret (pe_tup (pa_cons pe_str (pa_cons (pe_call (ih) (hr.mono (by omega)) (by rfl) T.g_form T.F_form.kp T.b_form .nil pass0 (pa_cons (pv 0) (pa_cons (pv 1) (pa_cons (pe_op op_sub (pv 2) pe_int) (pa_cons (pv 3) pa_nil))))) pa_nil))))) pss_nil) (pss_cons (ps_set (i := 6) sc_form.nd rfl (by first | exact .inl rfl | exact .inr rfl) (pe_ix ix_list (pe_lst (pa_cons pe_str (pa_cons pe_str pa_nil))) (pe_call (ok_take T) (hr.mono (by omega)) (by rfl) T.g_take T.F_take.kp T.b_take .nil pass0 (pa_cons (pv 0) (pa_cons pe_int pa_nil))) (fun _ _ => rfl))) (pss_cons (ps_set (i := 7) sc_form.nd rfl (by first | exact .inl rfl | exact .inr rfl) (pe_lst pa_nil)) (pss_cons (ps_for PassesOwn.never rfl (pi_range1 (by rfl) T.m_range (pa_cons (pe_ix ix_list (pe_lst (pa_cons pe_int (pa_cons pe_int (pa_cons pe_int (pa_cons pe_int pa_nil))))) (pe_call (ok_take T) (hr.mono (by omega)) (by rfl) T.g_take T.F_take.kp T.b_take .nil pass0 (pa_cons (pv 0) (pa_cons pe_int pa_nil))) (fun _ _ => rfl)) pa_nil)) (pg_name (i := 8) sc_form.nd rfl (by first | exact .inl rfl | exact .inr rfl)) (pss_one (ps_expr (pe_bm PySem.F.plainAttrs_list PySem.F.slot_list_append PySem.F.type_list_append mt_append (pv 7) (pa_cons (pe_call (ih) (hr.mono (by omega)) (by rfl) T.g_form T.F_form.kp T.b_form .nil pass0 (pa_cons (pv 0) (pa_cons (pv 1) (pa_cons (pe_op op_sub (pv 2) pe_int) (pa_cons (pv 3) pa_nil))))) pa_nil))))) (pss_one (ps_ret (pe_tup (pa_cons (pv 6) (pa_cons (pe_callTy call_tuple_of (by rfl) T.m_tuple (by decide +kernel) (pa_cons (pv 7) pa_nil)) pa_nil))))))))))), ?_⟩
    refine ⟨.ref d, rfl, d, l, 8, _, rfl, D, by omega, by decide, by decide, fun H1 way D1 fr1 w0 w1 => ?_⟩
    have hL1 := fr1 _ _ Ld Ll hL
    refine ⟨fun c H' => H' = H1 ∧ (c = false → e ≠ 0 ∧ 2 ≤ b), ?_, ?_⟩
    · refine ⟨.int (e : Nat), rfl, rfl, _, rfl, ite2 (fun _ => ⟨rfl, fun z => by cases z⟩) (fun ne => ?_)⟩
      have ne : e ≠ 0 := fun z => ne (by rw [z]; exact decide_eq_true rfl)
      refine ⟨.ref L, rfl, L, _, 0, .int b, rfl, rfl, SqL.of hL1, rfl, _, _, rfl, rfl, _, rfl, ite2 (fun _ => ⟨rfl, fun z => by cases z⟩) (fun nb => ?_)⟩
      have nb : ¬ b < 2 := fun z => nb (decide_eq_true z)
      exact ⟨.int way, rfl, _, _, rfl, rfl, _, rfl, rfl, fun _ => ⟨ne, by omega⟩⟩
    rintro c H2 ⟨h21, hc⟩
    have h21 := h21.symm
    subst h21
    cases c with
    | true =>
      refine iteT ?_
      refine ⟨.ref L, rfl, L, _, 0, .int b, rfl, rfl, SqL.of hL1, rfl, _, _, rfl, rfl, .ref L, rfl, L, _, _, 0, rfl, rfl, hL1, rfl, ?_⟩
      have D3 := D1.upd (p := L) (o := .lst [.int (b - 1)]) Ld Ll
      have k3 : Kp3 d l L H (upd H1 L (.lst [.int (b - 1)])) := (Kp3.fr fr1).trans fun x o _ _ h3 e => by
        rw [upd_ne h3]
        exact e
      have hL3 : upd H1 L (.lst [.int (b - 1)]) L = some (.lst [.int (b - 1)]) := upd_same
      show tSeq _ _ _ _ (upd H1 L (HO.lst [.int (b - 1)]))
      generalize upd H1 L (.lst [.int (b - 1)]) = H3 at D3 k3 hL3 ⊢
      have c1 : (1 : Int) ≤ 3 * ((e : Int) + 1) := by omega
      refine ⟨.ref d, rfl, d, l, 10, _, rfl, D3, by omega, by decide, by decide, fun H4 x D4 fr4 x0 x1 => ?_⟩
      have hL4 := fr4 _ _ Ld Ll hL3
      have k4 := k3.trans (Kp3.fr fr4)
      refine ⟨.int x, rfl, _, _, rfl, rfl, _, rfl, ite2 (fun x7 => ?_) (fun x7 => ?_)⟩
      · have x7 : 7 < x := of_decide_eq_true x7
        refine ⟨sl1, fun p1 np1 => ?_⟩
        have s5 := same_upd (o := (HO.tup [V.str (Str.ofString "one")])) np1
        have h5 : upd H4 p1 (HO.tup [V.str (Str.ofString "one")]) p1 = some (HO.tup [V.str (Str.ofString "one")]) := upd_same
        generalize upd H4 p1 (HO.tup [V.str (Str.ofString "one")]) = H5 at s5 h5 ⊢
        refine ⟨sl1, fun p2 np2 => ?_⟩
        have s6 := same_upd (o := (HO.tup [V.str (Str.ofString "nought")])) np2
        have h6 : upd H5 p2 (HO.tup [V.str (Str.ofString "nought")]) p2 = some (HO.tup [V.str (Str.ofString "nought")]) := upd_same
        generalize upd H5 p2 (HO.tup [V.str (Str.ofString "nought")]) = H6 at s6 h6 ⊢
        refine ⟨sl2, fun p3 np3 => ?_⟩
        have s7 := same_upd (o := (HO.lst [V.ref p1, V.ref p2])) np3
        have h7 : upd H6 p3 (HO.lst [V.ref p1, V.ref p2]) p3 = some (HO.lst [V.ref p1, V.ref p2]) := upd_same
        generalize upd H6 p3 (HO.lst [V.ref p1, V.ref p2]) = H7 at s7 h7 ⊢
        obtain ⟨sb, hsb⟩ := st_at x7 x1 (V.ref p1) (V.ref p2)
        have sA := s5.trans (s6.trans s7)
        refine ⟨.int x, rfl, _, _, rfl, rfl, p3, _, _, _, rfl, rfl, SqL.of h7, hsb, ?_⟩
        refine q _ H7 (.st sb) ((D4.same sA).mono (by show n + 1 + 1 ≤ n + 3 * ((e : Int) + 1) * 1; omega)) (k4.trans (Kp3.of sA)) (sA _ _ hL4) ?_ rfl (Nat.succ_le_succ (Nat.zero_le _)) (Nat.le_refl _) (.inl rfl)
        cases sb
        · exact .tup (s7 _ _ h6) (.cons (.str _) .nil)
        · exact .tup (s7 _ _ (s6 _ _ h5)) (.cons (.str _) .nil)
      · refine ⟨.ref d, rfl, .int (m : Nat), rfl, d, l, (m : Nat), _, rfl, D4, by omega, by omega, by omega, fun H5 i D5 fr5 i0 i1 => ?_⟩
        obtain ⟨i, rfl⟩ := Int.eq_ofNat_of_zero_le i0
        refine ⟨sl2, fun p np => ?_⟩
        have s6 := same_upd (o := HO.tup [V.str (Str.ofString "in"), V.int (i : Nat)]) np
        refine q _ _ (.inp i) ((D5.same s6).mono (by show n + 1 + 1 + 1 ≤ n + 3 * ((e : Int) + 1) * 1; omega)) ((k4.trans (Kp3.fr fr5)).trans (Kp3.of s6)) (s6 _ _ (fr5 _ _ Ld Ll hL4)) (.tup upd_same (.cons (.str _) (.cons (.int _) .nil))) (decide_eq_true (by omega)) (Nat.succ_le_succ (Nat.zero_le _)) (Nat.le_refl _) (.inl rfl)
    | false =>
      obtain ⟨ne, b2⟩ := hc rfl
      obtain ⟨k, rfl⟩ : ∃ k, e = k + 1 := ⟨e - 1, by omega⟩
      have e1 : (((k + 1 : Nat) : Int) - 1) = (k : Nat) := by omega
      have cc : 3 * (((k + 1 : Nat) : Int) + 1) = 3 * ((k : Int) + 1) + 3 := by omega
      rw [cc] at q
      refine iteF ?_
      refine ⟨.int way, rfl, _, _, rfl, rfl, _, rfl, ite2 (fun w4 => ?_) (fun w4 => ?_)⟩
      · refine ⟨.ref d, rfl, .int (m : Nat), rfl, .int ((k + 1 : Nat) : Int), rfl, _, _, rfl, rfl, .ref L, rfl, hsub k rfl _ _ _ _ ⟨d, l, L, _, m, b, (by show [V.ref d, V.int (m : Nat), V.int (((k + 1 : Nat) : Int) - 1), V.ref L] = _; rw [e1]), D1, by omega, by omega, hL1, Ld, Ll, m1, m6, b1, fun v H3 f D3 k3 hL3 tk ok de lp lb => ?_⟩⟩
        refine ⟨sl2, fun p np => ?_⟩
        have s4 := same_upd (o := HO.tup [V.str (Str.ofString "not"), v]) np
        have e2 : (3 * ((k : Int) + 1) + 3) * (f.lv : Nat) = 3 * ((k : Int) + 1) * (f.lv : Nat) + 3 * (f.lv : Nat) := Int.add_mul ..
        refine q _ _ (.no f) ((D3.same s4).mono (by show _ ≤ n + (3 * ((k : Int) + 1) + 3) * (f.lv : Nat); rw [e2]; omega)) (((Kp3.fr fr1).trans k3).trans (Kp3.of s4)) (s4 _ _ hL3) (.tup upd_same (.cons (.str _) (.cons (tk.same s4) .nil))) ok (Nat.succ_le_succ de) lp (by
          rcases lb with z | z
          · exact .inl z
          · exact .inr (by show (f.lv : Int) ≤ _; omega))
      · refine ⟨sl2, fun p np => ?_⟩
        have op := D1.off np
        have Lp : L ≠ p := ne_of_none hL1 np
        have s2 := same_upd (o := (HO.lst [V.str (Str.ofString "and"), V.str (Str.ofString "or")])) np
        have h2 : upd H1 p (HO.lst [V.str (Str.ofString "and"), V.str (Str.ofString "or")]) p = some (HO.lst [V.str (Str.ofString "and"), V.str (Str.ofString "or")]) := upd_same
        generalize upd H1 p (HO.lst [V.str (Str.ofString "and"), V.str (Str.ofString "or")]) = H2 at s2 h2 ⊢
        have D2 := D1.same s2
        refine ⟨.ref d, rfl, d, l, 2, _, rfl, D2, by omega, by decide, by decide, fun H3 x D3 fr3 x0 x1 => ?_⟩
        obtain ⟨cw, hcw⟩ := op_at x0 x1
        refine ⟨p, _, x, .str (wOp cw), rfl, rfl, SqL.of (fr3 _ _ op.1 op.2 h2), hcw, ?_⟩
        have hL3 := fr3 _ _ Ld Ll (s2 _ _ hL1)
        have k3 : Kp3 d l L H H3 := ((Kp3.fr fr1).trans (Kp3.of s2)).trans (Kp3.fr fr3)
        refine ⟨Nat.zero_le _, fun W nW => ?_⟩
        have oW := D3.off nW
        have LW : L ≠ W := ne_of_none hL3 nW
        have s4 := same_upd (o := (HO.lst [])) nW
        have hW : upd H3 W (HO.lst []) W = some (HO.lst []) := upd_same
        generalize upd H3 W (HO.lst []) = H4 at s4 hW ⊢
        have D4 := D3.same s4
        refine ⟨sl4, fun p5 np5 => ?_⟩
        have o5 := D4.off np5
        have s5 := same_upd (o := (HO.lst [V.int 2, V.int 2, V.int 3, V.int 4])) np5
        have h5 : upd H4 p5 (HO.lst [V.int 2, V.int 2, V.int 3, V.int 4]) p5 = some (HO.lst [V.int 2, V.int 2, V.int 3, V.int 4]) := upd_same
        generalize upd H4 p5 (HO.lst [V.int 2, V.int 2, V.int 3, V.int 4]) = H5 at s5 h5 ⊢
        have D5 := D4.same s5
        refine ⟨.ref d, rfl, d, l, 4, _, rfl, D5, by omega, by decide, by decide, fun H6 y D6 fr6 y0 y1 => ?_⟩
        obtain ⟨c, hcn, c2, c4⟩ := num_at y0 y1
        refine ⟨p5, _, y, .int (c : Nat), rfl, rfl, SqL.of (fr6 _ _ o5.1 o5.2 h5), hcn, c, rfl, by omega, by omega, ?_⟩
        have hW6 := fr6 _ _ oW.1 oW.2 (s5 _ _ hW)
        have hL6 := fr6 _ _ Ld Ll (s5 _ _ (s4 _ _ hL3))
        have k6 : Kp3 d l L H H6 := ((k3.trans (Kp3.of s4)).trans (Kp3.of s5)).trans (Kp3.fr fr6)
        have nW0 : H W = none := by
          cases z : H W with
          | none => rfl
          | some o =>
            have := k3 W o oW.1 oW.2 LW.symm z
            rw [nW] at this
            cases this
        refine for_range (lo := 0) (n := (c : Int).toNat) (fun i σ H' => ∃ y8 vs fs, σ = [some (.ref d), some (.int (m : Nat)), some (.int ((k + 1 : Nat) : Int)), some (.ref L), some (.int way), none, some (.str (wOp cw)), some (.ref W), y8] ∧ DeckC H' d l (n + 3 + 3 * ((k : Int) + 1) * (Fm.lvs fs : Nat)) ∧ Kp3 d l L H H' ∧ H' L = some (.lst [.int (b - (Fm.lvs fs : Nat))]) ∧ H' W = some (.lst vs) ∧ TkAll H' vs (fs.map Fm.d) ∧ fs.length = i ∧ Fm.oks m fs = true ∧ Fm.deps fs ≤ k + 1 ∧ i ≤ Fm.lvs fs ∧ (Fm.lvs fs : Int) ≤ b + 3 * (k : Int) + (i : Int) - 1)
          ⟨_, [], [], rfl, D6.mono (by show n + 1 + 1 + 1 ≤ n + 3 + 3 * ((k : Int) + 1) * ((0 : Nat) : Int); omega), k6, by show H6 L = some (.lst [.int (b - ((0 : Nat) : Int))]); rw [show b - ((0 : Nat) : Int) = b by omega]; exact hL6, hW6, .nil, rfl, rfl, Nat.zero_le _, Nat.le_refl _, by show ((0 : Nat) : Int) ≤ _; omega⟩ ?_ ?_
        · rintro i σ H7 hi ⟨y8, vs, fs, rfl, D7, k7, hL7, hW7, tv, lf, okf, df, ilv, lvb⟩
          have hi' : i < c := by omega
          have lvs : vs.length = i := by rw [tv.length, List.length_map, lf]
          have small : 3 * ((k : Int) + 1) * (Fm.lvs fs : Nat) ≤ 27 * 1050 := Int.mul_le_mul (by omega) (by omega) (by omega) (by decide)
          refine ⟨.ref W, rfl, .inl ⟨rfl, _, SqL.of hW7⟩, .ref d, rfl, .int (m : Nat), rfl, .int ((k + 1 : Nat) : Int), rfl, _, _, rfl, rfl, .ref L, rfl, hsub k rfl _ _ _ _ ⟨d, l, L, _, m, b - (Fm.lvs fs : Nat), (by show [V.ref d, V.int (m : Nat), V.int (((k + 1 : Nat) : Int) - 1), V.ref L] = _; rw [e1]), D7, by omega, by omega, hL7, Ld, Ll, m1, m6, by omega, fun v H8 f D8 k8 hL8 tk ok de lp lb => ?_⟩⟩
          have hW8 := k8 _ _ oW.1 oW.2 LW.symm hW7
          have ts8 := k8.ts D7 hL7
          have ts9 := Ts.set (ys := vs ++ [v]) hW8
          have la : Fm.lvs (fs ++ [f]) = Fm.lvs fs + f.lv := by rw [Fm.lvs_app]; rfl
          have e3 : 3 * ((k : Int) + 1) * ((Fm.lvs (fs ++ [f]) : Nat) : Int) = 3 * ((k : Int) + 1) * (Fm.lvs fs : Nat) + 3 * ((k : Int) + 1) * (f.lv : Nat) := by
            rw [la]
            push_cast
            rw [Int.mul_add]
          refine ⟨W, _, _, rfl, rfl, hW8, Nat.lt_of_lt_of_le (show vs.length < 64 by omega) (by decide), _, vs ++ [v], fs ++ [f], rfl, ?_, ?_, ?_, upd_same, ?_, by rw [List.length_append, lf]; rfl, ?_, ?_, ?_, ?_⟩
          · exact (D8.upd oW.1 oW.2).mono (by rw [e3]; omega)
          · exact fun x o h1 h2 h3 z => by
              rw [upd_ne (ne_of_none z nW0)]
              exact (k7.trans k8) x o h1 h2 h3 z
          · rw [upd_ne LW, hL8, la]
            congr 4
            push_cast
            omega
          · rw [List.map_append]
            exact ((tv.ts (ts8.trans ts9) (by rw [← Fm.dl_map]; exact Fm.noLl fs))).append (.cons (tk.ts ts9 (Fm.noL f)) .nil)
          · exact Fm.oks_mem.mpr fun g hg => by
              rcases List.mem_append.mp hg with z | z
              · exact Fm.oks_mem.mp okf g z
              · rw [List.mem_singleton.mp z]; exact ok
          · exact Fm.deps_le fun g hg => by
              rcases List.mem_append.mp hg with z | z
              · exact Nat.le_trans (Fm.deps_mem z) df
              · rw [List.mem_singleton.mp z]; exact de
          · rw [la]; omega
          · rw [la]
            push_cast
            rcases lb with z | z <;> omega
        · rintro σ H7 ⟨y8, vs, fs, rfl, D7, k7, hL7, hW7, tv, lf, okf, df, ilv, lvb⟩
          have ec : (c : Int).toNat = c := by omega
          rw [ec] at lf ilv lvb
          refine ⟨.str (wOp cw), rfl, .ref W, rfl, W, _, rfl, .inl ⟨SqL.of hW7, fun p8 np8 => ?_⟩⟩
          have s8 := same_upd (o := (HO.tup vs)) np8
          have h8 : upd H7 p8 (HO.tup vs) p8 = some (HO.tup vs) := upd_same
          generalize upd H7 p8 (HO.tup vs) = H8 at s8 h8 ⊢
          refine ⟨sl2, fun p9 np9 => ?_⟩
          have s9 := same_upd (o := HO.tup [V.str (wOp cw), V.ref p8]) np9
          have e2 : (3 * ((k : Int) + 1) + 3) * (Fm.lvs fs : Nat) = 3 * ((k : Int) + 1) * (Fm.lvs fs : Nat) + 3 * (Fm.lvs fs : Nat) := Int.add_mul ..
          refine q _ _ (.op cw fs) (((D7.same s8).same s9).mono (by show _ ≤ n + (3 * ((k : Int) + 1) + 3) * (Fm.lvs fs : Nat); rw [e2]; omega)) ((k7.trans (Kp3.of s8)).trans (Kp3.of s9)) (s9 _ _ (s8 _ _ hL7)) (.tup upd_same (.cons (.str _) (.cons (.tup (s9 _ _ h8) (by rw [Fm.dl_map]; exact tv.same (s8.trans s9))) .nil))) ?_ (Nat.succ_le_succ df) (by show 1 ≤ Fm.lvs fs; omega) (.inr (by show (Fm.lvs fs : Int) ≤ _; omega))
          show ((decide (2 ≤ fs.length) && decide (fs.length ≤ 4)) && Fm.oks m fs) = true
          rw [decide_eq_true (by omega), decide_eq_true (by omega), okf]
          rfl
theorem ok_formE (T : Tx w K mg) : ∀ e : Nat, FnOk P w K mg base CX0 (e + 3) T.f_form T.fd_form ["_law_deck_here", "_law_many", "_law_deep", "_law_left"] (sp_form K e)
  | 0 => ok_formB T 0 (fun _ _ _ _ => False) 0 (by omega) (never_okF.mono (by omega)) (fun k h => by cases h)
  | e + 1 => ok_formB T (e + 1) (sp_form K e) (e + 1) (by omega) (ok_formE T e) (fun k h vs H Q E z => by cases h; exact z)
def sp_formA (K : PySem.W.Frag) : Sp := fun vs H Q E => ∃ e ≤ 9, sp_form K e vs H Q E
theorem ok_form (T : Tx w K mg) : FnOk P w K mg base CX0 12 T.f_form T.fd_form ["_law_deck_here", "_law_many", "_law_deep", "_law_left"] (sp_formA K) :=
  ⟨fun vs H Q E ⟨e, _, h⟩ => (ok_formE (P := P) (base := base) T e).len vs H Q E h, fun A outer s H args us vs Q E hr e0 hb r ⟨e, he, h⟩ => (ok_formE (P := P) (base := base) T e).run A outer s H args us vs Q E (hr.mono (by omega)) e0 hb r h⟩

end
end Gk

set_option Elab.async false
set_option linter.all false
set_option maxRecDepth 100000
set_option maxHeartbeats 1000000
set_option pp.maxSteps 1500
set_option pp.deepTerms false
namespace Gk
open PySem PySem.Spec PyProof.Rows L2
section
variable {P : Program} {w : World} {K : PySem.W.Frag} {mg : Str → Option Value} {base : Heap}
/-! ### towers, some form -/
theorem third_at {k : Nat} {u w : V} : atI [u, w] (if decide (((k : Nat) : Int) > 0) = true then 1 else 0) = some (if 0 < k then w else u) := by
  by_cases z : 0 < k
  · rw [if_pos (decide_eq_true (by omega)), if_pos z]
    rfl
  · rw [if_neg (fun y => z (by have := of_decide_eq_true y; omega)), if_neg z]
    rfl
theorem five_at {x : Int} (h0 : 0 ≤ x) (h1 : x < 5) {P : V → Prop} {a b c d e : V} (ha : P a) (hb : P b) (hc : P c) (hd : P d) (he : P e) : ∃ v, atI ([a, b, c, d] ++ [e]) x = some v ∧ P v := by
  have : x = 0 ∨ x = 1 ∨ x = 2 ∨ x = 3 ∨ x = 4 := by omega
  rcases this with rfl | rfl | rfl | rfl | rfl
  · exact ⟨a, rfl, ha⟩
  · exact ⟨b, rfl, hb⟩
  · exact ⟨c, rfl, hc⟩
  · exact ⟨d, rfl, hd⟩
  · exact ⟨e, rfl, he⟩
/-- a form at v, of so many parts at most, so deep at most -/
def FmAt (H : Hp) (m c e : Nat) (v : V) : Prop := ∃ f : Fm, Tk H v f.d ∧ f.ok m = true ∧ f.cnt ≤ c ∧ f.dep ≤ e
theorem FmAt.same {H H' : Hp} {m c e : Nat} {v : V} (h : FmAt H m c e v) (s : Same H H') : FmAt H' m c e v := by
  obtain ⟨f, t, r⟩ := h
  exact ⟨f, t.same s, r⟩
theorem FmAt.ts {H H' : Hp} {m c e : Nat} {v : V} (h : FmAt H m c e v) (s : Ts H H') : FmAt H' m c e v := by
  obtain ⟨f, t, r⟩ := h
  exact ⟨f, t.ts s (Fm.noL f), r⟩
theorem FmAt.mono {H : Hp} {m c e c' e' : Nat} {v : V} (h : FmAt H m c e v) (a : c ≤ c') (b : e ≤ e') : FmAt H m c' e' v := by
  obtain ⟨f, t, o, h1, h2⟩ := h
  exact ⟨f, t, o, Nat.le_trans h1 a, Nat.le_trans h2 b⟩
theorem FmAt.inp {H : Hp} {m i : Nat} {a : Addr} (h : H a = some (.tup [.str (Str.ofString "in"), .int (i : Nat)])) (hi : i < m) : FmAt H m 1 1 (.ref a) :=
  ⟨.inp i, .tup h (.cons (.str _) (.cons (.int _) .nil)), decide_eq_true hi, Nat.le_refl _, Nat.le_refl _⟩
theorem FmAt.no {H : Hp} {m c e : Nat} {a : Addr} {v : V} (h : H a = some (.tup [.str (Str.ofString "not"), v])) (hv : FmAt H m c e v) : FmAt H m (1 + c) (e + 1) (.ref a) := by
  obtain ⟨f, t, o, h1, h2⟩ := hv
  exact ⟨.no f, .tup h (.cons (.str _) (.cons t .nil)), o, Nat.add_le_add_left h1 1, Nat.succ_le_succ h2⟩
theorem FmAt.op {H : Hp} {m : Nat} {a b : Addr} {vs : List V} {fs : List Fm} (c : Bool) (h : H a = some (.tup [.str (wOp c), .ref b])) (hb : H b = some (.tup vs)) (t : TkAll H vs (fs.map Fm.d)) (l2 : 2 ≤ fs.length) (l4 : fs.length ≤ 4) (ok : Fm.oks m fs = true) {C E : Nat} (hc : 1 + Fm.cnts fs ≤ C) (he : Fm.deps fs + 1 ≤ E) : FmAt H m C E (.ref a) :=
  ⟨.op c fs, .tup h (.cons (.str _) (.cons (.tup hb (by rw [Fm.dl_map]; exact t)) .nil)), by
    show ((decide (2 ≤ fs.length) && decide (fs.length ≤ 4)) && Fm.oks m fs) = true
    rw [decide_eq_true l2, decide_eq_true l4, ok]
    rfl, hc, he⟩
def sp_tower (K : PySem.W.Frag) : Sp := fun vs H Q _ => ∃ (d l : Addr) (n : Int) (m : Nat), vs = [.ref d, .int (m : Nat)] ∧ DeckC H d l n ∧ n ≤ 100000000 ∧ 1 ≤ m ∧ m ≤ 6 ∧ ∀ v H', DeckC H' d l (n + 19) → Fr d l H H' → FmAt H' m 37 11 v → Q v H'
theorem ok_tower (T : Tx w K mg) : FnOk P w K mg base CX0 3 T.f_tower T.fd_tower ["_law_deck_here", "_law_many"] (sp_tower K) := by
  refine T.F_tower.ok sc_tower (fun vs H Q E h => ?_) (fun cdv A outer s H vs Q E hr h => ?_)
  · obtain ⟨d, l, n, m, rfl, _⟩ := h
    rfl
  · obtain ⟨d, l, n, m, rfl, D, hn, m1, m6, q⟩ := h
    refine ⟨_, (pss_cons (ps_set (i := 2) sc_tower.nd rfl (by first | exact .inl rfl | exact .inr rfl) (pe_tup (pa_cons pe_str (pa_cons (pe_call (ok_take T) (hr.mono (by decide)) (by rfl) T.g_take T.F_take.kp T.b_take .nil pass0 (pa_cons (pv 0) (pa_cons (pv 1) pa_nil))) pa_nil)))) (pss_cons (ps_for PassesOwn.never rfl (pi_range1 (by rfl) T.m_range (pa_cons pe_int pa_nil)) (pg_name (i := 3) sc_tower.nd rfl (by first | exact .inl rfl | exact .inr rfl)) (pss_cons (ps_set (i := 4) sc_tower.nd rfl (by first | exact .inl rfl | exact .inr rfl) (pe_call (ok_take T) (hr.mono (by decide)) (by rfl) T.g_take T.F_take.kp T.b_take .nil pass0 (pa_cons (pv 0) (pa_cons pe_int pa_nil)))) (pss_cons (ps_set (i := 5) sc_tower.nd rfl (by first | exact .inl rfl | exact .inr rfl) (pe_tup (pa_cons pe_str (pa_cons (pe_call (ok_take T) (hr.mono (by decide)) (by rfl) T.g_take T.F_take.kp T.b_take .nil pass0 (pa_cons (pv 0) (pa_cons (pv 1) pa_nil))) pa_nil)))) (pss_cons (ps_set (i := 6) sc_tower.nd rfl (by first | exact .inl rfl | exact .inr rfl) (pe_ix ix_list (pe_lst (pa_cons (pv 5) (pa_cons (pe_tup (pa_cons pe_str (pa_cons (pv 5) pa_nil))) pa_nil))) (pe_callTy call_int1 (by rfl) T.m_int (by decide +kernel) (pa_cons (pe_cmpR op_gt (pv 3) pe_int (nomark _)) pa_nil)) (fun _ _ => rfl))) (pss_cons (ps_set (i := 7) sc_tower.nd rfl (by first | exact .inl rfl | exact .inr rfl) (pe_lst (pa_cons (pe_tup (pa_cons pe_str (pa_cons (pv 2) pa_nil))) (pa_cons (pe_tup (pa_cons pe_str (pa_cons (pe_tup (pa_cons (pv 2) (pa_cons (pv 5) pa_nil))) pa_nil))) (pa_cons (pe_tup (pa_cons pe_str (pa_cons (pe_tup (pa_cons (pv 5) (pa_cons (pv 2) pa_nil))) pa_nil))) (pa_cons (pe_tup (pa_cons pe_str (pa_cons (pe_tup (pa_cons (pv 5) (pa_cons (pv 2) (pa_cons (pv 6) pa_nil)))) pa_nil))) pa_nil)))))) (pss_one (ps_set (i := 2) sc_tower.nd rfl (by first | exact .inl rfl | exact .inr rfl) (pe_ix ix_list (pe_op op_cat (pv 7) (pe_lst (pa_cons (pe_tup (pa_cons pe_str (pa_cons (pe_tup (pa_cons (pv 2) (pa_cons (pv 5) (pa_cons (pe_tup (pa_cons pe_str pa_nil)) (pa_cons (pe_tup (pa_cons pe_str pa_nil)) pa_nil))))) pa_nil))) pa_nil))) (pv 4) (fun _ _ => rfl))))))))) (pss_one (ps_ret (pv 2))))), ?_⟩
    refine ⟨.ref d, rfl, .int (m : Nat), rfl, d, l, (m : Nat), _, rfl, D, by omega, by omega, by omega, fun H1 i D1 fr1 i0 i1 => ?_⟩
    obtain ⟨i, rfl⟩ := Int.eq_ofNat_of_zero_le i0
    refine ⟨sl2, fun p np => ?_⟩
    have s2 := same_upd (o := (HO.tup [V.str (Str.ofString "in"), V.int (i : Nat)])) np
    have h2 : upd H1 p (HO.tup [V.str (Str.ofString "in"), V.int (i : Nat)]) p = some (HO.tup [V.str (Str.ofString "in"), V.int (i : Nat)]) := upd_same
    generalize upd H1 p (HO.tup [V.str (Str.ofString "in"), V.int (i : Nat)]) = H2 at s2 h2 ⊢
    refine ⟨9, rfl, by decide, by decide, ?_⟩
    refine for_range (lo := 0) (n := (9 : Int).toNat) (fun k σ H' => ∃ v y3 y4 y5 y6 y7, σ = [some (.ref d), some (.int (m : Nat)), some v, y3, y4, y5, y6, y7] ∧ DeckC H' d l (n + 1 + 2 * (k : Nat)) ∧ Fr d l H H' ∧ FmAt H' m (1 + 4 * k) (2 + k) v)
      ⟨_, _, _, _, _, _, rfl, (D1.same s2).mono (by omega), fr1.trans (Fr.of s2), (FmAt.inp h2 (by omega)).mono (by omega) (by omega)⟩ ?_ ?_
    · rintro k σ H3 hk ⟨v, y3, y4, y5, y6, y7, rfl, D3, fr3, fm3⟩
      have hk' : k < 9 := hk
      refine ⟨.ref d, rfl, d, l, 5, _, rfl, D3, by omega, by decide, by decide, fun H4 way D4 fr4 w0 w1 => ?_⟩
      refine ⟨.ref d, rfl, .int (m : Nat), rfl, d, l, (m : Nat), _, rfl, D4, by omega, by omega, by omega, fun H5 j D5 fr5 j0 j1 => ?_⟩
      obtain ⟨j, rfl⟩ := Int.eq_ofNat_of_zero_le j0
      obtain ⟨f, tf, okf, cf, df⟩ := (fm3.ts (Ts.frC D3 fr4)).ts (Ts.frC D4 fr5)
      have fr05 := (fr3.trans fr4).trans fr5
      refine ⟨sl2, fun p1 np1 => ?_⟩
      have s6 := same_upd (o := (HO.tup [V.str (Str.ofString "in"), V.int (j : Nat)])) np1
      have h6 : upd H5 p1 (HO.tup [V.str (Str.ofString "in"), V.int (j : Nat)]) p1 = some (HO.tup [V.str (Str.ofString "in"), V.int (j : Nat)]) := upd_same
      generalize upd H5 p1 (HO.tup [V.str (Str.ofString "in"), V.int (j : Nat)]) = H6 at s6 h6 ⊢
      refine ⟨.ref p1, rfl, .ref p1, rfl, sl2, fun p2 np2 => ?_⟩
      have s7 := same_upd (o := (HO.tup [V.str (Str.ofString "not"), V.ref p1])) np2
      have h7 : upd H6 p2 (HO.tup [V.str (Str.ofString "not"), V.ref p1]) p2 = some (HO.tup [V.str (Str.ofString "not"), V.ref p1]) := upd_same
      generalize upd H6 p2 (HO.tup [V.str (Str.ofString "not"), V.ref p1]) = H7 at s7 h7 ⊢
      refine ⟨sl2, fun p3 np3 => ?_⟩
      have s8 := same_upd (o := (HO.lst [V.ref p1, V.ref p2])) np3
      have h8 : upd H7 p3 (HO.lst [V.ref p1, V.ref p2]) p3 = some (HO.lst [V.ref p1, V.ref p2]) := upd_same
      generalize upd H7 p3 (HO.lst [V.ref p1, V.ref p2]) = H8 at s8 h8 ⊢
      have e0 : (0 : Int) + (k : Int) = (k : Int) := Int.zero_add _
      rw [e0]
      refine ⟨.int (k : Nat), rfl, _, _, rfl, rfl, .inr ⟨_, rfl, p3, _, _, _, rfl, rfl, SqL.of h8, third_at, ?_⟩⟩
      generalize ew : (if 0 < k then V.ref p2 else V.ref p1) = w'
      refine ⟨v, rfl, sl2, fun p4 np4 => ?_⟩
      have s9 := same_upd (o := (HO.tup [V.str (Str.ofString "not"), v])) np4
      have h9 : upd H8 p4 (HO.tup [V.str (Str.ofString "not"), v]) p4 = some (HO.tup [V.str (Str.ofString "not"), v]) := upd_same
      generalize upd H8 p4 (HO.tup [V.str (Str.ofString "not"), v]) = H9 at s9 h9 ⊢
      refine ⟨v, rfl, .ref p1, rfl, sl2, fun p5 np5 => ?_⟩
      have s10 := same_upd (o := (HO.tup [v, V.ref p1])) np5
      have h10 : upd H9 p5 (HO.tup [v, V.ref p1]) p5 = some (HO.tup [v, V.ref p1]) := upd_same
      generalize upd H9 p5 (HO.tup [v, V.ref p1]) = H10 at s10 h10 ⊢
      refine ⟨sl2, fun p6 np6 => ?_⟩
      have s11 := same_upd (o := (HO.tup [V.str (Str.ofString "and"), V.ref p5])) np6
      have h11 : upd H10 p6 (HO.tup [V.str (Str.ofString "and"), V.ref p5]) p6 = some (HO.tup [V.str (Str.ofString "and"), V.ref p5]) := upd_same
      generalize upd H10 p6 (HO.tup [V.str (Str.ofString "and"), V.ref p5]) = H11 at s11 h11 ⊢
      refine ⟨.ref p1, rfl, v, rfl, sl2, fun p7 np7 => ?_⟩
      have s12 := same_upd (o := (HO.tup [V.ref p1, v])) np7
      have h12 : upd H11 p7 (HO.tup [V.ref p1, v]) p7 = some (HO.tup [V.ref p1, v]) := upd_same
      generalize upd H11 p7 (HO.tup [V.ref p1, v]) = H12 at s12 h12 ⊢
      refine ⟨sl2, fun p8 np8 => ?_⟩
      have s13 := same_upd (o := (HO.tup [V.str (Str.ofString "or"), V.ref p7])) np8
      have h13 : upd H12 p8 (HO.tup [V.str (Str.ofString "or"), V.ref p7]) p8 = some (HO.tup [V.str (Str.ofString "or"), V.ref p7]) := upd_same
      generalize upd H12 p8 (HO.tup [V.str (Str.ofString "or"), V.ref p7]) = H13 at s13 h13 ⊢
      refine ⟨.ref p1, rfl, v, rfl, w', rfl, sl3, fun p9 np9 => ?_⟩
      have s14 := same_upd (o := (HO.tup [V.ref p1, v, w'])) np9
      have h14 : upd H13 p9 (HO.tup [V.ref p1, v, w']) p9 = some (HO.tup [V.ref p1, v, w']) := upd_same
      generalize upd H13 p9 (HO.tup [V.ref p1, v, w']) = H14 at s14 h14 ⊢
      refine ⟨sl2, fun p10 np10 => ?_⟩
      have s15 := same_upd (o := (HO.tup [V.str (Str.ofString "and"), V.ref p9])) np10
      have h15 : upd H14 p10 (HO.tup [V.str (Str.ofString "and"), V.ref p9]) p10 = some (HO.tup [V.str (Str.ofString "and"), V.ref p9]) := upd_same
      generalize upd H14 p10 (HO.tup [V.str (Str.ofString "and"), V.ref p9]) = H15 at s15 h15 ⊢
      refine ⟨sl4, fun p11 np11 => ?_⟩
      have s16 := same_upd (o := (HO.lst [V.ref p4, V.ref p6, V.ref p8, V.ref p10])) np11
      have h16 : upd H15 p11 (HO.lst [V.ref p4, V.ref p6, V.ref p8, V.ref p10]) p11 = some (HO.lst [V.ref p4, V.ref p6, V.ref p8, V.ref p10]) := upd_same
      generalize upd H15 p11 (HO.lst [V.ref p4, V.ref p6, V.ref p8, V.ref p10]) = H16 at s16 h16 ⊢
      refine ⟨.ref p11, rfl, v, rfl, .ref p1, rfl, sl1, fun p12 np12 => ?_⟩
      have s17 := same_upd (o := (HO.tup [V.str (Str.ofString "one")])) np12
      have h17 : upd H16 p12 (HO.tup [V.str (Str.ofString "one")]) p12 = some (HO.tup [V.str (Str.ofString "one")]) := upd_same
      generalize upd H16 p12 (HO.tup [V.str (Str.ofString "one")]) = H17 at s17 h17 ⊢
      refine ⟨sl1, fun p13 np13 => ?_⟩
      have s18 := same_upd (o := (HO.tup [V.str (Str.ofString "nought")])) np13
      have h18 : upd H17 p13 (HO.tup [V.str (Str.ofString "nought")]) p13 = some (HO.tup [V.str (Str.ofString "nought")]) := upd_same
      generalize upd H17 p13 (HO.tup [V.str (Str.ofString "nought")]) = H18 at s18 h18 ⊢
      refine ⟨sl4, fun p14 np14 => ?_⟩
      have s19 := same_upd (o := (HO.tup [v, V.ref p1, V.ref p12, V.ref p13])) np14
      have h19 : upd H18 p14 (HO.tup [v, V.ref p1, V.ref p12, V.ref p13]) p14 = some (HO.tup [v, V.ref p1, V.ref p12, V.ref p13]) := upd_same
      generalize upd H18 p14 (HO.tup [v, V.ref p1, V.ref p12, V.ref p13]) = H19 at s19 h19 ⊢
      refine ⟨sl2, fun p15 np15 => ?_⟩
      have s20 := same_upd (o := (HO.tup [V.str (Str.ofString "or"), V.ref p14])) np15
      have h20 : upd H19 p15 (HO.tup [V.str (Str.ofString "or"), V.ref p14]) p15 = some (HO.tup [V.str (Str.ofString "or"), V.ref p14]) := upd_same
      generalize upd H19 p15 (HO.tup [V.str (Str.ofString "or"), V.ref p14]) = H20 at s20 h20 ⊢
      refine ⟨sl1, fun p16 np16 => ?_⟩
      have s21 := same_upd (o := (HO.lst [V.ref p15])) np16
      have h21 : upd H20 p16 (HO.lst [V.ref p15]) p16 = some (HO.lst [V.ref p15]) := upd_same
      generalize upd H20 p16 (HO.lst [V.ref p15]) = H21 at s21 h21 ⊢
      have k20 : Same H20 H21 := s21
      have k19 := s20.trans k20
      have k18 := s19.trans k19
      have k17 := s18.trans k18
      have k16 := s17.trans k17
      have k15 := s16.trans k16
      have k14 := s15.trans k15
      have k13 := s14.trans k14
      have k12 := s13.trans k13
      have k11 := s12.trans k12
      have k10 := s11.trans k11
      have k9 := s10.trans k10
      have k8 := s9.trans k9
      have k7 := s8.trans k8
      have k6 := s7.trans k7
      have k5 := s6.trans k6
      refine ⟨p11, p16, _, _, rfl, rfl, k16 _ _ h16, h21, (by show 5 ≤ sizeLine; decide), fun p17 np17 => ?_⟩
      have s22 := same_upd (o := (HO.lst ([V.ref p4, V.ref p6, V.ref p8, V.ref p10] ++ [V.ref p15]))) np17
      have h22 : upd H21 p17 (HO.lst ([V.ref p4, V.ref p6, V.ref p8, V.ref p10] ++ [V.ref p15])) p17 = some (HO.lst ([V.ref p4, V.ref p6, V.ref p8, V.ref p10] ++ [V.ref p15])) := upd_same
      generalize upd H21 p17 (HO.lst ([V.ref p4, V.ref p6, V.ref p8, V.ref p10] ++ [V.ref p15])) = H22 at s22 h22 ⊢
      have kk : ∀ {a : Addr} {o : HO}, H21 a = some o → H22 a = some o := fun e => s22 _ _ e
      have tf' : Tk H22 v f.d := tf.same (k5.trans s22)
      have t1 : Tk H22 (.ref p1) (Fm.inp j).d := .tup (kk (k6 _ _ h6)) (.cons (.str _) (.cons (.int _) .nil))
      obtain ⟨g, tg, okg, cg, dg⟩ : FmAt H22 m 2 2 w' := by
        rw [← ew]
        split
        · exact FmAt.no (kk (k7 _ _ h7)) (FmAt.inp (kk (k6 _ _ h6)) (by omega))
        · exact (FmAt.inp (kk (k6 _ _ h6)) (by omega)).mono (by omega) (by omega)
      have o1 : (Fm.inp j).ok m = true := decide_eq_true (by omega)
      have oks2 : ∀ {a b : Fm}, a.ok m = true → b.ok m = true → Fm.oks m [a, b] = true := fun x y => by
        show (_ && (_ && true)) = true
        rw [x, y]
        rfl
      have md : ∀ {a b c : Nat}, a ≤ c → b ≤ c → max a b ≤ c := fun x y => Nat.max_le.mpr ⟨x, y⟩
      have a1 : FmAt H22 m (1 + 4 * (k + 1)) (2 + (k + 1)) (.ref p4) := (FmAt.no (kk (k9 _ _ h9)) ⟨f, tf', okf, cf, df⟩).mono (by omega) (by omega)
      have a2 : FmAt H22 m (1 + 4 * (k + 1)) (2 + (k + 1)) (.ref p6) := FmAt.op (fs := [f, .inp j]) true (kk (k11 _ _ h11)) (kk (k10 _ _ h10)) (.cons tf' (.cons t1 .nil)) (Nat.le_refl 2) (by show 2 ≤ 4; decide) (oks2 okf o1) (by show 1 + (f.cnt + (1 + 0)) ≤ _; omega) (by show max f.dep (max 1 0) + 1 ≤ _; omega)
      have a3 : FmAt H22 m (1 + 4 * (k + 1)) (2 + (k + 1)) (.ref p8) := FmAt.op (fs := [.inp j, f]) false (kk (k13 _ _ h13)) (kk (k12 _ _ h12)) (.cons t1 (.cons tf' .nil)) (Nat.le_refl 2) (by show 2 ≤ 4; decide) (oks2 o1 okf) (by show 1 + (1 + (f.cnt + 0)) ≤ _; omega) (by show max 1 (max f.dep 0) + 1 ≤ _; omega)
      have a4 : FmAt H22 m (1 + 4 * (k + 1)) (2 + (k + 1)) (.ref p10) := FmAt.op (fs := [.inp j, f, g]) true (kk (k15 _ _ h15)) (kk (k14 _ _ h14)) (.cons t1 (.cons tf' (.cons tg .nil))) (by show 2 ≤ 3; decide) (by show 3 ≤ 4; decide) (by show (_ && (_ && (_ && true))) = true; rw [o1, okf, okg]; rfl) (by show 1 + (1 + (f.cnt + (g.cnt + 0))) ≤ _; omega) (by show max 1 (max f.dep (max g.dep 0)) + 1 ≤ _; omega)
      have a5 : FmAt H22 m (1 + 4 * (k + 1)) (2 + (k + 1)) (.ref p15) := FmAt.op (fs := [f, .inp j, .st true, .st false]) false (kk (k20 _ _ h20)) (kk (k19 _ _ h19)) (.cons tf' (.cons t1 (.cons (.tup (kk (k17 _ _ h17)) (.cons (.str _) .nil)) (.cons (.tup (kk (k18 _ _ h18)) (.cons (.str _) .nil)) .nil)))) (by show 2 ≤ 4; decide) (Nat.le_refl 4) (by show (_ && (_ && (true && (true && true)))) = true; rw [okf, o1]; rfl) (by show 1 + (f.cnt + (1 + (1 + (1 + 0)))) ≤ _; omega) (by show max f.dep (max 1 (max 1 (max 1 0))) + 1 ≤ _; omega)
      obtain ⟨u, hu, au⟩ := five_at w0 w1 (P := FmAt H22 m (1 + 4 * (k + 1)) (2 + (k + 1))) a1 a2 a3 a4 a5
      refine ⟨.int way, rfl, p17, _, way, u, rfl, rfl, SqL.of h22, hu, ?_⟩
      exact ⟨_, _, _, _, _, _, rfl, (D5.same (k5.trans s22)).mono (by push_cast; omega), fr05.trans (Fr.of (k5.trans s22)), au⟩
    · rintro σ H3 ⟨v, y3, y4, y5, y6, y7, rfl, D3, fr3, fm3⟩
      exact ⟨v, rfl, q _ H3 (D3.mono (by show n + 1 + 2 * ((9 : Nat) : Int) ≤ _; omega)) fr3 fm3⟩
theorem ok_count (T : Tx w K mg) : FnOk P w K mg base CX0 24 T.f_count T.fd_count ["_law_form_here"] (sp_count K 22) := ok_countE T 22
theorem deep_at {x : Int} (h0 : 0 ≤ x) (h1 : x < 8) (n7 : x ≠ 7) : (∃ e : Nat, atI [V.int 0, V.int 2, V.int 3, V.int 4, V.int 6, V.int 9, V.int 3] x = some (.int (e : Nat)) ∧ e ≤ 9) ∧ ∃ b : Int, atI [V.int 1, V.int 4, V.int 6, V.int 9, V.int 9, V.int 9, V.int 24] x = some (.int b) ∧ b ≤ 24 := by
  have : x = 0 ∨ x = 1 ∨ x = 2 ∨ x = 3 ∨ x = 4 ∨ x = 5 ∨ x = 6 := by omega
  rcases this with rfl | rfl | rfl | rfl | rfl | rfl | rfl
  · exact ⟨⟨0, rfl, by decide⟩, 1, rfl, by decide⟩
  · exact ⟨⟨2, rfl, by decide⟩, 4, rfl, by decide⟩
  · exact ⟨⟨3, rfl, by decide⟩, 6, rfl, by decide⟩
  · exact ⟨⟨4, rfl, by decide⟩, 9, rfl, by decide⟩
  · exact ⟨⟨6, rfl, by decide⟩, 9, rfl, by decide⟩
  · exact ⟨⟨9, rfl, by decide⟩, 9, rfl, by decide⟩
  · exact ⟨⟨3, rfl, by decide⟩, 24, rfl, by decide⟩
def sp_some_form (K : PySem.W.Frag) : Sp := fun vs H Q _ => ∃ (d l : Addr) (n : Int) (m : Nat), vs = [.ref d, .int (m : Nat)] ∧ DeckC H d l n ∧ n ≤ 90000000 ∧ 1 ≤ m ∧ m ≤ 6 ∧ ∀ v H', DeckC H' d l (n + 1600) → Fr d l H H' → FmAt H' m 40 11 v → Q v H'
theorem ok_some_form (T : Tx w K mg) : FnOk P w K mg base CX0 25 T.f_some_form T.fd_some_form ["_law_deck_here", "_law_many"] (sp_some_form K) := by
  refine T.F_some_form.ok sc_some_form (fun vs H Q E h => ?_) (fun cdv A outer s H vs Q E hr h => ?_)
  · obtain ⟨d, l, n, m, rfl, _⟩ := h
    rfl
  · obtain ⟨d, l, n, m, rfl, D, hn, m1, m6, q⟩ := h
    refine ⟨_, (pss_cons (ps_set (i := 2) sc_some_form.nd rfl (by first | exact .inl rfl | exact .inr rfl) (pe_call (ok_take T) (hr.mono (by decide)) (by rfl) T.g_take T.F_take.kp T.b_take .nil pass0 (pa_cons (pv 0) (pa_cons pe_int pa_nil)))) (pss_cons (ps_if (pt_cmpR op_eq (pv 2) pe_int (nomark _)) (pss_one (ps_ret (pe_call (ok_tower T) (hr.mono (by decide)) (by rfl) T.g_tower T.F_tower.kp T.b_tower .nil pass0 (pa_cons (pv 0) (pa_cons (pv 1) pa_nil))))) pss_nil) (pss_cons (ps_set (i := 3) sc_some_form.nd rfl (by first | exact .inl rfl | exact .inr rfl) (pe_call (ok_form T) (hr.mono (by decide)) (by rfl) T.g_form T.F_form.kp T.b_form .nil pass0 (pa_cons (pv 0) (pa_cons (pv 1) (pa_cons (pe_ix ix_list (pe_lst (pa_cons pe_int (pa_cons pe_int (pa_cons pe_int (pa_cons pe_int (pa_cons pe_int (pa_cons pe_int (pa_cons pe_int pa_nil)))))))) (pv 2) (fun _ _ => rfl)) (pa_cons (pe_lst (pa_cons (pe_ix ix_list (pe_lst (pa_cons pe_int (pa_cons pe_int (pa_cons pe_int (pa_cons pe_int (pa_cons pe_int (pa_cons pe_int (pa_cons pe_int pa_nil)))))))) (pv 2) (fun _ _ => rfl)) pa_nil)) pa_nil)))))) (pss_cons (ps_if (pt_cmpR op_gt (pe_call (ok_count T) (hr.mono (by decide)) (by rfl) T.g_count T.F_count.kp T.b_count .nil pass0 (pa_cons (pv 3) pa_nil)) pe_int (nomark _)) (pss_one (ps_ret (pe_tup (pa_cons pe_str (pa_cons (pe_tup (pa_cons (pe_tup (pa_cons pe_str (pa_cons pe_int pa_nil))) (pa_cons (pe_tup (pa_cons pe_str (pa_cons (pe_tup (pa_cons pe_str (pa_cons (pe_op op_sub (pv 1) pe_int) pa_nil))) pa_nil))) pa_nil))) pa_nil))))) pss_nil) (pss_one (ps_ret (pv 3))))))), ?_⟩
    refine ⟨.ref d, rfl, d, l, 8, _, rfl, D, by omega, by decide, by decide, fun H1 way D1 fr1 w0 w1 => ?_⟩
    refine ⟨.int way, rfl, rfl, _, rfl, ite2 (fun e7 => ?_) (fun n7 => ?_)⟩
    · exact ⟨.ref d, rfl, .int (m : Nat), rfl, d, l, _, m, rfl, D1, by omega, m1, m6, fun v H2 D2 fr2 fm => q v H2 (D2.mono (by omega)) (fr1.trans fr2) (fm.mono (by omega) (by omega))⟩
    have n7 : way ≠ 7 := fun z => n7 (by rw [z]; exact decide_eq_true rfl)
    obtain ⟨⟨e, he, e9⟩, b, hb, b24⟩ := deep_at w0 w1 n7
    refine ⟨.ref d, rfl, .int (m : Nat), rfl, (by show 7 ≤ sizeLine; decide), fun p1 np1 => ?_⟩
    have s2 := same_upd (o := (HO.lst [V.int 0, V.int 2, V.int 3, V.int 4, V.int 6, V.int 9, V.int 3])) np1
    have h2 : upd H1 p1 (HO.lst [V.int 0, V.int 2, V.int 3, V.int 4, V.int 6, V.int 9, V.int 3]) p1 = some (HO.lst [V.int 0, V.int 2, V.int 3, V.int 4, V.int 6, V.int 9, V.int 3]) := upd_same
    generalize upd H1 p1 (HO.lst [V.int 0, V.int 2, V.int 3, V.int 4, V.int 6, V.int 9, V.int 3]) = H2 at s2 h2 ⊢
    refine ⟨.int way, rfl, p1, _, way, _, rfl, rfl, SqL.of h2, he, (by show 7 ≤ sizeLine; decide), fun p2 np2 => ?_⟩
    have s3 := same_upd (o := (HO.lst [V.int 1, V.int 4, V.int 6, V.int 9, V.int 9, V.int 9, V.int 24])) np2
    have h3 : upd H2 p2 (HO.lst [V.int 1, V.int 4, V.int 6, V.int 9, V.int 9, V.int 9, V.int 24]) p2 = some (HO.lst [V.int 1, V.int 4, V.int 6, V.int 9, V.int 9, V.int 9, V.int 24]) := upd_same
    generalize upd H2 p2 (HO.lst [V.int 1, V.int 4, V.int 6, V.int 9, V.int 9, V.int 9, V.int 24]) = H3 at s3 h3 ⊢
    refine ⟨.int way, rfl, p2, _, way, _, rfl, rfl, SqL.of h3, hb, sl1, fun L nL => ?_⟩
    have D3 := D1.same (s2.trans s3)
    obtain ⟨Ld, Ll⟩ := D3.off nL
    have s4 := same_upd (o := (HO.lst [V.int b])) nL
    have hL : upd H3 L (HO.lst [V.int b]) L = some (HO.lst [V.int b]) := upd_same
    generalize upd H3 L (HO.lst [V.int b]) = H4 at s4 hL ⊢
    have D4 := D3.same s4
    have s14 := s2.trans (s3.trans s4)
    refine ⟨e, e9, d, l, L, _, m, b, rfl, D4, by omega, e9, hL, Ld, Ll, m1, m6, by omega, fun v H5 f D5 k5 hL5 tk ok de lp lb => ?_⟩
    have fr5 : Fr d l H3 H5 := fun x o h1 h2 z => k5 x o h1 h2 (ne_of_none z nL) (s4 _ _ z)
    have fr05 : Fr d l H H5 := (fr1.trans (Fr.of (s2.trans s3))).trans fr5
    have used : 3 * ((e : Int) + 1) * (f.lv : Nat) ≤ 30 * 51 := Int.mul_le_mul (by omega) (by omega) (by omega) (by decide)
    refine ⟨v, rfl, v, f, m, rfl, tk, ok, by omega, fun H6 s6 => ⟨_, _, rfl, rfl, _, rfl, ite2 (fun big => ?_) (fun small => ?_)⟩⟩
    · have D6 := D5.same s6
      refine ⟨sl2, fun p1 np1 => ?_⟩
      have s7 := same_upd (o := (HO.tup [V.str (Str.ofString "in"), V.int 0])) np1
      have h7 : upd H6 p1 (HO.tup [V.str (Str.ofString "in"), V.int 0]) p1 = some (HO.tup [V.str (Str.ofString "in"), V.int 0]) := upd_same
      generalize upd H6 p1 (HO.tup [V.str (Str.ofString "in"), V.int 0]) = H7 at s7 h7 ⊢
      refine ⟨.int (m : Nat), rfl, _, _, rfl, rfl, sl2, fun p2 np2 => ?_⟩
      have s8 := same_upd (o := (HO.tup [V.str (Str.ofString "in"), V.int ((m : Nat) - 1)])) np2
      have h8 : upd H7 p2 (HO.tup [V.str (Str.ofString "in"), V.int ((m : Nat) - 1)]) p2 = some (HO.tup [V.str (Str.ofString "in"), V.int ((m : Nat) - 1)]) := upd_same
      generalize upd H7 p2 (HO.tup [V.str (Str.ofString "in"), V.int ((m : Nat) - 1)]) = H8 at s8 h8 ⊢
      refine ⟨sl2, fun p3 np3 => ?_⟩
      have s9 := same_upd (o := (HO.tup [V.str (Str.ofString "not"), V.ref p2])) np3
      have h9 : upd H8 p3 (HO.tup [V.str (Str.ofString "not"), V.ref p2]) p3 = some (HO.tup [V.str (Str.ofString "not"), V.ref p2]) := upd_same
      generalize upd H8 p3 (HO.tup [V.str (Str.ofString "not"), V.ref p2]) = H9 at s9 h9 ⊢
      refine ⟨sl2, fun p4 np4 => ?_⟩
      have s10 := same_upd (o := (HO.tup [V.ref p1, V.ref p3])) np4
      have h10 : upd H9 p4 (HO.tup [V.ref p1, V.ref p3]) p4 = some (HO.tup [V.ref p1, V.ref p3]) := upd_same
      generalize upd H9 p4 (HO.tup [V.ref p1, V.ref p3]) = H10 at s10 h10 ⊢
      refine ⟨sl2, fun p5 np5 => ?_⟩
      have s11 := same_upd (o := (HO.tup [V.str (Str.ofString "and"), V.ref p4])) np5
      have h11 : upd H10 p5 (HO.tup [V.str (Str.ofString "and"), V.ref p4]) p5 = some (HO.tup [V.str (Str.ofString "and"), V.ref p4]) := upd_same
      generalize upd H10 p5 (HO.tup [V.str (Str.ofString "and"), V.ref p4]) = H11 at s11 h11 ⊢
      have em : ((m : Nat) : Int) - 1 = ((m - 1 : Nat) : Int) := by omega
      rw [em] at h8
      have sB := s10.trans s11
      have sA := s9.trans sB
      refine q _ H11 ((D6.same ((s7.trans s8).trans sA)).mono (by omega)) (fr05.trans (Fr.of (s6.trans ((s7.trans s8).trans sA)))) (FmAt.op (fs := [.inp 0, .no (.inp (m - 1))]) true h11 (s11 _ _ h10) (.cons (.tup ((s8.trans sA) _ _ h7) (.cons (.str _) (.cons (.int _) .nil))) (.cons (.tup (sB _ _ h9) (.cons (.str _) (.cons (.tup (sA _ _ h8) (.cons (.str _) (.cons (.int _) .nil))) .nil))) .nil)) (Nat.le_refl 2) (by show 2 ≤ 4; decide) (by show (decide (0 < m) && (decide (m - 1 < m) && true)) = true; rw [decide_eq_true (by omega), decide_eq_true (by omega)]; rfl) (by show 1 + (1 + ((1 + 1) + 0)) ≤ 40; decide) (by show max 1 (max (1 + 1) 0) + 1 ≤ 11; decide))
    · have small : ¬ ((f.cnt : Nat) : Int) > 40 := fun z => small (decide_eq_true z)
      exact ⟨v, rfl, q v H6 ((D5.same s6).mono (by omega)) (fr05.trans (Fr.of s6)) ⟨f, tk.same s6, ok, by omega, by omega⟩⟩

end
end Gk

set_option Elab.async false
set_option linter.all false
set_option maxRecDepth 100000
set_option maxHeartbeats 1000000
set_option pp.maxSteps 1500
set_option pp.deepTerms false
namespace Gk
open PySem PySem.Spec PyProof.Rows L2
section
variable {P : Program} {w : World} {K : PySem.W.Frag} {mg : Str → Option Value} {base : Heap}
/-! ### the worth of a form -/
mutual
def Fm.wo (r : List Int) : Fm → Int
  | .st b => if b = true then 1 else 0
  | .inp i => r.getD i 0
  | .no f => 1 - f.wo r
  | .op c fs => if c = true then (if 0 ∈ Fm.wos r fs then 0 else 1) else (if 1 ∈ Fm.wos r fs then 1 else 0)
def Fm.wos (r : List Int) : List Fm → List Int
  | [] => []
  | f :: fs => f.wo r :: Fm.wos r fs
end
theorem Fm.wos_map (r : List Int) : ∀ fs : List Fm, Fm.wos r fs = fs.map (Fm.wo r)
  | [] => rfl
  | f :: fs => by
    show f.wo r :: Fm.wos r fs = _
    rw [Fm.wos_map r fs]
    rfl
mutual
theorem Fm.wo01 {r : List Int} {m : Nat} (hr : Row01 r) (hl : r.length = m) : ∀ {f : Fm}, f.ok m = true → f.wo r = 0 ∨ f.wo r = 1
  | .st b, _ => by cases b <;> first | exact .inl rfl | exact .inr rfl
  | .inp i, h => by
    have h : i < m := of_decide_eq_true h
    have e : r[i]? = some (r.getD i 0) := by
      rw [List.getD_eq_getElem?_getD, List.getElem?_eq_getElem (by omega)]
      rfl
    exact hr _ (List.mem_of_getElem? e)
  | .no f, h => by
    have h := Fm.wo01 hr hl (f := f) h
    show 1 - f.wo r = 0 ∨ 1 - f.wo r = 1
    omega
  | .op c fs, _ => by
    show (if c = true then (if 0 ∈ Fm.wos r fs then (0 : Int) else 1) else (if 1 ∈ Fm.wos r fs then 1 else 0)) = 0 ∨ (if c = true then (if 0 ∈ Fm.wos r fs then (0 : Int) else 1) else (if 1 ∈ Fm.wos r fs then 1 else 0)) = 1
    repeat' split
    all_goals first | exact .inl rfl | exact .inr rfl
end
theorem still_get {K : PySem.W.Frag} {a : Addr} (at_ : ∀ z : PySem.Str, KdS.At K a [(("one" : PySem.Str), KdS.Kv.i 1), (("nought" : PySem.Str), KdS.Kv.i 0)] z) (z : Str) : ∃ (r : Option Value) (v : V), PySem.W.nsIn K a z = some r ∧ RelV v (r.getD .none) ∧ ((z = wOne ∧ v = .int 1) ∨ (z = wNou ∧ v = .int 0) ∨ (z ≠ wOne ∧ z ≠ wNou ∧ v = .non)) := by
  obtain ⟨r, h1, h2⟩ := at_ z
  rcases h2 with ⟨kv, u, f1, f2, f3⟩ | ⟨f1, f2⟩
  · subst f2
    unfold KdS.find at f1
    by_cases c : (Str.ofString "one") = z
    · rw [if_pos c] at f1
      cases Option.some.inj f1
      cases u <;> try cases f3
      rename_i j t
      have e : j = 1 := of_decide_eq_true f3
      exact ⟨_, .int 1, h1, ⟨t, by rw [← e]; rfl⟩, .inl ⟨c.symm, rfl⟩⟩
    · rw [if_neg c] at f1
      unfold KdS.find at f1
      by_cases c2 : (Str.ofString "nought") = z
      · rw [if_pos c2] at f1
        cases Option.some.inj f1
        cases u <;> try cases f3
        rename_i j t
        have e : j = 0 := of_decide_eq_true f3
        exact ⟨_, .int 0, h1, ⟨t, by rw [← e]; rfl⟩, .inr (.inl ⟨c2.symm, rfl⟩)⟩
      · rw [if_neg c2] at f1
        cases f1
  · subst f2
    refine ⟨none, .non, h1, rfl, .inr (.inr ⟨fun e => ?_, fun e => ?_, rfl⟩)⟩
    · subst e
      revert f1
      decide +kernel
    · subst e
      revert f1
      decide +kernel
def sp_still_worth (K : PySem.W.Frag) : Sp := fun vs H Q _ => ∃ (a : Addr) (z : Str) (r : List V), vs = [.ref a] ∧ H a = some (.tup (.str z :: r)) ∧ (z = wOne → Q (.int 1) H) ∧ (z = wNou → Q (.int 0) H) ∧ (z ≠ wOne → z ≠ wNou → Q .non H)
theorem ok_still_worth (T : Tx w K mg) : FnOk P w K mg base CX0 1 T.f_still_worth T.fd_still_worth ["form"] (sp_still_worth K) := by
  refine T.F_still_worth.ok sc_still_worth (fun vs H Q E h => ?_) (fun cdv A outer s H vs Q E hr h => ?_)
  · obtain ⟨a, z, r, rfl, _⟩ := h
    rfl
  · obtain ⟨a, z, rs, rfl, ha, q1, q2, q3⟩ := h
    refine ⟨_, (pss_one (ps_ret (KdG.pe_kget T.kd_STILL.choose_spec.choose_spec (pe_glob (v := .ref T.A_STILL) (by rfl) T.gA_STILL rfl) (pe_ix ix_tup (pv 0) pe_int (fun _ _ => rfl)) ⟨rfl, rfl, rfl, rfl⟩))), ?_⟩
    obtain ⟨r, v, e1, rv, cases3⟩ := still_get T.kv_STILL z
    refine ⟨rfl, .ref a, rfl, a, _, ((0 : Nat) : Int), .str z, rfl, rfl, SqT.of ha, atI_nat rfl, z, r, v, rfl, e1, rv, ?_⟩
    rcases cases3 with ⟨e, rfl⟩ | ⟨e, rfl⟩ | ⟨e, e', rfl⟩
    · exact q1 e
    · exact q2 e
    · exact q3 e e'
def sp_worth (K : PySem.W.Frag) (e : Nat) : Sp := fun vs H Q _ => ∃ (v : V) (f : Fm) (m : Nat) (a : Addr) (r : List Int), vs = [v, .ref a] ∧ Tk H v f.d ∧ f.ok m = true ∧ f.dep ≤ e ∧ H a = some (.tup (r.map V.int)) ∧ r.length = m ∧ Row01 r ∧ ∀ H', Same H H' → Q (.int (f.wo r)) H'
theorem ok_worthE (T : Tx w K mg) : ∀ e : Nat, FnOk P w K mg base CX0 (e + 2) T.f_worth_of T.fd_worth_of ["form", "row"] (sp_worth K e)
  | 0 => ⟨fun _ _ _ _ h => by obtain ⟨_, f, _, _, _, _, _, _, h, _⟩ := h; exact absurd h (by have := Fm.dep_pos f; omega), fun _ _ _ _ _ _ _ _ _ _ _ _ _ h => by obtain ⟨_, f, _, _, _, _, _, _, h, _⟩ := h; exact absurd h (by have := Fm.dep_pos f; omega)⟩
  | e + 1 => by
    have ih := ok_worthE T e
    refine T.F_worth_of.ok sc_worth_of (fun vs H Q E h => ?_) (fun cdv A outer s H vs Q E hr h => ?_)
    · obtain ⟨v, f, m, a, r, rfl, _⟩ := h
      rfl
    · obtain ⟨v, f, m, ar, r, rfl, tk, ok, de, har, hl, hr01, q⟩ := h
      refine ⟨_, (pss_cons (ps_set (i := 2) sc_worth_of.nd rfl (by first | exact .inl rfl | exact .inr rfl) (pe_ix ix_tup (pv 0) pe_int (fun _ _ => rfl))) (pss_cons (ps_if (pt_cmpR op_eq (pv 2) pe_str (nomark _)) (pss_one (ps_ret (pe_ix ix_tup (pv 1) (pe_ix ix_tup (pv 0) pe_int (fun _ _ => rfl)) (fun _ _ => rfl)))) pss_nil) (pss_cons (ps_set (i := 3) sc_worth_of.nd rfl (by first | exact .inl rfl | exact .inr rfl) (pe_call (ok_still_worth T) (hr.mono (by omega)) (by rfl) T.g_still_worth T.F_still_worth.kp T.b_still_worth .nil pass0 (pa_cons (pv 0) pa_nil))) (pss_cons (ps_if (pt_cmpR op_notN (pv 3) pe_non (nomark _)) (pss_one (ps_ret (pv 3))) pss_nil) (pss_cons (ps_setLc (i := 4) (own := [("part", 5)]) (by rfl) sc_worth_of.nd rfl rfl (sw_true rfl rfl rfl (by decide +kernel)) (pi_tup (pe_call (ok_inner_of T) (hr.mono (by omega)) (by rfl) T.g_inner_of T.F_inner_of.kp T.b_inner_of .nil pass0 (pa_cons (pv 0) pa_nil))) (blkOk_by (own := [("part", 5)]) (N := ["form", "row", "head", "still", "worths", "part"]) (sc := defScope s_worth_of) (by decide +kernel)) (fun _ _ _ _ _ => (pg_name (i := 5) sc_worth_of.nd rfl (by first | exact .inl rfl | exact .inr rfl))) (fun _ _ _ _ _ => pts_nil) (fun _ _ _ _ _ => (pe_call (ih) (hr.mono (by omega)) (by rfl) T.g_worth_of T.F_worth_of.kp T.b_worth_of .nil pass0 (pa_cons (pv 5) (pa_cons (pv 1) pa_nil))))) (pss_cons (ps_if (pt_cmpR op_eq (pv 2) pe_str (nomark _)) (pss_one (ps_ret (pe_op op_sub pe_int (pe_ix ix_list (pv 4) pe_int (fun _ _ => rfl))))) pss_nil) (pss_one (ps_ret (pe_ifExp (pt_cmpR op_eq (pv 2) pe_str (nomark _)) (pe_callB (cr_min rfl) (by rfl) T.m_min (by decide +kernel) (pa_cons (pv 4) pa_nil)) (pe_callB (cr_max rfl) (by rfl) T.m_max (by decide +kernel) (pa_cons (pv 4) pa_nil))))))))))), ?_⟩
      have key : (∃ b, f = .st b) ∨ (∃ i, f = .inp i) ∨ ∃ a z rest, v = .ref a ∧ H a = some (.tup (.str z :: rest)) ∧ z ≠ wIn ∧ z ≠ wOne ∧ z ≠ wNou ∧ ((z = wNot ∧ ∃ g, f = .no g) ∨ ∃ c fs, f = .op c fs ∧ z = wOp c ∧ fs ≠ []) := by
        cases f with
        | st b => exact .inl ⟨b, rfl⟩
        | inp i => exact .inr (.inl ⟨i, rfl⟩)
        | no f =>
          obtain ⟨a, w', rfl, ha, _⟩ := Fm.tk_no tk
          exact .inr (.inr ⟨a, _, _, rfl, ha, by decide +kernel, by decide +kernel, by decide +kernel, .inl ⟨rfl, f, rfl⟩⟩)
        | op c fs =>
          obtain ⟨a, b, ys, rfl, ha, _⟩ := Fm.tk_op tk
          refine .inr (.inr ⟨a, _, _, rfl, ha, by cases c <;> decide +kernel, by cases c <;> decide +kernel, by cases c <;> decide +kernel, .inr ⟨c, fs, rfl, rfl, fun z => ?_⟩⟩)
          subst z
          cases ok
      rcases key with ⟨b, rfl⟩ | ⟨i, rfl⟩ | ⟨a, z, rest, rfl, ha, n1, n2, n3, sorts⟩
      · obtain ⟨a, rfl, ha⟩ := Fm.tk_st tk
        refine ⟨.ref a, rfl, a, _, 0, .str (wSt b), rfl, rfl, SqT.of ha, rfl, ?_⟩
        refine ⟨.str (wSt b), rfl, rfl, _, rfl, ite2 (fun e => absurd (V.str.inj (of_decide_eq_true e)) (by cases b <;> decide +kernel)) (fun _ => ?_)⟩
        have q := q H (Same.refl _)
        refine ⟨.ref a, rfl, a, wSt b, [], rfl, ha, fun e => ?_, fun e => ?_, fun e1 e2 => ?_⟩
        · cases b
          · exact absurd e (by decide +kernel)
          · exact ⟨_, rfl, rfl, _, rfl, ite2 (fun _ => ⟨_, rfl, q⟩) (fun k => absurd rfl k)⟩
        · cases b
          · exact ⟨_, rfl, rfl, _, rfl, ite2 (fun _ => ⟨_, rfl, q⟩) (fun k => absurd rfl k)⟩
          · exact absurd e (by decide +kernel)
        · cases b
          · exact absurd rfl e2
          · exact absurd rfl e1
      · obtain ⟨a, rfl, ha⟩ := Fm.tk_inp tk
        refine ⟨.ref a, rfl, a, _, 0, .str wIn, rfl, rfl, SqT.of ha, rfl, ?_⟩
        refine ⟨.str wIn, rfl, rfl, _, rfl, ite2 (fun _ => ?_) (fun k => absurd (decide_eq_true rfl) k)⟩
        have hi : i < m := of_decide_eq_true ok
        refine ⟨.ref ar, rfl, .ref a, rfl, a, _, 1, .int i, rfl, rfl, SqT.of ha, rfl, ar, _, i, .int (r.getD i 0), rfl, rfl, SqT.of har, atI_nat ?_, q H (Same.refl _)⟩
        rw [List.getElem?_map, List.getElem?_eq_getElem (by omega), List.getD_eq_getElem?_getD, List.getElem?_eq_getElem (by omega)]
        rfl
      refine ⟨.ref a, rfl, a, _, ((0 : Nat) : Int), .str z, rfl, rfl, SqT.of ha, atI_nat rfl, ?_⟩
      refine ⟨.str z, rfl, rfl, _, rfl, ite2 (fun e => absurd (V.str.inj (of_decide_eq_true e)) n1) (fun _ => ?_)⟩
      refine ⟨.ref a, rfl, a, z, rest, rfl, ha, fun e => absurd e n2, fun e => absurd e n3, fun _ _ => ?_⟩
      refine ⟨_, rfl, rfl, _, rfl, ite2 (fun k => by cases k) (fun _ => ?_)⟩
      refine ⟨.ref a, rfl, .ref a, f, rfl, tk, fun H1 b xs s1 hb txs => ⟨b, rfl, ⟨_, SqT.of hb⟩, fun D nD => ?_⟩⟩
      have lxs : xs.length = f.inner.length := by rw [txs.length, List.length_map]
      have few : f.inner.length ≤ 4 := Fm.inner_few ok
      have har1 := s1 _ _ har
      refine lc_tup (K := K) (a := b) (xs := xs) (fun i H' => Same H1 (hd1 D H') ∧ H' D = some (.lst (((f.inner.take i).map (Fm.wo r)).map V.int))) ⟨hd1_of (same_upd nD) nD, upd_same⟩ (fun i H' _ z => SqT.of (hd1_le _ _ (z.1 _ _ hb))) ?_ ?_
      · rintro i u H2 hu ⟨s2, hD⟩
        obtain ⟨g, hg, tg⟩ := txs.at hu
        have gm := List.mem_of_getElem? hg
        have k2 : Same H1 H2 := fun b o z => hd1_le _ _ (s2 b o z)
        have il := (List.getElem?_eq_some_iff.mp hg).1
        refine ⟨rfl, u, rfl, .ref ar, rfl, u, g, m, ar, r, rfl, tg.same k2, Fm.inner_ok ok gm, by have := Fm.inner_dep gm; omega, k2 _ _ har1, hl, hr01, fun H3 s3 => ⟨_, s3 _ _ hD, ?_, (s2.trans (hd1_same s3)).trans hd1_upd, ?_⟩⟩
        · rw [List.length_map, List.length_map, List.length_take]
          exact Nat.lt_of_le_of_lt (show min i f.inner.length ≤ 4 by omega) (by decide)
        · rw [upd_same, List.take_add_one, hg, List.map_append, List.map_append]
          rfl
      · rintro H2 ⟨s2, hD⟩
        rw [lxs, List.take_length] at hD
        have k2 : Same H1 H2 := fun b o z => hd1_le _ _ (s2 b o z)
        have q := q H2 (s1.trans k2)
        rcases sorts with ⟨rfl, g, rfl⟩ | ⟨c, fs, rfl, rfl, nf⟩
        · refine ⟨.str wNot, rfl, rfl, _, rfl, ite2 (fun _ => ?_) (fun k => absurd (decide_eq_true rfl) k)⟩
          exact ⟨.ref D, rfl, D, _, 0, .int (g.wo r), rfl, rfl, SqL.of hD, rfl, _, _, rfl, rfl, q⟩
        · have ei : (Fm.op c fs).inner = fs := rfl
          rw [ei] at hD
          have nf' : fs.map (Fm.wo r) ≠ [] := fun z => nf (List.map_eq_nil_iff.mp z)
          have all01 : ∀ x ∈ fs.map (Fm.wo r), x = 0 ∨ x = 1 := fun x hx => by
            obtain ⟨g, hg, rfl⟩ := List.mem_map.mp hx
            exact Fm.wo01 hr01 hl (Fm.inner_ok ok hg)
          refine ⟨.str (wOp c), rfl, rfl, _, rfl, ite2 (fun e => absurd (V.str.inj (of_decide_eq_true e)) (by cases c <;> decide +kernel)) (fun _ => ?_)⟩
          have qe : (Fm.op c fs).wo r = if c = true then (if 0 ∈ fs.map (Fm.wo r) then 0 else 1) else (if 1 ∈ fs.map (Fm.wo r) then 1 else 0) := by
            rw [← Fm.wos_map]
            rfl
          rw [qe] at q
          cases c with
          | true =>
            refine ⟨.str wAnd, rfl, rfl, _, rfl, ite2 (fun _ => ?_) (fun k => absurd (decide_eq_true rfl) k)⟩
            refine ⟨.ref D, rfl, D, _, rfl, SqL.of hD, List.length_pos_iff.mpr nf', fun x hx hm => ?_⟩
            rw [if_pos rfl] at q
            split at q
            · rename_i z0
              have := hm 0 z0
              have := all01 x hx
              have e : x = 0 := by omega
              rw [e]; exact q
            · rename_i z0
              have e : x = 1 := by
                rcases all01 x hx with z | z
                · rw [z] at hx; exact absurd hx z0
                · exact z
              rw [e]; exact q
          | false =>
            refine ⟨.str wOr, rfl, rfl, _, rfl, ite2 (fun k => absurd (V.str.inj (of_decide_eq_true k)) (by decide +kernel)) (fun _ => ?_)⟩
            refine ⟨.ref D, rfl, D, _, rfl, SqL.of hD, List.length_pos_iff.mpr nf', fun x hx hm => ?_⟩
            rw [if_neg (by decide)] at q
            split at q
            · rename_i z0
              have := hm 1 z0
              have := all01 x hx
              have e : x = 1 := by omega
              rw [e]; exact q
            · rename_i z0
              have e : x = 0 := by
                rcases all01 x hx with z | z
                · exact z
                · rw [z] at hx; exact absurd hx z0
              rw [e]; exact q

end
end Gk

set_option Elab.async false
set_option linter.all false
set_option maxRecDepth 100000
set_option maxHeartbeats 1000000
set_option pp.maxSteps 1500
set_option pp.deepTerms false
namespace Gk
open PySem PySem.Spec PyProof.Rows L2
section
variable {P : Program} {w : World} {K : PySem.W.Frag} {mg : Str → Option Value} {base : Heap}
/-! ### .. by the law -/
def sp_l_worth (K : PySem.W.Frag) (e : Nat) : Sp := fun vs H Q _ => ∃ (v : V) (f : Fm) (m : Nat) (a : Addr) (r : List Int), vs = [v, .ref a] ∧ Tk H v f.d ∧ f.ok m = true ∧ f.dep ≤ e ∧ H a = some (.tup (r.map V.int)) ∧ r.length = m ∧ Row01 r ∧ ∀ H', Same H H' → Q (.int (f.wo r)) H'
theorem ok_l_worthE (T : Tx w K mg) : ∀ e : Nat, FnOk P w K mg base CX0 (e + 2) T.f_worth T.fd_worth ["_law_form_here", "_law_row"] (sp_l_worth K e)
  | 0 => ⟨fun _ _ _ _ h => by obtain ⟨_, f, _, _, _, _, _, _, h, _⟩ := h; exact absurd h (by have := Fm.dep_pos f; omega), fun _ _ _ _ _ _ _ _ _ _ _ _ _ h => by obtain ⟨_, f, _, _, _, _, _, _, h, _⟩ := h; exact absurd h (by have := Fm.dep_pos f; omega)⟩
  | e + 1 => by
    have ih := ok_l_worthE T e
    refine T.F_worth.ok sc_worth (fun vs H Q E h => ?_) (fun cdv A outer s H vs Q E hr h => ?_)
    · obtain ⟨v, f, m, a, r, rfl, _⟩ := h
      rfl
    · obtain ⟨v, f, m, ar, r, rfl, tk, ok, de, har, hl, hr01, q⟩ := h
      refine ⟨_, (pss_cons (ps_set (i := 2) sc_worth.nd rfl (by first | exact .inl rfl | exact .inr rfl) (pe_ix ix_tup (pv 0) pe_int (fun _ _ => rfl))) (pss_cons (ps_if (pt_cmpR op_eq (pv 2) pe_str (nomark _)) (pss_one (ps_ret (pe_ix ix_tup (pv 1) (pe_ix ix_tup (pv 0) pe_int (fun _ _ => rfl)) (fun _ _ => rfl)))) pss_nil) (pss_cons (ps_if (pt_cmpR op_in_seq (pv 2) (pe_tup (pa_cons pe_str (pa_cons pe_str pa_nil))) rfl) (pss_one (ps_ret (pe_callTy call_int1 (by rfl) T.m_int (by decide +kernel) (pa_cons (pe_cmpR op_eq (pv 2) pe_str (nomark _)) pa_nil)))) pss_nil) (pss_cons (ps_setLc (i := 3) (own := [("_law_part", 4)]) (by rfl) sc_worth.nd rfl rfl (sw_true rfl rfl rfl (by decide +kernel)) (pi_tup (pe_call (ok_inner T) (hr.mono (by omega)) (by rfl) T.g_inner T.F_inner.kp T.b_inner .nil pass0 (pa_cons (pv 0) pa_nil))) (blkOk_by (own := [("_law_part", 4)]) (N := ["_law_form_here", "_law_row", "_law_word", "_law_told", "_law_part"]) (sc := defScope s_worth) (by decide +kernel)) (fun _ _ _ _ _ => (pg_name (i := 4) sc_worth.nd rfl (by first | exact .inl rfl | exact .inr rfl))) (fun _ _ _ _ _ => pts_nil) (fun _ _ _ _ _ => (pe_call (ih) (hr.mono (by omega)) (by rfl) T.g_worth T.F_worth.kp T.b_worth .nil pass0 (pa_cons (pv 4) (pa_cons (pv 1) pa_nil))))) (pss_cons (ps_if (pt_cmpR op_eq (pv 2) pe_str (nomark _)) (pss_one (ps_ret (pe_op op_sub pe_int (pe_ix ix_list (pv 3) pe_int (fun _ _ => rfl))))) pss_nil) (pss_cons (ps_if (pt_cmpR op_eq (pv 2) pe_str (nomark _)) (pss_one (ps_ret (pe_callTy call_int1 (by rfl) T.m_int (by decide +kernel) (pa_cons (pe_cmpR op_notIn_seq pe_int (pv 3) rfl) pa_nil)))) pss_nil) (pss_one (ps_ret (pe_callTy call_int1 (by rfl) T.m_int (by decide +kernel) (pa_cons (pe_cmpR op_in_seq pe_int (pv 3) rfl) pa_nil)))))))))), ?_⟩
      have key : (∃ b, f = .st b) ∨ (∃ i, f = .inp i) ∨ ∃ a z rest, v = .ref a ∧ H a = some (.tup (.str z :: rest)) ∧ z ≠ wIn ∧ z ≠ wOne ∧ z ≠ wNou ∧ ((z = wNot ∧ ∃ g, f = .no g) ∨ ∃ c fs, f = .op c fs ∧ z = wOp c ∧ fs ≠ []) := by
        cases f with
        | st b => exact .inl ⟨b, rfl⟩
        | inp i => exact .inr (.inl ⟨i, rfl⟩)
        | no f =>
          obtain ⟨a, w', rfl, ha, _⟩ := Fm.tk_no tk
          exact .inr (.inr ⟨a, _, _, rfl, ha, by decide +kernel, by decide +kernel, by decide +kernel, .inl ⟨rfl, f, rfl⟩⟩)
        | op c fs =>
          obtain ⟨a, b, ys, rfl, ha, _⟩ := Fm.tk_op tk
          refine .inr (.inr ⟨a, _, _, rfl, ha, by cases c <;> decide +kernel, by cases c <;> decide +kernel, by cases c <;> decide +kernel, .inr ⟨c, fs, rfl, rfl, fun z => ?_⟩⟩)
          subst z
          cases ok
      have two : ∀ z : Str, (if false = true then !inV (.str z) [V.str wOne, V.str wNou] else inV (.str z) [V.str wOne, V.str wNou]) = (decide (z = wOne) || decide (z = wNou)) := fun z => by
        rw [if_neg (by decide)]
        show (decide (wOne = z) || (decide (wNou = z) || false)) = _
        rw [Bool.or_false, decide_eq_decide.mpr (eq_comm (a := wOne)), decide_eq_decide.mpr (eq_comm (a := wNou))]
      rcases key with ⟨b, rfl⟩ | ⟨i, rfl⟩ | ⟨a, z, rest, rfl, ha, n1, n2, n3, sorts⟩
      · obtain ⟨a, rfl, ha⟩ := Fm.tk_st tk
        refine ⟨.ref a, rfl, a, _, 0, .str (wSt b), rfl, rfl, SqT.of ha, rfl, ?_⟩
        refine ⟨.str (wSt b), rfl, rfl, _, rfl, ite2 (fun e => absurd (V.str.inj (of_decide_eq_true e)) (by cases b <;> decide +kernel)) (fun _ => ?_)⟩
        refine ⟨.str (wSt b), rfl, sl2, fun p np => ?_⟩
        have s1 := same_upd (o := HO.tup [V.str wOne, V.str wNou]) np
        have q := q _ s1
        refine ⟨p, _, rfl, .inr (SqT.of upd_same), rfl, rfl, _, rfl, ite2 (fun _ => ?_) (fun k => absurd ((two (wSt b)).trans (by cases b <;> decide +kernel)) k)⟩
        cases b
        · exact ⟨.str (wSt false), rfl, rfl, .inr ⟨_, rfl, by rw [decide_eq_false (show ¬ V.str (wSt false) = V.str (Str.ofString "one") from fun z => absurd (V.str.inj z) (by decide +kernel))]; exact q⟩⟩
        · exact ⟨.str (wSt true), rfl, rfl, .inr ⟨_, rfl, by rw [decide_eq_true (show V.str (wSt true) = V.str (Str.ofString "one") from rfl)]; exact q⟩⟩
      · obtain ⟨a, rfl, ha⟩ := Fm.tk_inp tk
        refine ⟨.ref a, rfl, a, _, 0, .str wIn, rfl, rfl, SqT.of ha, rfl, ?_⟩
        refine ⟨.str wIn, rfl, rfl, _, rfl, ite2 (fun _ => ?_) (fun k => absurd (decide_eq_true rfl) k)⟩
        have hi : i < m := of_decide_eq_true ok
        refine ⟨.ref ar, rfl, .ref a, rfl, a, _, 1, .int i, rfl, rfl, SqT.of ha, rfl, ar, _, i, .int (r.getD i 0), rfl, rfl, SqT.of har, atI_nat ?_, q H (Same.refl _)⟩
        rw [List.getElem?_map, List.getElem?_eq_getElem (by omega), List.getD_eq_getElem?_getD, List.getElem?_eq_getElem (by omega)]
        rfl
      refine ⟨.ref a, rfl, a, _, ((0 : Nat) : Int), .str z, rfl, rfl, SqT.of ha, atI_nat rfl, ?_⟩
      refine ⟨.str z, rfl, rfl, _, rfl, ite2 (fun e => absurd (V.str.inj (of_decide_eq_true e)) n1) (fun _ => ?_)⟩
      refine ⟨.str z, rfl, sl2, fun p np => ?_⟩
      have s0 := same_upd (o := HO.tup [V.str wOne, V.str wNou]) np
      refine ⟨p, _, rfl, .inr (SqT.of upd_same), rfl, rfl, _, rfl, ite2 (fun k => ?_) (fun _ => ?_)⟩
      · have k := (two z).symm.trans k
        rw [decide_eq_false n2, decide_eq_false n3] at k
        cases k
      refine ⟨.ref a, rfl, .ref a, f, rfl, tk.same s0, fun H1 b xs s1 hb txs => ⟨b, rfl, ⟨_, SqT.of hb⟩, fun D nD => ?_⟩⟩
      replace s1 := s0.trans s1
      have lxs : xs.length = f.inner.length := by rw [txs.length, List.length_map]
      have few : f.inner.length ≤ 4 := Fm.inner_few ok
      have har1 := s1 _ _ har
      refine lc_tup (K := K) (a := b) (xs := xs) (fun i H' => Same H1 (hd1 D H') ∧ H' D = some (.lst (((f.inner.take i).map (Fm.wo r)).map V.int))) ⟨hd1_of (same_upd nD) nD, upd_same⟩ (fun i H' _ z => SqT.of (hd1_le _ _ (z.1 _ _ hb))) ?_ ?_
      · rintro i u H2 hu ⟨s2, hD⟩
        obtain ⟨g, hg, tg⟩ := txs.at hu
        have gm := List.mem_of_getElem? hg
        have k2 : Same H1 H2 := fun b o z => hd1_le _ _ (s2 b o z)
        have il := (List.getElem?_eq_some_iff.mp hg).1
        refine ⟨rfl, u, rfl, .ref ar, rfl, u, g, m, ar, r, rfl, tg.same k2, Fm.inner_ok ok gm, by have := Fm.inner_dep gm; omega, k2 _ _ har1, hl, hr01, fun H3 s3 => ⟨_, s3 _ _ hD, ?_, (s2.trans (hd1_same s3)).trans hd1_upd, ?_⟩⟩
        · rw [List.length_map, List.length_map, List.length_take]
          exact Nat.lt_of_le_of_lt (show min i f.inner.length ≤ 4 by omega) (by decide)
        · rw [upd_same, List.take_add_one, hg, List.map_append, List.map_append]
          rfl
      · rintro H2 ⟨s2, hD⟩
        rw [lxs, List.take_length] at hD
        have k2 : Same H1 H2 := fun b o z => hd1_le _ _ (s2 b o z)
        have q := q H2 (s1.trans k2)
        rcases sorts with ⟨rfl, g, rfl⟩ | ⟨c, fs, rfl, rfl, nf⟩
        · refine ⟨.str wNot, rfl, rfl, _, rfl, ite2 (fun _ => ?_) (fun k => absurd (decide_eq_true rfl) k)⟩
          exact ⟨.ref D, rfl, D, _, 0, .int (g.wo r), rfl, rfl, SqL.of hD, rfl, _, _, rfl, rfl, q⟩
        · have ei : (Fm.op c fs).inner = fs := rfl
          rw [ei] at hD
          have isin : ∀ (k : Int) (ns : List Int), inV (.int k) (ns.map V.int) = decide (k ∈ ns) := fun k ns => by
            induction ns with
            | nil => rfl
            | cons y s ih =>
              show (eqV (.int y) (.int k) || inV (.int k) (s.map V.int)) = _
              rw [ih]
              have e : eqV (.int y) (.int k) = decide (y = k) := by
                first
                  | rfl
                  | simp [eqV]
              rw [e, Bool.eq_iff_iff, Bool.or_eq_true, decide_eq_true_eq, decide_eq_true_eq, decide_eq_true_eq, List.mem_cons]
              exact ⟨fun h => h.imp Eq.symm id, fun h => h.imp Eq.symm id⟩
          refine ⟨.str (wOp c), rfl, rfl, _, rfl, ite2 (fun e => absurd (V.str.inj (of_decide_eq_true e)) (by cases c <;> decide +kernel)) (fun _ => ?_)⟩
          have qe : (Fm.op c fs).wo r = if c = true then (if 0 ∈ fs.map (Fm.wo r) then 0 else 1) else (if 1 ∈ fs.map (Fm.wo r) then 1 else 0) := by
            rw [← Fm.wos_map]
            rfl
          rw [qe] at q
          have fl : (fs.map (Fm.wo r)).map V.int = (fs.map (Fm.wo r)).map V.int := rfl
          have scal : ∀ ns : List Int, (ns.map V.int).all flatV = true := fun ns => List.all_eq_true.mpr fun x hx => by
            obtain ⟨y, _, rfl⟩ := List.mem_map.mp hx
            rfl
          cases c with
          | true =>
            refine ⟨.str wAnd, rfl, rfl, _, rfl, ite2 (fun _ => ?_) (fun k => absurd (decide_eq_true rfl) k)⟩
            rw [if_pos rfl] at q
            refine ⟨.ref D, rfl, D, _, rfl, .inl (SqL.of hD), rfl, scal _, .inr ⟨_, rfl, ?_⟩⟩
            rw [if_pos rfl, isin]
            by_cases z : 0 ∈ fs.map (Fm.wo r)
            · rw [if_pos z] at q
              rw [decide_eq_true z]
              exact q
            · rw [if_neg z] at q
              rw [decide_eq_false z]
              exact q
          | false =>
            refine ⟨.str wOr, rfl, rfl, _, rfl, ite2 (fun k => absurd (V.str.inj (of_decide_eq_true k)) (by decide +kernel)) (fun _ => ?_)⟩
            rw [if_neg (by decide)] at q
            refine ⟨.ref D, rfl, D, _, rfl, .inl (SqL.of hD), rfl, scal _, .inr ⟨_, rfl, ?_⟩⟩
            rw [if_neg Bool.false_ne_true, isin]
            by_cases z : 1 ∈ fs.map (Fm.wo r)
            · rw [if_pos z] at q
              rw [decide_eq_true z]
              exact q
            · rw [if_neg z] at q
              rw [decide_eq_false z]
              exact q

end
end Gk

set_option Elab.async false
set_option linter.all false
set_option maxRecDepth 100000
set_option maxHeartbeats 1000000
set_option pp.maxSteps 1500
set_option pp.deepTerms false
namespace Gk
open PySem PySem.Spec PyProof.Rows L2
/-! ### sum(elt for tg in iter ..), of ints -/
namespace GxS
open PySem PySem.Spec PyProof.Rows L2
section
variable {X : Cx} {A A' : Around} {s_0 : Shared} {H_0 : Hp} {cenv : Env} {fp : List Addr} {tn : Nat → Heap → Prop} {ga S : Addr} {gn n : Nat} {go : Obj}
def ACs (ga : Addr) (go : Obj) (S : Addr) (a : Int) (cp : List (Addr × Obj)) : Prop := ∃ (t : Tok) (c : Nat), cp = [(ga, go), (S, lstObj #[.int a t] c)]
def YdS (a : Int) (y : V) (H : Hp) (Nx : Int → Hp → Prop) : Prop := ∃ i : Int, y = .int i ∧ InLong i ∧ InLong (a + i) ∧ Nx (a + i) H
theorem lst_one {a a' : Int} {t t' : Tok} {c c' : Nat} (h : some (lstObj #[Value.int a t] c) = some (lstObj #[Value.int a' t'] c')) : a' = a := by
  have h1 := congrArg Obj.data (Option.some.inj h)
  have h2 : #[Value.int a t] = #[Value.int a' t'] := by
    have h1 : (lstObj #[Value.int a t] c).data = (lstObj #[Value.int a' t'] c').data := h1
    unfold lstObj at h1
    injection h1
  have h3 : [Value.int a t] = [Value.int a' t'] := congrArg Array.toList h2
  have h4 := (List.cons.inj h3).1
  injection h4 with h5 _
  exact h5.symm
theorem sum_gx {R : Result → Shared → Prop} {End : Int → Hp → Prop} (hh : A.handled = none) (hroom : A.depth < recursionLimit) (hG : GenObj go gn) (hSa : S ≠ ga) (far : (gblk X A' s_0 H_0 cenv fp).s_0.heap.objs.size ≤ S) (hSc : ∀ x c, cenv.cells.lookup x = some c → c ≠ S)
    (keep : ∀ i h h', tn i h → (∀ b ∈ fp, ∀ o, h.get? b = some o → h'.get? b = some o) → tn i h') (hSf : ∀ b ∈ fp, b ≠ S)
    (yes : ∀ (σ : L2.St) (H : Hp) (a : Int) (t : Tok) (cp : List (Addr × Obj)) (s1 : Shared), Inv (gblk X A' s_0 H_0 cenv fp) cp σ H s1 → End a H → R (.ok (.ret (.int a t))) s1) :
    ∀ (n : Nat) (s : Shared) (a : Int) (t : Tok) (c : Nat), s.heap.NoLimit → s.heap.get? ga = some go → s.heap.get? S = some (lstObj #[.int a t] c) → (∃ gs, s.gens[gn]? = some gs ∧ gs.Goes (model X.prog X.w) A.in1.in1 (RG (gblk X A' s_0 H_0 cenv fp) (ACs ga go S) End)
      (YG (gblk X A' s_0 H_0 cenv fp) fp tn (ACs ga go S) YdS) n (.send .none) (s.setGen gn .running)) →
      codeAny (model X.prog X.w) A (.builtin "sum.loop" ⟨[.ref ga, .ref S, rawInt 0, rawInt 0], []⟩) R s := by
  intro n
  induction n using Nat.strongRecOn with
  | ind n ih =>
    rintro s a t c hl e hS ⟨gs, hgs, hgo⟩
    refine codeAny_builtin F.entry_sum_loop ?_
    rw [Around.under_plainId F.plain_sum_loop _]
    show wpAny _ A.in1 (seqItems? (.ref S) >>= _) _ _ s
    refine wpAny_bind (wpAny_seqItems hS rfl ?_)
    show wpAny _ A.in1 (tryCatch (pyNext (.ref ga)) _ >>= _) _ _ s
    refine wpAny_bind (wpAny_tryCatch (next_gx2 (A := A.in1) hh hroom hl hG e hgs hgo (fun a' x σ H i cp Nx v s1 gs' r hac tie I st hy at_ kap => ?_) fun a' σ H cp s1 hac tie I q => ?_))
    · obtain ⟨t', c', rfl⟩ := hac
      have e1 := tie (S, lstObj #[.int a' t'] c') (List.mem_cons_of_mem _ List.mem_cons_self)
      rw [hS] at e1
      obtain rfl := lst_one e1
      obtain ⟨j, rfl, ⟨f1, f2⟩, ⟨f3, f4⟩, nx⟩ := hy
      obtain ⟨tk, rfl⟩ := (show ∃ t, v = Value.int j t from r)
      have pS := I.pin (S, lstObj #[.int a' t'] c') (List.mem_append_right _ (List.mem_cons_of_mem _ List.mem_cons_self))
      have I0 : Inv (gblk X A' s_0 H_0 cenv fp) [(ga, go)] σ H s1 := I.pins_of fun p hp => I.pin p (List.mem_append_right _ (by rw [List.mem_singleton.mp hp]; exact List.mem_cons_self))
      have I1 := I0.turned (t' := s1.toks + 1) (h' := s1.heap.update S (Obj.mapSeq (fun _ => #[Value.int (a' + j) s1.toks]))) (it := S) (fun b o hb q => (Heap.get?_update_other _ _ (Ne.symm hb)).trans q) pS.2.1 pS.2.2.1 (.inr far) hSc (fun p hp => by rw [List.mem_singleton.mp (show p ∈ [(ga, go)] by simpa using hp)]; exact Ne.symm hSa)
      have e2 := Heap.get?_update_self (Obj.mapSeq (fun _ => #[Value.int (a' + j) s1.toks])) pS.1 rfl
      have pG := I1.pin (ga, go) (List.mem_append_right _ List.mem_cons_self)
      have hc : ((decide (-(2 ^ 63) ≤ j) && decide (j < 2 ^ 63)) && (decide (-(2 ^ 63) ≤ a' + j) && decide (a' + j < 2 ^ 63))) = true := by
        simp only [Bool.and_eq_true, decide_eq_true_eq]
        exact ⟨⟨f1, f2⟩, f3, f4⟩
      show wpAny _ A.in1 (if (_ : Bool) = true then (mkInt (a' + j) >>= _) else _) _ _ _
      split
      · refine wpAny_bind (wpAny_mkInt ?_)
        show wpAny _ A.in1 (updateSeq S (fun _ => #[Value.int (a' + j) s1.toks]) >>= _) _ _ _
        refine wpAny_bind ?_
        obtain ⟨m, hm, z⟩ := kap (a' + j) [(ga, go), (S, _)] (({ s1 with toks := s1.toks + 1, heap := s1.heap.update S (Obj.mapSeq (fun _ => #[Value.int (a' + j) s1.toks])) } : Shared).setGen gn .running) nx ⟨_, _, rfl⟩ (inv_moved (I1.pins_of fun p hp => by
          rcases List.mem_cons.mp hp with z | z
          · rw [z]; exact pG
          · rw [List.mem_singleton.mp z]; exact ⟨e2, pS.2.1, pS.2.2.1, pS.2.2.2.1, fun v q => by cases q⟩) rfl (allBare_setGen (s := { s1 with toks := s1.toks + 1, heap := s1.heap.update S (Obj.mapSeq (fun _ => #[Value.int (a' + j) s1.toks])) }) I1.bare rfl) fun _ _ q => q) (keep _ _ _ st fun b hb o q => (Heap.get?_update_other _ _ (Ne.symm (hSf b hb))).trans q)
        refine wpAny_updateSeq pS.1 rfl (wpAny_pure ⟨plainId_quiet F.plain_sum_loop _, ih m (by omega) _ (a' + j) s1.toks _ I1.nolimit pG.1 e2 ⟨gs', at_, z⟩⟩)
      · rename_i hneg
        exact absurd hc hneg
    · obtain ⟨t', c', rfl⟩ := hac
      have e1 := tie (S, lstObj #[.int a' t'] c') (List.mem_cons_of_mem _ List.mem_cons_self)
      rw [hS] at e1
      obtain rfl := lst_one e1
      exact wpAny_pure (yes σ H a' t _ s1 I q)
end
section
variable {X : Cx}
def tSumX (P : Addr) (wi : TI) (g : TG) (tt : TT) (te : TE) (vs : List Nat) : TE := fun σ H Q => wi σ H fun J H1 => GxR.TabG H1 P ∧ ∀ H2, GxR.Tabbed P H1 H2 → ∃ W : Nat → Nat → Int → Hp → Prop, (∃ m, W 0 m 0 H2) ∧
  tGx J g tt te (wipe σ vs) vs (fun a H => Q (.int a) H) YdS W
theorem pe_sumX {c P : Addr} {elt tg iter : Expr} {ifs : List Expr} {p pos gpos : Pos} {scope : Scope} {own : List (Str × Nat)} {wi : TI} {g : TG} {tt : TT} {te : TE} {k : Nat}
    (hr : Room (k + 1) X.A) (hc : X.calm = true) (hN : X.N.Nodup) (hgl : Gl X "sum") (hm : X.mg "sum" = none) (hb : bootBuiltins "sum" = some (.builtin "sum")) (TB : GxR.TabB X.base X.mg c P) (hcode : X.env.code = .ref c)
    (hco : scope.isCoroutine = false) (hdot : scope.names.lookup (".0" : Str) = some NameKind.local) (nocell : ∀ y ∈ scope.names, y.2 ≠ .cell) (ok : BlkOk X.N X.env.scope scope own) (hi : PI X tg iter wi)
    (hg : ∀ (A' : Around) (s : Shared) (H : Hp) (C : Addr) (cl : List (Str × Addr)) (code : Value) (fp : List Addr), Room k A' → A'.guards = X.A.guards → PG (gblk X A' s H (genEnv scope cl C code builtinsNs X.env) fp) tg g)
    (ht : ∀ (A' : Around) (s : Shared) (H : Hp) (C : Addr) (cl : List (Str × Addr)) (code : Value) (fp : List Addr), Room k A' → A'.guards = X.A.guards → PTs (gblk X A' s H (genEnv scope cl C code builtinsNs X.env) fp) ifs tt)
    (he : ∀ (A' : Around) (s : Shared) (H : Hp) (C : Addr) (cl : List (Str × Addr)) (code : Value) (fp : List Addr), Room k A' → A'.guards = X.A.guards → PE (gblk X A' s H (genEnv scope cl C code builtinsNs X.env) fp) elt te)
    (hs : ∀ v, genFold iter X.env v = pure v)
    (hst : starEach [.GeneratorExp elt [⟨tg, iter, ifs, 0⟩] scope gpos] X.env = (false, eval (.GeneratorExp elt [⟨tg, iter, ifs, 0⟩] scope gpos) X.env) :: starEach [] X.env := by rfl) :
    PE X (.Call (.Name "sum" p) [.GeneratorExp elt [⟨tg, iter, ifs, 0⟩] scope gpos] [] pos) (tSumX P wi g tt te (own.map (·.2))) := by
  refine ⟨fun pins s σ H Q I h => ?_⟩
  refine wpAny_Call_Name_kw (ld_blt I hgl hm hb ?_)
  refine PyProof.Rows.callWith_builtin1 ?_ hst (by rfl)
  rw [hst]
  show wpAny _ _ (spliced ((false, eval (.GeneratorExp elt [⟨tg, iter, ifs, 0⟩] scope gpos) X.env) :: backTo pos (starEach [] X.env))) _ _ s
  refine Calls.spliced_cons (gx_make (A := X.A.in1.in1) hr ⟨rfl, rfl, rfl, rfl, (by show X.A.units + 1 + 1 ≤ _; omega)⟩ hc hN TB hcode hco hdot nocell ok hi hg ht he hs I h fun J H1 H2 u s5 hR hT hG => ?_)
  obtain ⟨A', s_0, H_0, cenv, fp, ga, gn, go, tn, gs, rfl, hGO, hgs, hbare, I5, st5, nf, hlt, keep, back, goes⟩ := hG
  obtain ⟨W, ⟨m, w0⟩, turn⟩ := hR H2 hT
  refine Calls.spliced_nil ?_
  have pin5 := (I5.pin (ga, go) (List.mem_append_right _ List.mem_cons_self)).1
  have glt : ga < s5.heap.objs.size := Heap.lt_size pin5
  have hSI : s5.heap.objs.size ≠ ga := Nat.ne_of_gt glt
  refine call_function_tree F.kind_sum F.plain_sum F.entry_sum (F.args_sum1 _) ?_
  unfold Builtin.«sum»
  simp only [List.length_cons, List.length_nil]
  rw [if_neg (by decide)]
  refine wpAny_bind (wpAny_of_eq (show Builtin.Builtins.bindParams "sum" ["start"] 0 { } = pure [none] from rfl) ?_)
  refine wpAny_bind (wpAny_pyIter_gen (hGO.isGen pin5) ?_)
  refine wpAny_bind (wpAny_mkInt ?_)
  refine wpAny_bind (wpAny_pure ?_)
  simp only [List.forIn_cons, List.forIn_nil]
  refine wpAny_bind (wpAny_bind (wpAny_bind (wpAny_isInstance (T := "int") (b := false) (typeIs_int _ _ _) PySem.sub_int_str ?_)))
  simp only [Bool.false_eq_true, if_false]
  refine wpAny_pure (wpAny_bind (wpAny_bind (wpAny_isInstance (T := "int") (b := false) (typeIs_int _ _ _) PySem.sub_int_bytes ?_)))
  simp only [Bool.false_eq_true, if_false]
  refine wpAny_pure (wpAny_bind (wpAny_bind (wpAny_isInstance (T := "int") (b := false) (typeIs_int _ _ _) PySem.sub_int_bytearray ?_)))
  simp only [Bool.false_eq_true, if_false]
  refine wpAny_pure (wpAny_pure ?_)
  refine wpAny_bind (wpAny_newObj_type ?_)
  have k1 : ∀ b o, s5.heap.get? b = some o → (s5.heap.push { cls := .type "list", data := .seq [Value.int 0 s5.toks].toArray }).get? b = some o := fun b o e => Heap.get?_push_of_some _ e
  have hS₁ : (s5.heap.push { cls := .type "list", data := .seq [Value.int 0 s5.toks].toArray }).get? s5.heap.objs.size = some (lstObj #[.int 0 s5.toks] 0) := Heap.get?_push_size _ rfl
  have fS : FpOk (gblk X A' s_0 H_0 cenv fp) [(ga, go)] H2 s5.heap.objs.size := I5.fpOk (Nat.le_refl _) (I5.hok.fresh (Nat.le_refl _))
  have hfS : ∀ b ∈ fp, b ≠ s5.heap.objs.size := fun b hb => Nat.ne_of_lt (Nat.lt_trans (hlt b hb) glt)
  have I6 := inv_moved (s' := { s5 with toks := s5.toks + 1, heap := s5.heap.push { cls := .type "list", data := .seq [Value.int 0 s5.toks].toArray } }) I5 rfl I5.bare k1
  refine wpAny_pure ⟨plainId_quiet F.plain_sum_loop _, sum_gx (A' := A') (s_0 := s_0) (H_0 := H_0) (cenv := cenv) (fp := fp) (tn := tn) (go := go) (gn := gn) (End := fun a H => Q (.int a) H) hr.hd hr.depth hGO hSI (Nat.le_trans I5.sz (Nat.le_refl _)) fS.2.2.2.2.1 keep hfS
    (fun σ' H' a t cp s1 I1 q => ⟨.int a, H', back _ _ _ _ I1, ⟨t, rfl⟩, q⟩) (m + 1) _ 0 s5.toks 0 I6.nolimit (k1 _ _ pin5) hS₁ ⟨gs, hgs, ?_⟩⟩
  refine goes Int (ACs ga go s5.heap.objs.size) _ YdS W m (m + 1) 0 [(ga, go), (s5.heap.objs.size, lstObj #[.int 0 s5.toks] 0)] _ turn w0 (Nat.lt_succ_self _) (fun a cp hac p hp b hb z => ?_) ⟨_, _, rfl⟩
    (inv_moved (I6.pins_of fun p hp => ?_) rfl (allBare_setGen (s := { s5 with toks := s5.toks + 1, heap := _ }) I5.bare rfl) fun _ _ q => q) (keep _ _ _ st5 fun b hb o q => k1 b o q)
  · obtain ⟨t, c, rfl⟩ := hac
    rcases List.mem_cons.mp hp with e | e
    · rw [e] at z
      exact absurd (hlt b hb) (by rw [← z]; exact Nat.lt_irrefl _)
    · rw [List.mem_singleton.mp e] at z
      exact hfS b hb z.symm
  · rcases List.mem_cons.mp hp with e | e
    · rw [e]
      exact I6.pin (ga, go) (List.mem_append_right _ List.mem_cons_self)
    · rw [List.mem_singleton.mp e]
      exact ⟨hS₁, fS.1, fS.2.1, fS.2.2.1, fun v q => by cases q⟩
end
end GxS

/-! ### a generator expression over a list -/
theorem gx_list {α : Type} {K : PySem.W.Frag} {a : Addr} {xs : List V} {g : TG} {tt : TT} {te : TE} {vs : List Nat} {σ0 : L2.St} {End : α → Hp → Prop} {Yd : α → V → Hp → (α → Hp → Prop) → Prop} {a0 : α} {H0 : Hp} (Pv : Nat → α → Hp → Prop) (h0 : Pv 0 a0 H0)
    (hl : ∀ i c H, i ≤ xs.length → Pv i c H → SqL K H a xs)
    (hs : ∀ i x c H, xs[i]? = some x → Pv i c H → g x σ0 H fun σ2 H2 => wipe σ2 vs = σ0 ∧ tt σ2 H2 fun b H3 => if b = true then te σ2 H3 fun y H4 => Yd c y H4 (Pv (i + 1)) else Pv (i + 1) c H3) (hd : ∀ c H, Pv xs.length c H → End c H) :
    ∃ W : Nat → Nat → α → Hp → Prop, (∃ m, W 0 m a0 H0) ∧ tGx (Itl K a) g tt te σ0 vs End Yd W := by
  refine ⟨fun i m c H => m = xs.length - i ∧ i ≤ xs.length ∧ Pv i c H, ⟨xs.length, rfl, Nat.zero_le _, h0⟩, ?_⟩
  rintro i m c H ⟨rfl, hi, p⟩
  by_cases hlt : i < xs.length
  · have hx : xs[i]? = some xs[i] := List.getElem?_eq_getElem hlt
    refine .inr ⟨⟨xs, xs[i], hl i c H hi p, hx⟩, Pv (i + 1), fun c' H' p' => ⟨xs.length - (i + 1), by omega, rfl, hlt, p'⟩, fun x H' y => ?_⟩
    obtain ⟨rfl, y⟩ := y
    exact hs i x c _ (y xs (hl i c _ hi p)) p
  · have e : i = xs.length := by omega
    subst e
    exact .inl ⟨⟨xs, hl _ c H hi p, Nat.le_refl _⟩, hd c H p⟩

section
variable {P : Program} {w : World} {K : PySem.W.Frag} {mg : Str → Option Value} {base : Heap}
/-! ### the levels of a form -/
theorem Fm.cnts_step : ∀ fs : List Fm, Fm.cnts fs = fs.length + Fm.cnts (fs.flatMap Fm.inner)
  | [] => rfl
  | f :: r => by
    show f.cnt + Fm.cnts r = r.length + 1 + Fm.cnts (f.inner ++ r.flatMap Fm.inner)
    rw [Fm.cnts_app, Fm.cnts_step r, Fm.cnt_eq f]
    omega
theorem Fm.cnts_len : ∀ fs : List Fm, fs.length ≤ Fm.cnts fs := fun fs => by have := Fm.cnts_step fs; omega
theorem Fm.oks_inner {m : Nat} {fs : List Fm} (h : ∀ f ∈ fs, f.ok m = true) : ∀ g ∈ fs.flatMap Fm.inner, g.ok m = true := fun g hg => by
  obtain ⟨f, hf, hg⟩ := List.mem_flatMap.mp hg
  exact Fm.inner_ok (h f hf) hg
theorem flat_take_len {k : Nat} (fs : List Fm) : ((fs.take k).flatMap Fm.inner).length ≤ (fs.flatMap Fm.inner).length := by
  have e : fs.flatMap Fm.inner = (fs.take k).flatMap Fm.inner ++ (fs.drop k).flatMap Fm.inner := by rw [← List.flatMap_append, List.take_append_drop]
  rw [e, List.length_append]
  omega
/-- lists of so many -/
def Lns (H : Hp) (L : Addr) (ls : List Addr) (ns : List Nat) : Prop := ls.length = ns.length ∧ ∀ (j : Nat) (a : Addr), ls[j]? = some a → a ≠ L ∧ ∃ xs : List V, H a = some (.lst xs) ∧ ns[j]? = some xs.length
def sp_levels (K : PySem.W.Frag) : Sp := fun vs H Q _ => ∃ (v : V) (f : Fm) (m : Nat), vs = [v] ∧ Tk H v f.d ∧ f.ok m = true ∧ f.cnt ≤ 1000 ∧ ∀ H' a ls ns, Same H H' → H' a = some (.lst (ls.map V.ref)) → Lns H' a ls ns → ns.sum = f.cnt → Q (.ref a) H'
theorem ok_levels_of (T : Tx w K mg) : FnOk P w K mg base CX0 2 T.f_levels_of T.fd_levels_of ["form"] (sp_levels K) := by
  refine T.F_levels_of.ok sc_levels_of (fun vs H Q E h => ?_) (fun cdv A outer s H vs Q E hr h => ?_)
  · obtain ⟨v, f, m, rfl, _⟩ := h
    rfl
  · obtain ⟨v, f, m, rfl, tk, ok, cf, q⟩ := h
    refine ⟨_, (pss_cons (ps_set (i := 1) sc_levels_of.nd rfl (by first | exact .inl rfl | exact .inr rfl) (pe_lst pa_nil)) (pss_cons (ps_set (i := 2) sc_levels_of.nd rfl (by first | exact .inl rfl | exact .inr rfl) (pe_lst (pa_cons (pv 0) pa_nil))) (pss_cons (ps_while PassesOwn.never (pt_truth (pv 2) (by intro _; rfl)) (pss_cons (ps_expr (pe_bm PySem.F.plainAttrs_list PySem.F.slot_list_append PySem.F.type_list_append mt_append (pv 1) (pa_cons (pv 2) pa_nil))) (pss_one (ps_setLc2 (i := 2) (own := [("above", 3), ("part", 4)]) (vs1 := [4]) (by rfl) sc_levels_of.nd rfl rfl (sw_true rfl rfl rfl (by decide +kernel)) (pi_list (pv 2)) (blkOk_by (own := [("above", 3), ("part", 4)]) (N := ["form", "levels", "level", "above", "part"]) (sc := defScope s_levels_of) (by decide +kernel)) (by decide) (fun _ _ _ _ _ => (pg_name (i := 3) sc_levels_of.nd rfl (by first | exact .inl rfl | exact .inr rfl))) (fun _ _ _ _ _ => pts_nil) (fun _ _ _ _ _ => (show PI _ _ _ (iTup K _) from pi_tup (pe_call (ok_inner_of T) (hr.mono (by decide)) (by rfl) T.g_inner_of T.F_inner_of.kp T.b_inner_of .nil pass0 (pa_cons (pv 3) pa_nil)))) (fun _ _ _ _ _ => (pg_name (i := 4) sc_levels_of.nd rfl (by first | exact .inl rfl | exact .inr rfl))) (fun _ _ _ _ _ => pts_nil) (fun _ _ _ _ _ => (pv 4)))))) (pss_one (ps_ret (pv 1)))))), ?_⟩
    refine ⟨Nat.zero_le _, fun L nL => ?_⟩
    have s1 := same_upd (o := (HO.lst [])) nL
    have h1 : upd H L (HO.lst []) L = some (HO.lst []) := upd_same
    generalize upd H L (HO.lst []) = H1 at s1 h1 ⊢
    refine ⟨v, rfl, sl1, fun W nW => ?_⟩
    have nWL : W ≠ L := (ne_of_none h1 nW).symm
    have s2 := same_upd (o := (HO.lst [v])) nW
    have h2 : upd H1 W (HO.lst [v]) W = some (HO.lst [v]) := upd_same
    generalize upd H1 W (HO.lst [v]) = H2 at s2 h2 ⊢
    have k0 : ∀ {H' : Hp}, Same H H' → Same H (hd1 L H') := fun s => hd1_of s nL
    refine ⟨fun N σ H' => ∃ W y3 y4 vs, ∃ fs : List Fm, ∃ ls ns, σ = [some v, some (.ref L), some (.ref W), y3, y4] ∧ Same H (hd1 L H') ∧ H' L = some (.lst (ls.map V.ref)) ∧ Lns H' L ls ns ∧ W ≠ L ∧ H' W = some (.lst vs) ∧ TkAll H' vs (fs.map Fm.d) ∧ (∀ g ∈ fs, g.ok m = true) ∧ ns.sum + Fm.cnts fs = f.cnt ∧ Fm.cnts fs = N ∧ ls.length ≤ ns.sum,
      ⟨f.cnt + 0, W, _, _, [v], [f], [], [], rfl, k0 (s1.trans s2), s2 _ _ h1, ⟨rfl, fun j a z => by cases z⟩, nWL, h2, .cons ((tk.same s1).same s2) .nil, fun g hg => by rw [List.mem_singleton.mp hg]; exact ok, Nat.zero_add _, rfl, Nat.zero_le _⟩, ?_⟩
    rintro N σ H3 ⟨W, y3, y4, vs, fs, ls, ns, rfl, s3, hL, ln, nWL, hW, tks, oks, sm, cN, lsn⟩
    have lvs : vs.length = fs.length := by rw [tks.length, List.length_map]
    refine ⟨.ref W, rfl, !vs.isEmpty, .inl ⟨vs, SqL.of hW, rfl⟩, ?_⟩
    by_cases em : fs = []
    · subst em
      have : vs = [] := List.eq_nil_of_length_eq_zero lvs
      subst this
      refine iteF ⟨.ref L, rfl, q H3 L ls ns (fun b o e => hd1_le _ _ (s3 b o e)) hL ln sm⟩
    have pos : 0 < vs.length := by rw [lvs]; exact List.length_pos_iff.mpr em
    have ne : (!vs.isEmpty) = true := by
      cases vs with
      | nil => cases pos
      | cons _ _ => rfl
    rw [ne]
    refine iteT ⟨fun σ' H' => ∃ N', N' < N ∧ ∃ W y3 y4 vs, ∃ fs : List Fm, ∃ ls ns, σ' = [some v, some (.ref L), some (.ref W), y3, y4] ∧ Same H (hd1 L H') ∧ H' L = some (.lst (ls.map V.ref)) ∧ Lns H' L ls ns ∧ W ≠ L ∧ H' W = some (.lst vs) ∧ TkAll H' vs (fs.map Fm.d) ∧ (∀ g ∈ fs, g.ok m = true) ∧ ns.sum + Fm.cnts fs = f.cnt ∧ Fm.cnts fs = N' ∧ ls.length ≤ ns.sum, fun σ' H' h => h, ?_⟩
    have nol : noLs (fs.map Fm.d) = true := by rw [← Fm.dl_map]; exact Fm.noLl fs
    have cs := Fm.cnts_step fs
    refine ⟨.ref L, rfl, .inl ⟨rfl, _, SqL.of hL⟩, .ref W, rfl, L, _, .ref W, rfl, rfl, hL, Nat.lt_of_le_of_lt (show (ls.map V.ref).length ≤ 1000 by rw [List.length_map]; omega) (by decide), ?_⟩
    have s4 : Same (hd1 L H3) (hd1 L (upd H3 L (.lst (ls.map V.ref ++ [.ref W])))) := hd1_upd
    have hL4 : upd H3 L (.lst (ls.map V.ref ++ [.ref W])) L = some (.lst ((ls ++ [W]).map V.ref)) := by rw [upd_same, List.map_append]; rfl
    have tks4 := tks.ts (Ts.set (ys := ls.map V.ref ++ [.ref W]) hL) nol
    have hW4 : upd H3 L (.lst (ls.map V.ref ++ [.ref W])) W = some (.lst vs) := by rw [upd_ne nWL]; exact hW
    have ln4 : Lns (upd H3 L (.lst (ls.map V.ref ++ [.ref W]))) L (ls ++ [W]) (ns ++ [vs.length]) := by
      refine ⟨by rw [List.length_append, List.length_append, ln.1]; rfl, fun j a hj => ?_⟩
      by_cases z : j < ls.length
      · rw [List.getElem?_append_left z] at hj
        obtain ⟨x1, xs, x2, x3⟩ := ln.2 j a hj
        exact ⟨x1, xs, by rw [upd_ne x1]; exact x2, by rw [List.getElem?_append_left (by rw [← ln.1]; exact z)]; exact x3⟩
      · rw [List.getElem?_append_right (by omega)] at hj
        have e0 : j - ls.length = 0 := by
          have := (List.getElem?_eq_some_iff.mp hj).1
          simp only [List.length_singleton] at this
          omega
        rw [e0] at hj
        cases Option.some.inj hj
        exact ⟨nWL, vs, hW4, by rw [List.getElem?_append_right (by rw [← ln.1]; omega), ← ln.1, e0]; rfl⟩
    generalize upd H3 L (.lst (ls.map V.ref ++ [.ref W])) = H4 at s4 hL4 tks4 hW4 ln4 ⊢
    refine ⟨.ref W, rfl, W, rfl, ⟨_, SqL.of hW4⟩, fun D nD => ?_⟩
    have nDL : L ≠ D := ne_of_none hL4 nD
    refine ⟨fun k n H' => n = vs.length - k ∧ k ≤ vs.length ∧ Same H4 (hd1 D H') ∧ ∃ acc, H' D = some (.lst acc) ∧ TkAll H' acc (((fs.take k).flatMap Fm.inner).map Fm.d), ⟨_, rfl, Nat.zero_le _, hd1_of (same_upd nD) nD, [], upd_same, .nil⟩, ?_⟩
    rintro k n H5 ⟨rfl, hk, s5, acc, hD, ta⟩
    have k5 : Same H4 H5 := fun b o e => hd1_le _ _ (s5 b o e)
    by_cases hlt : k < vs.length
    · obtain ⟨g, hg⟩ : ∃ g, fs[k]? = some g := ⟨_, List.getElem?_eq_getElem (by omega)⟩
      have htk : (fs.take (k + 1)).flatMap Fm.inner = (fs.take k).flatMap Fm.inner ++ g.inner := by
        rw [List.take_add_one, hg, List.flatMap_append]
        show _ ++ (g.inner ++ []) = _
        rw [List.append_nil]
      refine .inr ⟨⟨vs, vs[k], SqL.of (k5 _ _ hW4), List.getElem?_eq_getElem hlt⟩, fun H' => Same H4 (hd1 D H') ∧ ∃ acc, H' D = some (.lst acc) ∧ TkAll H' acc (((fs.take (k + 1)).flatMap Fm.inner).map Fm.d), fun σ' ⟨z1, z2⟩ => ⟨vs.length - (k + 1), by omega, rfl, by omega, z1, z2⟩, fun x H' hy => ?_⟩
      obtain ⟨rfl, hy⟩ := hy
      have hx : vs[k]? = some x := hy vs (SqL.of (k5 _ _ hW4))
      obtain ⟨g', hg', tx⟩ := tks4.at hx
      cases Option.some.inj (hg.symm.trans hg')
      refine ⟨rfl, x, rfl, x, g, rfl, tx.same k5, fun H6 b xs s6 hb txs => ⟨b, rfl, ⟨_, SqT.of hb⟩, ?_⟩⟩
      have lxs : xs.length = g.inner.length := by rw [txs.length, List.length_map]
      have s56 := s5.trans (hd1_same s6)
      refine ⟨fun j n H' => n = xs.length - j ∧ j ≤ xs.length ∧ Same (hd1 D H6) (hd1 D H') ∧ ∃ acc, H' D = some (.lst acc) ∧ TkAll H' acc (((fs.take k).flatMap Fm.inner ++ g.inner.take j).map Fm.d), ⟨_, rfl, Nat.zero_le _, Same.refl _, acc, s6 _ _ hD, by rw [List.take_zero, List.append_nil]; exact ta.same s6⟩, ?_⟩
      rintro j n H7 ⟨rfl, hj, s7, acc7, hD7, ta7⟩
      have ts67 : Ts H6 H7 := fun b ys e => hd1_le _ _ (s7 b (.tup ys) (by rw [hd1_at (ne_of (s6 _ _ hD) e (by intro z; cases z)).symm]; exact e))
      have hb7 : H7 b = some (.tup xs) := by
        have := s7 b (.tup xs) (by rw [hd1_at (ne_of (s6 _ _ hD) hb (by intro z; cases z)).symm]; exact hb)
        exact hd1_le _ _ this
      by_cases hjl : j < xs.length
      · obtain ⟨u, hu⟩ : ∃ u, g.inner[j]? = some u := ⟨_, List.getElem?_eq_getElem (by omega)⟩
        refine .inr ⟨⟨xs, xs[j], SqT.of hb7, List.getElem?_eq_getElem hjl⟩, fun H' => Same (hd1 D H6) (hd1 D H') ∧ ∃ acc, H' D = some (.lst acc) ∧ TkAll H' acc (((fs.take k).flatMap Fm.inner ++ g.inner.take (j + 1)).map Fm.d), fun σ' ⟨z1, z2⟩ => ⟨xs.length - (j + 1), by omega, rfl, by omega, z1, z2⟩, fun y H8 hy => ?_⟩
        obtain ⟨rfl, hy⟩ := hy
        have hy2 : xs[j]? = some y := hy xs (SqT.of hb7)
        obtain ⟨u', hu', ty⟩ := txs.at hy2
        cases Option.some.inj (hu.symm.trans hu')
        refine ⟨rfl, ?_⟩
        have lacc : acc7.length ≤ 1000 := by
          have h1 := ta7.length
          rw [List.length_map] at h1
          have h2 := flat_take_len (k := k + 1) fs
          have h3 : ((fs.take k).flatMap Fm.inner ++ g.inner.take j).length ≤ ((fs.take (k + 1)).flatMap Fm.inner).length := by
            rw [htk, List.length_append, List.length_append, List.length_take]
            omega
          have h4 := Fm.cnts_len (fs.flatMap Fm.inner)
          omega
        have ty7 : Tk H8 y u.d := ty.ts ts67 (Fm.noL u)
        refine ⟨y, rfl, acc7, hD7, Nat.lt_of_le_of_lt lacc (by decide), s7.trans hd1_upd, acc7 ++ [y], upd_same, ?_⟩
        rw [List.take_add_one, hu, ← List.append_assoc, List.map_append]
        exact (ta7.ts (Ts.set hD7) (by rw [← Fm.dl_map]; exact Fm.noLl _)).append (.cons (ty7.ts (Ts.set hD7) (Fm.noL u)) .nil)
      · have ej : j = xs.length := by omega
        subst ej
        refine .inl ⟨⟨xs, SqT.of hb7, Nat.le_refl _⟩, ?_⟩
        rw [lxs, List.take_length] at ta7
        exact ⟨s56.trans s7, acc7, hD7, by rw [htk]; exact ta7⟩
    · have ek : k = vs.length := by omega
      subst ek
      refine .inl ⟨⟨vs, SqL.of (k5 _ _ hW4), Nat.le_refl _⟩, ?_⟩
      rw [lvs, List.take_length] at ta
      exact ⟨Fm.cnts (fs.flatMap Fm.inner), by omega, D, _, _, acc, fs.flatMap Fm.inner, ls ++ [W], ns ++ [vs.length], rfl, (s3.trans s4).trans (hd1_same k5), k5 _ _ hL4, ⟨ln4.1, fun j a hj => by
        obtain ⟨x1, xs, x2, x3⟩ := ln4.2 j a hj
        exact ⟨x1, xs, k5 _ _ x2, x3⟩⟩, nDL.symm, hD, ta, Fm.oks_inner oks, by rw [List.sum_append, List.sum_cons, List.sum_nil]; omega, rfl, by rw [List.length_append, List.sum_append, List.sum_cons, List.sum_nil]; simp only [List.length_singleton]; omega⟩
/-! ### how many parts a form has -/
def sp_parts (T : Tx w K mg) : Sp := fun vs H Q _ => ∃ (v : V) (f : Fm) (m : Nat), vs = [v] ∧ Tk H v f.d ∧ f.ok m = true ∧ f.cnt ≤ 1000 ∧ GxR.TabG H T.P_parts_in ∧ ∀ H', Gr H H' → Q (.int (f.cnt : Nat)) H'
theorem ok_parts_in (T : Tx w K mg) (B : Tb base T) : FnOk P w K mg base CX0 3 T.f_parts_in T.fd_parts_in ["form"] (sp_parts T) := by
  refine okC T.F_parts_in sc_parts_in (fun vs H Q E h => ?_) (fun A outer s H vs Q E hr h => ?_)
  · obtain ⟨v, f, m, rfl, _⟩ := h
    rfl
  · obtain ⟨v, f, m, rfl, tk, ok, cf, tab, q⟩ := h
    refine ⟨_, (pss_one (ps_ret (GxS.pe_sumX (own := [("level", 1)]) (k := 0) (hr.mono (by decide)) rfl sc_parts_in.nd (by rfl) T.m_sum (by decide +kernel) B.TB_parts_in T.cd_parts_in rfl rfl (by decide +kernel) (blkOk_by (own := [("level", 1)]) (N := ["form", "level"]) (sc := defScope s_parts_in) (by decide +kernel)) (pi_list (pe_call (ok_levels_of T) (hr.mono (by decide)) (by rfl) T.g_levels_of T.F_levels_of.kp T.b_levels_of .nil pass0 (pa_cons (pv 0) pa_nil))) (fun _ _ _ _ _ _ _ hr gd => (pg_name (i := 1) sc_parts_in.nd rfl (by first | exact .inl rfl | exact .inr rfl))) (fun _ _ _ _ _ _ _ hr gd => pts_nil) (fun _ _ _ _ _ _ _ hr gd => (pe_callB (show CallR _ _ (rLenK K) from call_len_seq) (by rfl) T.m_len PySem.boot_len (pa_cons (pv 1) pa_nil))) (fun _ => rfl)))), ?_⟩
    refine ⟨v, rfl, v, f, m, rfl, tk, ok, cf, fun H1 a ls ns s1 ha ln sm => ⟨a, rfl, ⟨_, SqL.of ha⟩, ?_⟩⟩
    have g1 := Gr.of s1
    refine ⟨g1.2 _ tab, fun H2 tb2 => ?_⟩
    have g2 := Gr.tab (g1.2 _ tab) tb2
    have le : ∀ i, (ns.take i).sum ≤ f.cnt := fun i => by
      rw [← sm]
      have e := List.take_append_drop i ns
      have : ns.sum = (ns.take i).sum + (ns.drop i).sum := by rw [← List.sum_append, e]
      omega
    refine gx_list (K := K) (a := a) (xs := ls.map V.ref) (fun i acc H' => Gr H2 H' ∧ acc = (((ns.take i).sum : Nat) : Int)) ⟨Gr.refl, rfl⟩ (fun i ys H' _ hP => SqL.of ((g2.trans hP.1).lst ha)) ?_ ?_
    · rintro i x acc H3 hx ⟨g3, rfl⟩
      rw [List.getElem?_map] at hx
      obtain ⟨l, hl, rfl⟩ := Option.map_eq_some_iff.mp hx
      obtain ⟨_, xs, hxs, hn⟩ := ln.2 i l hl
      have l1 := le i
      have l2 := le (i + 1)
      have e2 : (ns.take (i + 1)).sum = (ns.take i).sum + xs.length := by
        rw [List.take_add_one, hn, List.sum_append]
        show _ + (xs.length + 0) = _
        rfl
      refine ⟨rfl, .ref l, rfl, l, xs, rfl, .inl (SqL.of ((g2.trans g3).lst hxs)), _, rfl, ⟨by omega, by omega⟩, ⟨by omega, by omega⟩, g3, ?_⟩
      rw [e2]
      push_cast
      rfl
    · rintro acc H3 ⟨g3, rfl⟩
      have l0 := ln.1
      rw [List.length_map, l0, List.take_length, sm]
      exact q H3 (g1.trans (g2.trans g3))

end
end Gk

set_option Elab.async false
set_option linter.all false
set_option maxRecDepth 100000
set_option maxHeartbeats 1000000
set_option pp.maxSteps 1500
set_option pp.deepTerms false
namespace Gk
open PySem PySem.Spec PyProof.Rows L2
mutual
theorem Tk.sh {H : Hp} : ∀ {v : V} {d : PyData}, Tk H v d → noL d = true → Sh H v d
  | _, _, .bl b, _ => .bl b
  | _, _, .int i, _ => .int i
  | _, _, .str x, _ => .str x
  | _, _, .lst h t, n => by cases n
  | _, _, .tup h t, n => .tup h (t.sh n)
theorem TkAll.sh {H : Hp} : ∀ {vs : List V} {ds : List PyData}, TkAll H vs ds → noLs ds = true → ShAll H vs ds
  | _, _, .nil, _ => .nil
  | _, _, .cons (d := d) (ds := ds) h t, n => by
    have n' : noL d = true ∧ noLs ds = true := Bool.and_eq_true_iff.mp n
    exact .cons (h.sh n'.1) (t.sh n'.2)
end

/-! ### comparing, cutting and joining data of tuples -/
mutual
theorem Tk.dp {K : PySem.W.Frag} {H : Hp} : ∀ {v : V} {d : PyData}, Tk H v d → Dp K H v d
  | _, _, .bl b => .bl b
  | _, _, .int i => .int i
  | _, _, .str x => .str x
  | _, _, .lst h t => .lst (SqL.of h) t.dp
  | _, _, .tup h t => .tup (SqT.of h) t.dp
theorem TkAll.dp {K : PySem.W.Frag} {H : Hp} : ∀ {vs : List V} {ds : List PyData}, TkAll H vs ds → DpAll K H vs ds
  | _, _, .nil => .nil
  | _, _, .cons h t => .cons h.dp t.dp
end
theorem ne_same {K : PySem.W.Frag} {H : Hp} {x y : V} {d : PyData} {Q : VK} (hx : Dp K H x d) (hy : Dp K H y d) (sh : SeqAt.shaped d = true) (q : Q (.bl false) H) : rNeD K x y H Q := by
  refine ⟨d, d, hx, hy, sh, sh, ?_⟩
  rw [SeqAt.eqv_refl d (SeqAt.canLay_of_shaped sh)]
  exact q
theorem eq_same {K : PySem.W.Frag} {H : Hp} {x y : V} {d : PyData} {Q : VK} (hx : Dp K H x d) (hy : Dp K H y d) (sh : SeqAt.shaped d = true) (q : Q (.bl true) H) : rEqD K x y H Q := by
  refine ⟨d, d, hx, hy, sh, sh, ?_⟩
  rw [SeqAt.eqv_refl d (SeqAt.canLay_of_shaped sh)]
  exact q

section
variable {P : Program} {w : World} {K : PySem.W.Frag} {mg : Str → Option Value} {base : Heap}
/-! ### places in a form -/
def Fm.at (f : Fm) : List Nat → Option Fm
  | [] => some f
  | k :: r => match f.inner[k]? with
    | some g => g.at r
    | none => none
theorem Fm.at_app : ∀ (ks ls : List Nat) (f : Fm), f.at (ks ++ ls) = (f.at ks).bind fun g => g.at ls
  | [], _, _ => rfl
  | k :: r, ls, f => by
    show (match f.inner[k]? with
      | some g => g.at (r ++ ls)
      | none => none) = (match f.inner[k]? with
      | some g => g.at r
      | none => none).bind _
    cases f.inner[k]? with
    | none => rfl
    | some g => exact Fm.at_app r ls g
theorem Fm.at_one (f : Fm) (k : Nat) : f.at [k] = f.inner[k]? := by
  show (match f.inner[k]? with
    | some g => some g
    | none => none) = _
  cases f.inner[k]? <;> rfl
theorem Fm.at_dep : ∀ {ks : List Nat} {f g : Fm}, f.at ks = some g → ks.length + g.dep ≤ f.dep
  | [], f, g, h => by
    cases Option.some.inj h
    exact Nat.le_of_eq (Nat.zero_add _)
  | k :: r, f, g, h => by
    have h : (match f.inner[k]? with
      | some g => g.at r
      | none => none) = some g := h
    cases e : f.inner[k]? with
    | none => rw [e] at h; cases h
    | some i =>
      rw [e] at h
      have := Fm.at_dep (f := i) h
      have := Fm.inner_dep (List.mem_of_getElem? e)
      simp only [List.length_cons]
      omega
theorem Fm.at_ok {m : Nat} : ∀ {ks : List Nat} {f g : Fm}, f.ok m = true → f.at ks = some g → g.ok m = true
  | [], f, g, ok, h => by
    cases Option.some.inj h
    exact ok
  | k :: r, f, g, ok, h => by
    have h : (match f.inner[k]? with
      | some g => g.at r
      | none => none) = some g := h
    cases e : f.inner[k]? with
    | none => rw [e] at h; cases h
    | some i =>
      rw [e] at h
      exact Fm.at_ok (Fm.inner_ok ok (List.mem_of_getElem? e)) h
def placeI (ks : List Nat) : List Int := ks.map fun k => ((k : Nat) : Int)
def sp_form_at (K : PySem.W.Frag) : Sp := fun vs H Q _ => ∃ (v : V) (f : Fm) (a : Addr) (ks : List Nat), vs = [v, .ref a] ∧ Tk H v f.d ∧ H a = some (.tup ((placeI ks).map V.int)) ∧ (∀ g, f.at ks = some g → ∀ v' H', Same H H' → Tk H' v' g.d → Q v' H') ∧ (f.at ks = none → ∀ H', Same H H' → Q .non H')
theorem ok_form_at (T : Tx w K mg) : FnOk P w K mg base CX0 2 T.f_form_at T.fd_form_at ["form", "place"] (sp_form_at K) := by
  refine T.F_form_at.ok sc_form_at (fun vs H Q E h => ?_) (fun cdv A outer s H vs Q E hr h => ?_)
  · obtain ⟨v, f, a, ks, rfl, _⟩ := h
    rfl
  · obtain ⟨v, f, a, ks, rfl, tk, ha, q1, q2⟩ := h
    refine ⟨_, (pss_cons (ps_if (pt_not (pt_val (pe_callB call_isi (by rfl) T.m_isinstance (by decide +kernel) (pa_cons (pv 1) (pa_cons (pe_bltn (v := .ty "tuple") (u := .type "tuple") (by rfl) T.m_tuple (by decide +kernel) rfl) pa_nil))))) (pss_one (ps_ret pe_non)) pss_nil) (pss_cons (ps_set (i := 2) sc_form_at.nd rfl (by first | exact .inl rfl | exact .inr rfl) (pv 0)) (pss_cons (ps_for PassesOwn.never rfl (pi_tup (pv 1)) (pg_name (i := 3) sc_form_at.nd rfl (by first | exact .inl rfl | exact .inr rfl)) (pss_cons (ps_set (i := 4) sc_form_at.nd rfl (by first | exact .inl rfl | exact .inr rfl) (pe_call (ok_inner_of T) (hr.mono (by decide)) (by rfl) T.g_inner_of T.F_inner_of.kp T.b_inner_of .nil pass0 (pa_cons (pv 2) pa_nil))) (pss_cons (ps_if (pw_or (pt_not (pt_val (pe_call (ok_is_whole T) (hr.mono (by decide)) (by rfl) T.g_is_whole T.F_is_whole.kp T.b_is_whole .nil pass0 (pa_cons (pv 3) pa_nil)))) (pw_or1 (pt_not (pt_chain op_le op_lt pe_int (pv 3) (pe_callB call_len_seq (by rfl) T.m_len PySem.boot_len (pa_cons (pv 4) pa_nil)))))).pt (pss_one (ps_ret pe_non)) pss_nil) (pss_one (ps_set (i := 2) sc_form_at.nd rfl (by first | exact .inl rfl | exact .inr rfl) (pe_ix ix_tup (pv 4) (pv 3) (fun _ _ => rfl))))))) (pss_one (ps_ret (pv 2)))))), ?_⟩
    have shp : Sh H (.ref a) (.tuple ((placeI ks).map PyData.int)) := (Tk.tup ha (TkAll.ints _)).sh (noL_row _)
    refine ⟨.ref a, rfl, _, _, _, _, _, rfl, .ty _, shp.ty, kit_ty (kitTup _), _, rfl, iteF ?_⟩
    refine ⟨v, rfl, .ref a, rfl, a, rfl, ⟨_, SqT.of ha⟩, ?_⟩
    refine for_tup (K := K) (a := a) (xs := (placeI ks).map V.int) (fun i σ H' => ∃ u y3 y4 g, σ = [some v, some (.ref a), some u, y3, y4] ∧ Same H H' ∧ f.at (ks.take i) = some g ∧ Tk H' u g.d) ⟨v, _, _, f, rfl, Same.refl _, rfl, tk⟩ (fun i σ H' _ ⟨_, _, _, _, _, s, _⟩ => SqT.of (s _ _ ha)) ?_ ?_
    · rintro i x σ H1 hx ⟨u, y3, y4, g, rfl, s1, hg, tu⟩
      unfold placeI at hx
      rw [List.getElem?_map, List.getElem?_map] at hx
      obtain ⟨k, hk, rfl⟩ : ∃ k, ks[i]? = some k ∧ x = V.int ((k : Nat) : Int) := by
        cases e : ks[i]? with
        | none => rw [e] at hx; cases hx
        | some k => rw [e] at hx; exact ⟨k, rfl, (Option.some.inj hx).symm⟩
      have nxt : f.at (ks.take (i + 1)) = g.inner[k]? := by
        rw [List.take_add_one, hk, Fm.at_app, hg]
        exact Fm.at_one g k
      have none_of : g.inner[k]? = none → f.at ks = none := fun z => by
        have e := List.take_append_drop (i + 1) ks
        rw [← e, Fm.at_app, nxt, z]
        rfl
      refine ⟨u, rfl, u, g, rfl, tu, fun H2 b xs s2 hb txs => ?_⟩
      have lxs : xs.length = g.inner.length := by rw [txs.length, List.length_map]
      have s12 := s1.trans s2
      refine ⟨.int k, rfl, .int k, .int k, rfl, .int _, _, rfl, iteF ?_⟩
      refine ⟨.int k, rfl, _, _, rfl, rfl, _, rfl, ite2 (fun a1 => ?_) (fun a1 => absurd (decide_eq_true (show (0 : Int) ≤ (k : Nat) by omega)) a1)⟩
      refine ⟨.ref b, rfl, b, xs, rfl, .inr (SqT.of hb), _, _, rfl, rfl, _, rfl, ite2 (fun a2 => ?_) (fun a2 => ?_)⟩
      · have a2 : ¬ (k < xs.length) := fun z => by
          rw [decide_eq_true (show ((k : Nat) : Int) < (xs.length : Int) by omega)] at a2
          cases a2
        exact q2 (none_of (List.getElem?_eq_none (by omega))) H2 s12
      · have a2 : k < xs.length := by
          have := of_decide_eq_true (notF a2)
          omega
        have hx2 : xs[k]? = some xs[k] := List.getElem?_eq_getElem a2
        obtain ⟨g', hg', tg'⟩ := txs.at hx2
        refine ⟨.ref b, rfl, .int k, rfl, b, xs, (k : Nat), xs[k], rfl, rfl, SqT.of hb, atI_nat hx2, ?_⟩
        exact ⟨_, _, _, g', rfl, s12, by rw [nxt, hg'], tg'⟩
    rintro σ H1 ⟨u, y3, y4, g, rfl, s1, hg, tu⟩
    unfold placeI at hg
    rw [List.length_map, List.length_map, List.take_length] at hg
    exact ⟨u, rfl, q1 g hg u H1 s1 tu⟩

end
end Gk

set_option Elab.async false
set_option linter.all false
set_option maxRecDepth 100000
set_option maxHeartbeats 1000000
set_option pp.maxSteps 1500
set_option pp.deepTerms false
namespace Gk
open PySem PySem.Spec PyProof.Rows L2
/-! ### l != [] of any list -/
namespace NeL
section
open PySem.W PySem.Calls HT
variable {X : Cx}
def rNeN (K : PySem.W.Frag) : R2 := fun x y H Q => ∃ a b xs, x = .ref a ∧ y = .ref b ∧ SqL K H a xs ∧ SqL K H b [] ∧ Q (.bl (!xs.isEmpty)) H
theorem op_neN (hu : X.A.units + 64 < cLine) : OpR X (compareOp .NotEq) (rNeN X.K) := by
  intro pins s σ H x y v u Q I rx ry h
  obtain ⟨a, b, xs, rfl, rfl, ha, hb, q⟩ := h
  cases rx
  cases ry
  obtain ⟨us, r1, t1, _⟩ := I.list ha
  obtain ⟨ws, r2, t2, _⟩ := I.list hb
  cases r2
  cases r1 with
  | nil => exact SeqAt.RcNeAt.lists (e := fun _ => true) t1.isList t2.isList rfl (by omega) (fun j h1 _ => absurd h1 (Nat.not_lt_zero _)) _ _ _ _ ⟨.bl false, H, I, rfl, q⟩
  | cons _ _ => exact SeqAt.RcNeAt.lists_lengths t1.isList t2.isList (by simp) (by omega) _ _ _ _ ⟨.bl true, H, I, rfl, q⟩
def rEqN (K : PySem.W.Frag) : R2 := fun x y H Q => ∃ a b xs, x = .ref a ∧ y = .ref b ∧ SqL K H a xs ∧ SqL K H b [] ∧ Q (.bl xs.isEmpty) H
theorem op_eqN (hu : X.A.units + 64 < cLine) : OpR X (compareOp .Eq) (rEqN X.K) := by
  intro pins s σ H x y v u Q I rx ry h
  obtain ⟨a, b, xs, rfl, rfl, ha, hb, q⟩ := h
  cases rx
  cases ry
  obtain ⟨us, r1, t1, _⟩ := I.list ha
  obtain ⟨ws, r2, t2, _⟩ := I.list hb
  cases r2
  cases r1 with
  | nil => exact SeqAt.RcAt.lists (e := fun _ => true) t1.isList t2.isList rfl (by omega) (fun j h1 _ => absurd h1 (Nat.not_lt_zero _)) _ _ _ _ ⟨.bl true, H, I, rfl, q⟩
  | cons _ _ => exact SeqAt.RcAt.lists_lengths t1.isList t2.isList (by simp) (by omega) _ _ _ _ ⟨.bl false, H, I, rfl, q⟩
end
end NeL

theorem for_enumT {K : PySem.W.Frag} {a : Addr} {xs : List V} {g : TG} {tb : TS} {D : Ends} {σ : L2.St} {H : Hp} (Pv : Nat → L2.St → Hp → Prop) (h0 : Pv 0 σ H) (hl : ∀ i σ H, i ≤ xs.length → Pv i σ H → SqT K H a xs)
    (hs : ∀ (i : Nat) (x : V) (T : Addr) (σ : L2.St) (H : Hp), xs[i]? = some x → H T = none → Pv i σ H → g (.ref T) σ (upd H T (.tup [.int (i : Nat), x])) fun σ2 H2 => tb { D with nx := Pv (i + 1), ct := Pv (i + 1), bk := D.nx } σ2 H2) (hd : ∀ σ H, Pv xs.length σ H → D.nx σ H) :
    ∃ W : Nat → Nat → L2.St → Hp → Prop, (∃ m, W 0 m σ H) ∧ ∀ i m σ H, W i m σ H →
      ((IteT K a).stop i H ∧ D.nx σ H) ∨ ((IteT K a).go i H ∧ ∃ N : L2.St → Hp → Prop, (∀ σ' H', N σ' H' → ∃ m', m' < m ∧ W (i + 1) m' σ' H') ∧ ∀ x H', (IteT K a).yld i H x H' → g x σ H' fun σ2 H2 => tb { D with nx := N, ct := N, bk := D.nx } σ2 H2) := by
  refine ⟨fun i m σ H => m = xs.length - i ∧ i ≤ xs.length ∧ Pv i σ H, ⟨xs.length, rfl, Nat.zero_le _, h0⟩, ?_⟩
  rintro i m σ H ⟨rfl, hi, p⟩
  have q := hl i σ H hi p
  by_cases hlt : i < xs.length
  · have hx : xs[i]? = some xs[i] := List.getElem?_eq_getElem hlt
    refine .inr ⟨⟨xs, xs[i], q, hx⟩, Pv (i + 1), fun σ' H' p' => ⟨xs.length - (i + 1), by omega, rfl, hlt, p'⟩, fun x H' y => ?_⟩
    obtain ⟨T, x1, rfl, nT, rfl, e1⟩ := y
    exact hs i x1 T σ H (e1 xs q) nT p
  · have e : i = xs.length := by omega
    subst e
    exact .inl ⟨⟨xs, q, rfl⟩, hd σ H p⟩

section
variable {P : Program} {w : World} {K : PySem.W.Frag} {mg : Str → Option Value} {base : Heap}
/-! ### the places of a form, by the law -/
def entD (e : List Nat × Fm) : PyData := .tuple [.tuple ((placeI e.1).map PyData.int), e.2.d]
theorem noL_ent (e : List Nat × Fm) : noL (entD e) = true := by
  show (noL (.tuple ((placeI e.1).map PyData.int)) && (noL e.2.d && true)) = true
  have h : noL (.tuple ((placeI e.1).map PyData.int)) = true := noL_row _
  rw [h, Fm.noL]
  rfl
theorem ent_inv {H : Hp} {v : V} {e : List Nat × Fm} (h : Tk H v (entD e)) : ∃ a pa hv, v = .ref a ∧ H a = some (.tup [.ref pa, hv]) ∧ H pa = some (.tup ((placeI e.1).map V.int)) ∧ Tk H hv e.2.d := by
  obtain ⟨a, xs, rfl, ha, t⟩ := h.tup_inv
  match xs, t with
  | [x, hv], .cons tx (.cons th .nil) =>
    obtain ⟨pa, ys, rfl, hpa, ty⟩ := tx.tup_inv
    have : ys = (placeI e.1).map V.int := ty.int_inv
    subst this
    exact ⟨a, pa, hv, rfl, ha, hpa, th⟩
theorem TkAll.split {H : Hp} : ∀ {ds es : List PyData} {vs : List V}, TkAll H vs (ds ++ es) → ∃ a b, vs = a ++ b ∧ TkAll H a ds ∧ TkAll H b es
  | [], es, vs, h => ⟨[], vs, rfl, .nil, h⟩
  | d :: r, es, vs, h => by
    match vs, h with
    | v :: vr, .cons hv hr =>
      obtain ⟨a, b, e, ha, hb⟩ := TkAll.split (ds := r) hr
      exact ⟨v :: a, b, by rw [e]; rfl, .cons hv ha, hb⟩
theorem none_of_s {H H' : Hp} {p : Addr} (s : Same H H') (n : H' p = none) : H p = none := by
  cases e : H p with
  | none => rfl
  | some o => rw [s _ _ e] at n; cases n
theorem ts_fr {F W : Addr} {H H' : Hp} {us ws : List V} (hF : H F = some (.lst us)) (hW : H W = some (.lst ws)) (fr : Fr F W H H') : Ts H H' := fun b xs e => fr b _ (ne_of e hF (by intro z; cases z)) (ne_of e hW (by intro z; cases z)) e
theorem noLs_ents (es : List (List Nat × Fm)) : noLs (es.map entD) = true := noLs_map noL_ent _
def sumE (es : List (List Nat × Fm)) : Nat := Fm.cnts (es.map (·.2))
theorem sumE_app (a b : List (List Nat × Fm)) : sumE (a ++ b) = sumE a + sumE b := by
  unfold sumE
  rw [List.map_append, Fm.cnts_app]
theorem sumE_len (a : List (List Nat × Fm)) : a.length ≤ sumE a := by
  have := Fm.cnts_len (a.map (·.2))
  rw [List.length_map] at this
  exact this
def sp_places (K : PySem.W.Frag) : Sp := fun vs H Q _ => ∃ (v : V) (f : Fm) (m : Nat), vs = [v] ∧ Tk H v f.d ∧ f.ok m = true ∧ f.cnt ≤ 1000 ∧ f.dep ≤ 50 ∧ ∀ H' a us (es : List (List Nat × Fm)), Same H H' → H' a = some (.lst us) → TkAll H' us (es.map entD) → (∀ e ∈ es, f.at e.1 = some e.2) → Q (.ref a) H'
theorem ok_places (T : Tx w K mg) : FnOk P w K mg base CX0 2 T.f_places T.fd_places ["_law_form_here"] (sp_places K) := by
  refine T.F_places.ok sc_places (fun vs H Q E h => ?_) (fun cdv A outer s H vs Q E hr h => ?_)
  · obtain ⟨v, f, m, rfl, _⟩ := h
    rfl
  · obtain ⟨v, f, m, rfl, tk, ok, cf, df, q⟩ := h
    refine ⟨_, (pss_cons (ps_set (i := 1) sc_places.nd rfl (by first | exact .inl rfl | exact .inr rfl) (pe_lst pa_nil)) (pss_cons (ps_set (i := 2) sc_places.nd rfl (by first | exact .inl rfl | exact .inr rfl) (pe_lst (pa_cons (pe_tup (pa_cons (pe_tup pa_nil) (pa_cons (pv 0) pa_nil))) pa_nil))) (pss_cons (ps_while PassesOwn.never (pt_cmpR (NeL.op_neN hr.units) (pv 2) (pe_lst pa_nil) (nomark _)) (pss_cons (ps_asg (pe_bm0 PySem.F.plainAttrs_list PySem.F.slot_list_pop PySem.F.type_list_pop mt_pop (pv 2)) (pg_tup rfl (pgs_cons (pg_name (i := 3) sc_places.nd rfl (by first | exact .inl rfl | exact .inr rfl)) (pgs_cons (pg_name (i := 4) sc_places.nd rfl (by first | exact .inl rfl | exact .inr rfl)) pgs_nil)))) (pss_cons (ps_expr (pe_bm PySem.F.plainAttrs_list PySem.F.slot_list_append PySem.F.type_list_append mt_append (pv 1) (pa_cons (pe_tup (pa_cons (pv 3) (pa_cons (pv 4) pa_nil))) pa_nil))) (pss_one (ps_for PassesOwn.never rfl (pi_enumT (by rfl) T.m_enumerate (pa_cons (pe_call (ok_inner T) (hr.mono (by decide)) (by rfl) T.g_inner T.F_inner.kp T.b_inner .nil pass0 (pa_cons (pv 4) pa_nil)) pa_nil)) (pg_tup rfl (pgs_cons (pg_name (i := 5) sc_places.nd rfl (by first | exact .inl rfl | exact .inr rfl)) (pgs_cons (pg_name (i := 6) sc_places.nd rfl (by first | exact .inl rfl | exact .inr rfl)) pgs_nil))) (pss_one (ps_expr (pe_bm PySem.F.plainAttrs_list PySem.F.slot_list_append PySem.F.type_list_append mt_append (pv 2) (pa_cons (pe_tup (pa_cons (pe_op op_catA (pv 3) (pe_tup (pa_cons (pv 5) pa_nil))) (pa_cons (pv 6) pa_nil))) pa_nil))))))))) (pss_one (ps_ret (pv 1)))))), ?_⟩
    refine ⟨Nat.zero_le _, fun F nF => ?_⟩
    have s1 := same_upd (o := (HO.lst [])) nF
    have h1 : upd H F (HO.lst []) F = some (HO.lst []) := upd_same
    generalize upd H F (HO.lst []) = H1 at s1 h1 ⊢
    refine ⟨Nat.zero_le _, fun t0 nt0 => ?_⟩
    have s2 := same_upd (o := (HO.tup [])) nt0
    have h2 : upd H1 t0 (HO.tup []) t0 = some (HO.tup []) := upd_same
    generalize upd H1 t0 (HO.tup []) = H2 at s2 h2 ⊢
    refine ⟨v, rfl, sl2, fun e0 ne0 => ?_⟩
    have s3 := same_upd (o := (HO.tup [V.ref t0, v])) ne0
    have h3 : upd H2 e0 (HO.tup [V.ref t0, v]) e0 = some (HO.tup [V.ref t0, v]) := upd_same
    generalize upd H2 e0 (HO.tup [V.ref t0, v]) = H3 at s3 h3 ⊢
    refine ⟨sl1, fun W nW => ?_⟩
    have nFW : F ≠ W := ne_of_none (s3 _ _ (s2 _ _ h1)) nW
    have s13 := (s1.trans s2).trans s3
    have nW0 : H W = none := none_of_s s13 nW
    have s4 := same_upd (o := (HO.lst [V.ref e0])) nW
    have h4 : upd H3 W (HO.lst [V.ref e0]) W = some (HO.lst [V.ref e0]) := upd_same
    generalize upd H3 W (HO.lst [V.ref e0]) = H4 at s4 h4 ⊢
    have te : Tk H4 (.ref e0) (entD ([], f)) := .tup (s4 _ _ h3) (.cons (.tup (s4 _ _ (s3 _ _ h2)) .nil) (.cons (tk.same (s13.trans s4)) .nil))
    refine ⟨fun N σ H' => ∃ y3 y4 y5 y6 us ws, ∃ es wes : List (List Nat × Fm), σ = [some v, some (.ref F), some (.ref W), y3, y4, y5, y6] ∧ Fr F W H H' ∧ H' F = some (.lst us) ∧ H' W = some (.lst ws) ∧ TkAll H' us (es.map entD) ∧ TkAll H' ws (wes.map entD) ∧ (∀ e ∈ es, f.at e.1 = some e.2) ∧ (∀ e ∈ wes, f.at e.1 = some e.2) ∧ sumE wes = N ∧ es.length + N ≤ f.cnt,
      ⟨f.cnt + 0, _, _, _, _, [], [.ref e0], [], [([], f)], rfl, Fr.of (s13.trans s4), s4 _ _ (s3 _ _ (s2 _ _ h1)), h4, .nil, .cons te .nil, fun e he => by (cases he), fun e he => by rw [List.mem_singleton.mp he]; rfl, rfl, by show 0 + (f.cnt + 0) ≤ _; omega⟩, ?_⟩
    rintro N σ H5 ⟨y3, y4, y5, y6, us, ws, es, wes, rfl, fr5, hF, hW, tus, tws, eat, wat, sN, le⟩
    have lus : us.length = es.length := by rw [tus.length, List.length_map]
    have lws : ws.length = wes.length := by rw [tws.length, List.length_map]
    refine ⟨.ref W, rfl, Nat.zero_le _, fun p0 n0 => ⟨W, p0, ws, rfl, rfl, SqL.of (same_upd n0 _ _ hW), SqL.of upd_same, _, rfl, ?_⟩⟩
    have s6 := same_upd (o := (HO.lst [])) n0
    have h6 : upd H5 p0 (HO.lst []) p0 = some (HO.lst []) := upd_same
    generalize upd H5 p0 (HO.lst []) = H6 at s6 h6 ⊢
    have hF6 := s6 _ _ hF
    have hW6 := s6 _ _ hW
    have fr6 := fr5.trans (Fr.of s6)
    by_cases em : wes = []
    · subst em
      have : ws = [] := List.eq_nil_of_length_eq_zero lws
      subst this
      refine iteF ⟨.ref F, rfl, q H6 F us es (fun b o e => fr6 b o (ne_of_none e nF) (ne_of_none e nW0) e) hF6 (tus.same s6) eat⟩
    obtain ⟨wr, e1, rfl⟩ : ∃ wr e1, wes = wr ++ [e1] := ⟨wes.dropLast, wes.getLast em, (List.dropLast_concat_getLast em).symm⟩
    rw [List.map_append] at tws
    obtain ⟨xr, xl, rfl, txr, txl⟩ := tws.split
    obtain ⟨u, rfl, tu⟩ : ∃ u, xl = [u] ∧ Tk H5 u (entD e1) := by
      match xl, txl with
      | [u], .cons tu .nil => exact ⟨u, rfl, tu⟩
    have ne : (!(xr ++ [u]).isEmpty) = true := by cases xr <;> rfl
    rw [ne]
    obtain ⟨ks, g⟩ := e1
    have hat : f.at ks = some g := wat (ks, g) (List.mem_append_right _ List.mem_cons_self)
    have okg := Fm.at_ok ok hat
    have dg := Fm.at_dep hat
    rw [sumE_app] at sN
    have sg : sumE [(ks, g)] = 1 + Fm.cnts g.inner := by
      show g.cnt + 0 = _
      rw [Fm.cnt_eq g]
      rfl
    rw [sg] at sN
    have tu6 := tu.same s6
    obtain ⟨a, pa, hv, rfl, ha, hpa, thv⟩ := ent_inv tu6
    refine iteT ⟨fun σ' H' => ∃ N', N' < N ∧ ∃ y3 y4 y5 y6 us ws, ∃ es wes : List (List Nat × Fm), σ' = [some v, some (.ref F), some (.ref W), y3, y4, y5, y6] ∧ Fr F W H H' ∧ H' F = some (.lst us) ∧ H' W = some (.lst ws) ∧ TkAll H' us (es.map entD) ∧ TkAll H' ws (wes.map entD) ∧ (∀ e ∈ es, f.at e.1 = some e.2) ∧ (∀ e ∈ wes, f.at e.1 = some e.2) ∧ sumE wes = N' ∧ es.length + N' ≤ f.cnt, fun σ' H' h => h, ?_⟩
    refine ⟨.ref W, rfl, .inl ⟨rfl, _, SqL.of hW6⟩, W, xr ++ [.ref a], .ref a, rfl, rfl, hW6, by rw [List.length_append]; show (xr ++ [V.ref a])[xr.length + 1 - 1]? = _; rw [Nat.add_sub_cancel, List.getElem?_append_right (Nat.le_refl _), Nat.sub_self]; rfl, ?_⟩
    rw [List.dropLast_concat]
    have frW := fr6.trans (Fr.l (d := F) (l := W) (H := H6) (o := HO.lst xr))
    have ts7 : Ts H6 (upd H6 W (.lst xr)) := Ts.set hW6
    have hW7 : upd H6 W (.lst xr) W = some (.lst xr) := upd_same
    have hF7 : upd H6 W (.lst xr) F = some (.lst us) := by rw [upd_ne nFW]; exact hF6
    have tus7 := (tus.same s6).ts ts7 (noLs_ents es)
    have txr7 := (txr.same s6).ts ts7 (noLs_ents wr)
    have ha7 := ts7 _ _ ha
    have hpa7 := ts7 _ _ hpa
    have thv7 := thv.ts ts7 (Fm.noL g)
    generalize upd H6 W (.lst xr) = H7 at frW ts7 hW7 hF7 tus7 txr7 ha7 hpa7 thv7 ⊢
    refine ⟨a, _, rfl, SqT.of ha7, rfl, _, _, rfl, _, _, rfl, rfl, ?_⟩
    have bs := sumE_len wr
    refine ⟨.ref F, rfl, .inl ⟨rfl, _, SqL.of hF7⟩, .ref pa, rfl, hv, rfl, sl2, fun e1 ne1 => ?_⟩
    have s8 := same_upd (o := (HO.tup [V.ref pa, hv])) ne1
    have h8 : upd H7 e1 (HO.tup [V.ref pa, hv]) e1 = some (HO.tup [V.ref pa, hv]) := upd_same
    generalize upd H7 e1 (HO.tup [V.ref pa, hv]) = H8 at s8 h8 ⊢
    have hF8 := s8 _ _ hF7
    have hW8 := s8 _ _ hW7
    refine ⟨F, us, .ref e1, rfl, rfl, hF8, Nat.lt_of_le_of_lt (show us.length ≤ 1000 by omega) (by decide), ?_⟩
    have ts9 : Ts H8 (upd H8 F (.lst (us ++ [.ref e1]))) := Ts.set hF8
    have fr9 := (frW.trans (Fr.of s8)).trans (Fr.d (d := F) (l := W) (H := H8) (o := HO.lst (us ++ [.ref e1])))
    have hF9 : upd H8 F (.lst (us ++ [.ref e1])) F = some (.lst (us ++ [.ref e1])) := upd_same
    have hW9 : upd H8 F (.lst (us ++ [.ref e1])) W = some (.lst xr) := by rw [upd_ne nFW.symm]; exact hW8
    have te1 : Tk H8 (.ref e1) (entD (ks, g)) := .tup h8 (.cons (.tup (s8 _ _ hpa7) (TkAll.ints _)) (.cons (thv7.same s8) .nil))
    have tus9 := ((tus7.same s8).append (.cons te1 .nil)).ts ts9 (by
      have : noLs ((es ++ [(ks, g)]).map entD) = true := noLs_ents _
      rw [List.map_append] at this
      exact this)
    have txr9 := (txr7.same s8).ts ts9 (noLs_ents wr)
    have thv9 := (thv7.same s8).ts ts9 (Fm.noL g)
    have hpa9 := ts9 _ _ (s8 _ _ hpa7)
    generalize upd H8 F (.lst (us ++ [.ref e1])) = H9 at ts9 fr9 hF9 hW9 tus9 txr9 thv9 hpa9 ⊢
    refine ⟨hv, rfl, hv, g, rfl, thv9, fun H10 b xs s10 hb txs => ⟨b, xs, rfl, SqT.of hb, ?_⟩⟩
    have lxs : xs.length = g.inner.length := by rw [txs.length, List.length_map]
    have cl := Fm.cnts_len g.inner
    refine for_enumT (K := K) (a := b) (xs := xs) (fun i σ H' => ∃ y5 y6 ws, ∃ wes : List (List Nat × Fm), σ = [some v, some (.ref F), some (.ref W), some (.ref pa), some hv, y5, y6] ∧ Fr F W H10 H' ∧ H' F = some (.lst (us ++ [.ref e1])) ∧ H' W = some (.lst ws) ∧ TkAll H' ws (wes.map entD) ∧ (∀ e ∈ wes, f.at e.1 = some e.2) ∧ sumE wes = sumE wr + Fm.cnts (g.inner.take i))
      ⟨_, _, xr, wr, rfl, Fr.refl, s10 _ _ hF9, s10 _ _ hW9, txr9.same s10, fun e he => wat e (List.mem_append_left _ he), rfl⟩ (fun i σ H' _ ⟨_, _, _, _, _, fr, _⟩ => SqT.of (fr _ _ (ne_of hb (s10 _ _ hF9) (by intro z; cases z)) (ne_of hb (s10 _ _ hW9) (by intro z; cases z)) hb)) ?_ ?_
    · rintro i x P σ H11 hx nP ⟨y5, y6, ws, wes2, rfl, fr11, hF11, hW11, tws11, wat2, sm2⟩
      obtain ⟨i1, hi1, tx⟩ := txs.at hx
      have ts11 := ts_fr (s10 _ _ hF9) (s10 _ _ hW9) fr11
      have hi := (List.getElem?_eq_some_iff.mp hi1).1
      have ct : Fm.cnts (g.inner.take (i + 1)) = Fm.cnts (g.inner.take i) + i1.cnt := by
        rw [List.take_add_one, hi1, Fm.cnts_app]
        show _ + (i1.cnt + 0) = _
        rfl
      have ctle : Fm.cnts (g.inner.take (i + 1)) ≤ Fm.cnts g.inner := by
        have e := List.take_append_drop (i + 1) g.inner
        rw [← e, Fm.cnts_app, e]
        omega
      have s12 := same_upd (o := (HO.tup [V.int (i : Nat), x])) nP
      have h12 : upd H11 P (HO.tup [V.int (i : Nat), x]) P = some (HO.tup [V.int (i : Nat), x]) := upd_same
      generalize upd H11 P (HO.tup [V.int (i : Nat), x]) = H12 at s12 h12 ⊢
      have hF12 := s12 _ _ hF11
      have hW12 := s12 _ _ hW11
      have tx12 := (tx.ts ts11 (Fm.noL i1)).same s12
      have hpa12 := s12 _ _ (ts11 _ _ (s10 _ _ hpa9))
      refine ⟨P, _, rfl, SqT.of h12, rfl, _, _, rfl, _, _, rfl, rfl, ?_⟩
      refine ⟨.ref W, rfl, .inl ⟨rfl, _, SqL.of hW12⟩, .ref pa, rfl, .int (i : Nat), rfl, sl1, fun t nt => ?_⟩
      have s13' := same_upd (o := (HO.tup [V.int (i : Nat)])) nt
      have h13 : upd H12 t (HO.tup [V.int (i : Nat)]) t = some (HO.tup [V.int (i : Nat)]) := upd_same
      generalize upd H12 t (HO.tup [V.int (i : Nat)]) = H13 at s13' h13 ⊢
      refine catA (s13' _ _ hpa12) h13 ?_ fun c H14 s14 hc => ?_
      · unfold placeI
        rw [List.length_map, List.length_map]
        exact Nat.le_trans (show ks.length + 1 ≤ 1000 by omega) (by decide)
      refine ⟨x, rfl, sl2, fun e2 ne2 => ?_⟩
      have s15 := same_upd (o := (HO.tup [V.ref c, x])) ne2
      have h15 : upd H14 e2 (HO.tup [V.ref c, x]) e2 = some (HO.tup [V.ref c, x]) := upd_same
      generalize upd H14 e2 (HO.tup [V.ref c, x]) = H15 at s15 h15 ⊢
      have sA := (s13'.trans s14).trans s15
      have hW15 := sA _ _ hW12
      have lws2 : ws.length = wes2.length := by rw [tws11.length, List.length_map]
      have b2 := sumE_len wes2
      refine ⟨W, ws, .ref e2, rfl, rfl, hW15, Nat.lt_of_le_of_lt (show ws.length ≤ 1000 by omega) (by decide), ?_⟩
      have ts16 := Ts.set (ys := ws ++ [V.ref e2]) hW15
      have te2 : Tk H15 (.ref e2) (entD (ks ++ [i], i1)) := by
        refine .tup h15 (.cons (.tup (s15 _ _ hc) ?_) (.cons (tx12.same sA) .nil))
        have e3 : (placeI ks).map V.int ++ [V.int (i : Nat)] = (placeI (ks ++ [i])).map V.int := by
          unfold placeI
          rw [List.map_append, List.map_append]
          rfl
        rw [e3]
        exact TkAll.ints _
      refine ⟨_, _, ws ++ [.ref e2], wes2 ++ [(ks ++ [i], i1)], rfl, ((fr11.trans (Fr.of (s12.trans sA))).trans Fr.l), by rw [upd_ne nFW]; exact sA _ _ hF12, upd_same, ?_, fun e he => ?_, ?_⟩
      · have nol : noLs ((wes2 ++ [(ks ++ [i], i1)]).map entD) = true := noLs_ents _
        have := (((tws11.same s12).same sA).append (.cons te2 .nil))
        rw [show wes2.map entD ++ [entD (ks ++ [i], i1)] = (wes2 ++ [(ks ++ [i], i1)]).map entD by rw [List.map_append]; rfl] at this
        exact this.ts ts16 nol
      · rcases List.mem_append.mp he with z | z
        · exact wat2 e z
        · rw [List.mem_singleton.mp z]
          show f.at (ks ++ [i]) = some i1
          rw [Fm.at_app, hat]
          exact (Fm.at_one g i).trans hi1
      · rw [sumE_app, sm2, ct]
        show _ + (i1.cnt + 0) = _
        omega
    · rintro σ H11 ⟨y5, y6, ws, wes2, rfl, fr11, hF11, hW11, tws11, wat2, sm2⟩
      rw [lxs, List.take_length] at sm2
      have ts11 := ts_fr (s10 _ _ hF9) (s10 _ _ hW9) fr11
      have tusF : TkAll H11 (us ++ [.ref e1]) ((es ++ [(ks, g)]).map entD) := by
        rw [List.map_append]
        refine ((tus9.same s10).ts ts11 ?_)
        have : noLs ((es ++ [(ks, g)]).map entD) = true := noLs_ents _
        rw [List.map_append] at this
        exact this
      refine ⟨sumE wes2, by omega, _, _, _, _, us ++ [.ref e1], ws, es ++ [(ks, g)], wes2, rfl, (fr9.trans (Fr.of s10)).trans fr11, hF11, hW11, tusF, tws11, fun e he => ?_, wat2, rfl, by rw [List.length_append]; simp only [List.length_singleton]; omega⟩
      rcases List.mem_append.mp he with z | z
      · exact eat e z
      · rw [List.mem_singleton.mp z]; exact hat

end
end Gk

set_option Elab.async false
set_option linter.all false
set_option maxRecDepth 100000
set_option maxHeartbeats 1000000
set_option pp.maxSteps 1500
set_option pp.deepTerms false
namespace Gk
open PySem PySem.Spec PyProof.Rows L2
section
variable {P : Program} {w : World} {K : PySem.W.Frag} {mg : Str → Option Value} {base : Heap}
/-! ### places, told rightly -/
mutual
theorem Fm.lay : ∀ f : Fm, PyData.canLay0 f.d = true
  | .st b => by cases b <;> decide +kernel
  | .inp i => by
    show (PyData.canLay0 (.str wIn) && (PyData.canLay0 (.int i) && true)) = true
    have h : PyData.canLay0 (.str wIn) = true := by decide +kernel
    rw [h]
    rfl
  | .no f => by
    show (PyData.canLay0 (.str wNot) && (PyData.canLay0 f.d && true)) = true
    have h : PyData.canLay0 (.str wNot) = true := by decide +kernel
    rw [h, Fm.lay f]
    rfl
  | .op c fs => by
    show (PyData.canLay0 (.str (wOp c)) && (PyData.canLayAll0 (Fm.dl fs) && true)) = true
    have h : PyData.canLay0 (.str (wOp c)) = true := by cases c <;> decide +kernel
    rw [h, Fm.lays fs]
    rfl
theorem Fm.lays : ∀ fs : List Fm, PyData.canLayAll0 (Fm.dl fs) = true
  | [] => rfl
  | f :: r => by
    show (PyData.canLay0 f.d && PyData.canLayAll0 (Fm.dl r)) = true
    rw [Fm.lay f, Fm.lays r]
    rfl
end
mutual
theorem Fm.deep : ∀ f : Fm, f.d.depth ≤ 2 * f.dep
  | .st b => by show max 0 0 + 1 ≤ 2 * 1; decide
  | .inp i => by show max 0 (max 0 0) + 1 ≤ 2 * 1; decide
  | .no f => by
    have := Fm.deep f
    show max 0 (max f.d.depth 0) + 1 ≤ 2 * (f.dep + 1)
    omega
  | .op c fs => by
    have := Fm.deeps fs
    show max 0 (max (PyData.depthAll (Fm.dl fs) + 1) 0) + 1 ≤ 2 * (Fm.deps fs + 1)
    omega
theorem Fm.deeps : ∀ fs : List Fm, PyData.depthAll (Fm.dl fs) ≤ 2 * Fm.deps fs
  | [] => Nat.le_refl _
  | f :: r => by
    have := Fm.deep f
    have := Fm.deeps r
    show max f.d.depth (PyData.depthAll (Fm.dl r)) ≤ 2 * max f.dep (Fm.deps r)
    omega
end
theorem Fm.shaped {f : Fm} (h : f.dep ≤ 30) : SeqAt.shaped f.d = true := by
  unfold SeqAt.shaped
  have := Fm.deep f
  rw [Fm.lay, Bool.true_and]
  exact decide_eq_true (by omega)
def sp_places_right (K : PySem.W.Frag) : Sp := fun vs H Q _ => ∃ (v : V) (f : Fm) (m : Nat), vs = [v] ∧ Tk H v f.d ∧ f.ok m = true ∧ f.cnt ≤ 1000 ∧ f.dep ≤ 30 ∧ ∀ H', Same H H' → Q (.bl true) H'
theorem ok_places_right (T : Tx w K mg) : FnOk P w K mg base CX0 3 T.f_places_right T.fd_places_right ["_law_form_here"] (sp_places_right K) := by
  refine T.F_places_right.ok sc_places_right (fun vs H Q E h => ?_) (fun cdv A outer s H vs Q E hr h => ?_)
  · obtain ⟨v, f, m, rfl, _⟩ := h
    rfl
  · obtain ⟨v, f, m, rfl, tk, ok, cf, df, q⟩ := h
    refine ⟨_, (pss_cons (ps_for PassesOwn.never rfl (pi_list (pe_call (ok_places T) (hr.mono (by decide)) (by rfl) T.g_places T.F_places.kp T.b_places .nil pass0 (pa_cons (pv 0) pa_nil))) (pg_tup rfl (pgs_cons (pg_name (i := 1) sc_places_right.nd rfl (by first | exact .inl rfl | exact .inr rfl)) (pgs_cons (pg_name (i := 2) sc_places_right.nd rfl (by first | exact .inl rfl | exact .inr rfl)) pgs_nil))) (pss_cons (ps_set (i := 3) sc_places_right.nd rfl (by first | exact .inl rfl | exact .inr rfl) (pe_callB call_len_seq (by rfl) T.m_len PySem.boot_len (pa_cons (pe_call (ok_inner T) (hr.mono (by decide)) (by rfl) T.g_inner T.F_inner.kp T.b_inner .nil pass0 (pa_cons (pv 2) pa_nil)) pa_nil))) (pss_cons (ps_if (pw_or (pt_cmpR (op_neD hr.units) (pe_call (ok_form_at T) (hr.mono (by decide)) (by rfl) T.g_form_at T.F_form_at.kp T.b_form_at .nil pass0 (pa_cons (pv 0) (pa_cons (pv 1) pa_nil))) (pv 2) (nomark _)) (pw_or1 (pt_cmpR op_notN (pe_call (ok_form_at T) (hr.mono (by decide)) (by rfl) T.g_form_at T.F_form_at.kp T.b_form_at .nil pass0 (pa_cons (pv 0) (pa_cons (pe_op op_catA (pv 1) (pe_tup (pa_cons (pv 3) pa_nil))) pa_nil))) pe_non (nomark _)))).pt (pss_one (ps_ret pe_bl)) pss_nil) (pss_one (ps_if (pt_cmpR op_notN (pe_call (ok_form_at T) (hr.mono (by decide)) (by rfl) T.g_form_at T.F_form_at.kp T.b_form_at .nil pass0 (pa_cons (pv 0) (pa_cons (pe_op op_catA (pv 1) (pe_tup (pa_cons (pe_op op_add (pv 3) pe_int) (pa_cons pe_int pa_nil)))) pa_nil))) pe_non (nomark _)) (pss_one (ps_ret pe_bl)) pss_nil))))) (pss_one (ps_ret pe_bl))), ?_⟩
    refine ⟨v, rfl, v, f, m, rfl, tk, ok, cf, by omega, fun H1 a us es s1 ha tus eat => ⟨a, rfl, ⟨_, SqL.of ha⟩, ?_⟩⟩
    refine for_list (K := K) (a := a) (xs := us) (fun i σ H' => ∃ y1 y2 y3, σ = [some v, y1, y2, y3] ∧ Same H1 H') ⟨_, _, _, rfl, Same.refl _⟩ (fun i σ H' _ ⟨_, _, _, _, s⟩ => SqL.of (s _ _ ha)) ?_ ?_
    · rintro i x σ H2 hx ⟨y1, y2, y3, rfl, s2⟩
      obtain ⟨e, he, tx⟩ := tus.at hx
      obtain ⟨ks, g⟩ := e
      have hat : f.at ks = some g := eat (ks, g) (List.mem_of_getElem? he)
      have dg := Fm.at_dep hat
      obtain ⟨b, pa, hv, rfl, hb, hpa, thv⟩ := ent_inv (tx.same s2)
      have tk2 := (tk.same s1).same s2
      refine ⟨b, _, rfl, SqT.of hb, rfl, _, _, rfl, _, _, rfl, rfl, ?_⟩
      refine ⟨hv, rfl, hv, g, rfl, thv, fun H3 c xs s3 hc txs => ⟨c, xs, rfl, .inr (SqT.of hc), ?_⟩⟩
      have lxs : xs.length = g.inner.length := by rw [txs.length, List.length_map]
      rw [lxs]
      have tk3 := tk2.same s3
      refine ⟨v, rfl, .ref pa, rfl, v, f, pa, ks, rfl, tk3, s3 _ _ hpa, fun g' hg' u H4 s4 tu => ?_, fun z => by rw [hat] at z; cases z⟩
      cases Option.some.inj (hat.symm.trans hg')
      have thv4 := (thv.same s3).same s4
      refine ⟨hv, rfl, ne_same tu.dp thv4.dp (Fm.shaped (by omega)) ⟨_, rfl, iteF ?_⟩⟩
      have hpa4 := s4 _ _ (s3 _ _ hpa)
      have lp : (placeI ks).length ≤ 30 := by unfold placeI; rw [List.length_map]; omega
      refine ⟨v, rfl, .ref pa, rfl, .int (g.inner.length : Nat), rfl, sl1, fun t nt => ?_⟩
      have s5 := same_upd (o := (HO.tup [V.int (g.inner.length : Nat)])) nt
      have h5 : upd H4 t (HO.tup [V.int (g.inner.length : Nat)]) t = some (HO.tup [V.int (g.inner.length : Nat)]) := upd_same
      generalize upd H4 t (HO.tup [V.int (g.inner.length : Nat)]) = H5 at s5 h5 ⊢
      refine catA (s5 _ _ hpa4) h5 (by rw [List.length_map]; exact Nat.le_trans (show (placeI ks).length + 1 ≤ 1000 by omega) (by decide)) fun p H6 s6 hp6 => ?_
      have s46 := s5.trans s6
      have tk6 := (tk3.same s4).same s46
      have n1 : f.at (ks ++ [g.inner.length]) = none := by
        rw [Fm.at_app, hat]
        exact (Fm.at_one g _).trans (List.getElem?_eq_none (Nat.le_refl _))
      have n2 : f.at (ks ++ [g.inner.length + 4, 0]) = none := by
        rw [Fm.at_app, hat]
        show (match g.inner[g.inner.length + 4]? with
          | some i => i.at [0]
          | none => none) = none
        rw [List.getElem?_eq_none (by omega)]
      refine ⟨v, f, p, ks ++ [g.inner.length], rfl, tk6, ?_, (fun g' z => by rw [n1] at z; cases z), fun _ H7 s7 => ?_⟩
      · rw [hp6]
        unfold placeI
        rw [List.map_append, List.map_append]
        rfl
      refine ⟨rfl, _, rfl, iteF ?_⟩
      have hpa7 := s7 _ _ (s46 _ _ hpa4)
      have tk7 := tk6.same s7
      refine ⟨v, rfl, .ref pa, rfl, .int (g.inner.length : Nat), rfl, _, _, rfl, rfl, sl2, fun t2 nt2 => ?_⟩
      have s8 := same_upd (o := HO.tup [V.int (((g.inner.length + 4 : Nat)) : Int), V.int ((0 : Nat) : Int)]) nt2
      refine catA (s8 _ _ hpa7) upd_same (by rw [List.length_map]; exact Nat.le_trans (show (placeI ks).length + 2 ≤ 1000 by omega) (by decide)) fun p2 H9 s9 hp9 => ?_
      refine ⟨v, f, p2, ks ++ [g.inner.length + 4, 0], rfl, (tk7.same s8).same s9, ?_, (fun g' z => by rw [n2] at z; cases z), fun _ H10 s10 => ?_⟩
      · rw [hp9]
        unfold placeI
        rw [List.map_append, List.map_append]
        rfl
      refine ⟨rfl, _, rfl, iteF ?_⟩
      exact ⟨_, _, _, rfl, (((((s2.trans s3).trans s4).trans s46).trans s7).trans s8).trans (s9.trans s10)⟩
    rintro σ H2 ⟨y1, y2, y3, rfl, s2⟩
    exact q H2 (s1.trans s2)

end
end Gk

set_option Elab.async false
set_option linter.all false
set_option maxRecDepth 100000
set_option maxHeartbeats 1000000
set_option pp.maxSteps 1500
set_option pp.deepTerms false
namespace Gk
open PySem PySem.Spec PyProof.Rows L2
section
variable {P : Program} {w : World} {K : PySem.W.Frag} {mg : Str → Option Value} {base : Heap}
/-! ### rows drawn -/
theorem Row01.snoc {r : List Int} {v : Int} (h : Row01 r) (hv : v = 0 ∨ v = 1) : Row01 (r ++ [v]) := fun x hx => by
  rcases List.mem_append.mp hx with z | z
  · exact h x z
  · rw [List.mem_singleton.mp z]; exact hv
def sp_rows (K : PySem.W.Frag) : Sp := fun vs H Q _ => ∃ (d l : Addr) (n : Int) (m : Nat), vs = [.ref d, .int m] ∧ DeckC H d l n ∧ n < 100000000 ∧ 1 ≤ m ∧ m ≤ 6 ∧
  ∀ (r : Addr) (H' : Hp) (xs : List V) (rows : List (List Int)), DeckC H' d l (n + 60) → Fr d l H H' → H' r = some (.lst xs) → TkAll H' xs (rows.map rowD) → (∀ x ∈ rows, x.length = m ∧ Row01 x) → rows.length ≤ 8 → Q (.ref r) H'
theorem ok_rows (T : Tx w K mg) : FnOk P w K mg base CX0 3 T.f_rows T.fd_rows ["_law_deck_here", "_law_many"] (sp_rows K) := by
  refine T.F_rows.ok sc_rows (fun vs H Q E h => ?_) (fun cdv A outer s H vs Q E hr h => ?_)
  · obtain ⟨d, l, n, m, rfl, _⟩ := h
    rfl
  · obtain ⟨d, l, n, m, rfl, D, hn, m1, m6, q⟩ := h
    refine ⟨_, (pss_cons (ps_if (pt_cmpR op_gt (pv 1) pe_int (nomark _)) (pss_one (ps_ret (pe_lc (own := [("_law_turn", 4)]) (by rfl) sc_rows.nd (pi_range1 (by rfl) T.m_range (pa_cons pe_int pa_nil)) (blkOk_by (own := [("_law_turn", 4)]) (N := ["_law_deck_here", "_law_many", "_law_found", "_law_k", "_law_turn", "_law_row"]) (sc := defScope s_rows) (by decide +kernel)) (fun _ _ _ _ _ => (pg_name (i := 4) sc_rows.nd rfl (by first | exact .inl rfl | exact .inr rfl))) (fun _ _ _ _ _ => pts_nil) (fun _ _ _ _ _ => (pe_callTy (show CallR _ _ (rTupK K) from call_tuple_of) (by rfl) T.m_tuple (by decide +kernel) (pa_cons (pe_lc (own := [("_law_k", 3)]) (by rfl) sc_rows.nd (pi_range1 (by rfl) T.m_range (pa_cons (pv 1) pa_nil)) (blkOk_by (own := [("_law_k", 3)]) (N := ["_law_deck_here", "_law_many", "_law_found", "_law_k", "_law_turn", "_law_row"]) (sc := { kind := PySem.ScopeKind.function, names := [ (PySem.Str.ofString ".0", PySem.NameKind.local), (PySem.Str.ofString "_law_turn", PySem.NameKind.local), (PySem.Str.ofString "tuple", PySem.NameKind.globalImplicit), (PySem.Str.ofString "range", PySem.NameKind.globalImplicit), (PySem.Str.ofString "_law_deck_here", PySem.NameKind.cell), (PySem.Str.ofString "_law_many", PySem.NameKind.cell)], isGenerator := false, isCoroutine := false, more := [] : PySem.Scope }) (by decide +kernel)) (fun _ _ _ _ _ => (pg_name (i := 3) sc_rows.nd rfl (by first | exact .inl rfl | exact .inr rfl))) (fun _ _ _ _ _ => pts_nil) (fun _ _ _ _ _ => (pe_call (ok_take T) (hr.mono (by decide)) (by rfl) T.g_take T.F_take.kp T.b_take .nil pass0 (pa_cons (pv 0) (pa_cons pe_int pa_nil))))) pa_nil)))))) pss_nil) (pss_cons (ps_set (i := 2) sc_rows.nd rfl (by first | exact .inl rfl | exact .inr rfl) (pe_lst (pa_cons (pe_tup pa_nil) pa_nil))) (pss_cons (ps_for PassesOwn.never rfl (pi_range1 (by rfl) T.m_range (pa_cons (pv 1) pa_nil)) (pg_name (i := 3) sc_rows.nd rfl (by first | exact .inl rfl | exact .inr rfl)) (pss_one (ps_set (i := 2) sc_rows.nd rfl (by first | exact .inl rfl | exact .inr rfl) (pe_op op_cat (pe_lc (own := [("_law_row", 5)]) (by rfl) sc_rows.nd (pi_list (pv 2)) (blkOk_by (own := [("_law_row", 5)]) (N := ["_law_deck_here", "_law_many", "_law_found", "_law_k", "_law_turn", "_law_row"]) (sc := defScope s_rows) (by decide +kernel)) (fun _ _ _ _ _ => (pg_name (i := 5) sc_rows.nd rfl (by first | exact .inl rfl | exact .inr rfl))) (fun _ _ _ _ _ => pts_nil) (fun _ _ _ _ _ => (pe_op (show OpR _ _ (rCatA K) from op_catA) (pv 5) (pe_tup (pa_cons pe_int pa_nil))))) (pe_lc (own := [("_law_row", 5)]) (by rfl) sc_rows.nd (pi_list (pv 2)) (blkOk_by (own := [("_law_row", 5)]) (N := ["_law_deck_here", "_law_many", "_law_found", "_law_k", "_law_turn", "_law_row"]) (sc := defScope s_rows) (by decide +kernel)) (fun _ _ _ _ _ => (pg_name (i := 5) sc_rows.nd rfl (by first | exact .inl rfl | exact .inr rfl))) (fun _ _ _ _ _ => pts_nil) (fun _ _ _ _ _ => (pe_op (show OpR _ _ (rCatA K) from op_catA) (pv 5) (pe_tup (pa_cons pe_int pa_nil))))))))) (pss_one (ps_ret (pv 2)))))), ?_⟩
    refine ⟨.int m, rfl, _, _, rfl, rfl, _, rfl, ite2 (fun _ => ?_) (fun z => ?_)⟩
    · refine ⟨8, rfl, by decide, by decide, fun L nL => ?_⟩
      have oL := D.off nL
      refine lc_range (lo := 0) (n := (8 : Int).toNat) (fun i H' => DeckC H' d l (n + 6 * i) ∧ Fr d l H H' ∧ ∃ (acc : List V) (rows : List (List Int)), H' L = some (.lst acc) ∧ TkAll H' acc (rows.map rowD) ∧ rows.length = i ∧ ∀ x ∈ rows, x.length = m ∧ Row01 x)
        ⟨(D.same (same_upd nL)).mono (by omega), Fr.new nL, [], [], upd_same, .nil, rfl, fun x hx => by cases hx⟩ ?_ ?_
      · rintro i H1 hi ⟨D1, fr1, acc, rows, hL, ta, lr, okr⟩
        have hi' : i < 8 := hi
        refine ⟨rfl, .int m, rfl, m, rfl, by omega, by omega, fun I nI => ?_⟩
        have oI := D1.off nI
        have nIL : L ≠ I := ne_of_none hL nI
        refine lc_range (lo := 0) (n := (m : Int).toNat) (fun j H' => DeckC H' d l (n + 6 * i + j) ∧ Fr d l H1 (hd1 I H') ∧ ∃ r : List Int, H' I = some (.lst (r.map V.int)) ∧ r.length = j ∧ Row01 r)
          ⟨(D1.same (same_upd nI)).mono (by omega), fun b o h1 h2 e => hd1_of (same_upd nI) nI _ _ e, [], upd_same, rfl, fun x hx => by cases hx⟩ ?_ ?_
        · rintro j H2 hj ⟨D2, fr2, r, hI, lrr, ok01⟩
          have hj' : j < m := by simpa using hj
          refine ⟨rfl, .ref d, rfl, d, l, 2, _, rfl, D2, by omega, by decide, by decide, fun H3 x D3 fr3 x0 x1 => ?_⟩
          have hI3 := fr3 _ _ oI.1 oI.2 hI
          refine ⟨_, hI3, ?_, (D3.upd oI.1 oI.2).mono (by push_cast; omega), fun b o h1 h2 e => ?_, r ++ [x], ?_, by rw [List.length_append, lrr]; rfl, ok01.snoc (by omega)⟩
          · rw [List.length_map, lrr]
            exact Nat.lt_of_lt_of_le (show j < 64 by omega) (by decide)
          · have e2 := fr2 b o h1 h2 e
            have hbI : b ≠ I := fun z => by
              rw [z] at e2
              unfold hd1 at e2
              rw [if_pos rfl] at e2
              cases e2
            rw [hd1_at hbI] at e2 ⊢
            rw [upd_ne hbI]
            exact fr3 b o h1 h2 e2
          · rw [upd_same, List.map_append]
            rfl
        · rintro H2 ⟨D2, fr2, r, hI, lrr, ok01⟩
          have lrr' : r.length = m := by rw [lrr]; simp
          have fr12 : Fr d l H1 H2 := fun b o h1 h2 e => hd1_le _ _ (fr2 b o h1 h2 e)
          refine ⟨I, _, rfl, .inl ⟨SqL.of hI, fun t nt => ?_⟩⟩
          have s3 := same_upd (o := HO.tup (r.map V.int)) nt
          have hL3 := s3 _ _ (fr12 _ _ oL.1 oL.2 hL)
          have ts3 : Ts H1 (upd H2 t (.tup (r.map V.int))) := (Ts.frC D1 fr12).trans (Ts.same s3)
          refine ⟨acc, hL3, ?_, ((D2.same s3).upd oL.1 oL.2).mono (by
            have : ((m : Int).toNat : Int) ≤ 6 := by omega
            push_cast
            omega), Fr.upd ((fr1.trans fr12).trans (Fr.of s3)) nL, acc ++ [.ref t], rows ++ [r], upd_same, ?_, by rw [List.length_append, lr]; rfl, fun x hx => ?_⟩
          · have := ta.length
            rw [List.length_map, lr] at this
            exact Nat.lt_of_lt_of_le (show acc.length < 64 by omega) (by decide)
          · rw [List.map_append]
            refine (ta.ts (ts3.trans (Ts.set hL3)) (noLs_map noL_row rows)).append (.cons (.tup (a := t) ?_ (TkAll.ints _)) .nil)
            have ntL : t ≠ L := (ne_of_none (fr12 _ _ oL.1 oL.2 hL) nt).symm
            rw [upd_ne ntL, upd_same]
          · rcases List.mem_append.mp hx with z | z
            · exact okr x z
            · rw [List.mem_singleton.mp z]
              exact ⟨lrr', ok01⟩
      · rintro H1 ⟨D1, fr1, acc, rows, hL, ta, lr, okr⟩
        refine q L H1 acc rows (D1.mono ?_) fr1 hL ta okr (by rw [lr]; decide)
        show n + 6 * ((8 : Int).toNat : Int) ≤ n + 60
        have : (((8 : Int).toNat : Nat) : Int) = 8 := rfl
        omega
    · have m3 : m ≤ 3 := by
        have : ¬ (3 : Int) < (m : Int) := fun y => z (decide_eq_true y)
        omega
      refine ⟨Nat.zero_le _, fun t0 n0 => ⟨sl1, fun c0 nc0 => ?_⟩⟩
      refine ⟨.int m, rfl, m, rfl, by omega, by omega, ?_⟩
      refine for_range (lo := 0) (n := (m : Int).toNat) (fun i σ H' => ∃ (f : Addr) (y3 : Option V) (xs : List V) (rows : List (List Int)), σ = [some (.ref d), some (.int m), some (.ref f), y3, none, none] ∧ Same H H' ∧ H' f = some (.lst xs) ∧ TkAll H' xs (rows.map rowD) ∧ (∀ x ∈ rows, x.length = i ∧ Row01 x) ∧ rows.length = 2 ^ i)
        ⟨c0, none, _, [[]], rfl, (same_upd n0).trans (same_upd nc0), upd_same, .cons (.tup (same_upd nc0 _ _ upd_same) .nil) .nil, fun x hx => by rw [List.mem_singleton.mp hx]; exact ⟨rfl, fun y hy => by cases hy⟩, rfl⟩ ?_ ?_
      · rintro i σ H1 hi ⟨f, y3, xs, rows, rfl, s1, hf, tx, hrows, lr⟩
        have hi' : i < m := by simpa using hi
        have p4 : 2 ^ i ≤ 4 := Nat.le_trans (Nat.pow_le_pow_right (by decide) (show i ≤ 2 by omega)) (by decide)
        have xl : xs.length = rows.length := by rw [tx.length, List.length_map]
        refine ⟨.ref f, rfl, f, rfl, ⟨_, SqL.of hf⟩, fun A1 nA1 => ?_⟩
        refine lc_list (K := K) (a := f) (xs := xs) (fun j H' => Same H1 (hd1 A1 H') ∧ ∃ acc, H' A1 = some (.lst acc) ∧ TkAll (hd1 A1 H') acc ((rows.take j).map fun r => rowD (r ++ [0]))) ⟨hd1_of (same_upd nA1) nA1, [], upd_same, .nil⟩ (fun j H' _ hP => SqL.of (hd1_le _ _ (hP.1 _ _ hf))) ?_ ?_
        · rintro j v H2 hv ⟨s2, acc, hL, ta⟩
          obtain ⟨rw0, hrw, trw⟩ := tx.at hv
          obtain ⟨ra, rfl, hra⟩ := trw.row_inv
          have hjl := (List.getElem?_eq_some_iff.mp hrw).1
          have s02 : Same H1 H2 := fun b o e => hd1_le _ _ (s2 _ _ e)
          refine ⟨rfl, .ref ra, rfl, sl1, fun t nt => ?_⟩
          have s3 := same_upd (o := HO.tup [V.int 0]) nt
          refine catA (s3 _ _ (s02 _ _ hra)) upd_same ?_ fun p H4 s4 hp => ?_
          · rw [List.length_map, (hrows rw0 (List.mem_of_getElem? hrw)).1]
            exact Nat.le_trans (show _ ≤ 8 by simp only [List.length_cons, List.length_nil]; omega) (by decide)
          have s24 := s3.trans s4
          have hL4 := s24 _ _ hL
          refine ⟨acc, hL4, ?_, s2.trans ((hd1_same s24).trans hd1_upd), acc ++ [.ref p], upd_same, ?_⟩
          · have := ta.length
            rw [List.length_map, List.length_take] at this
            exact Nat.lt_of_lt_of_le (show acc.length < 64 by omega) (by decide)
          · rw [List.take_add_one, hrw, List.map_append]
            have pL : p ≠ A1 := ne_of hp hL4 (by intro z; cases z)
            refine (ta.same ((hd1_same s24).trans hd1_upd)).append (.cons (.tup (a := p) (xs := (rw0 ++ [0]).map V.int) ?_ (TkAll.ints _)) .nil)
            rw [hd1_at pL, upd_ne pL, hp, List.map_append]
            rfl
        rintro B1 ⟨sA1, acA1, hA1, tA1⟩
        rw [xl, List.take_length] at tA1
        have eA1 : Same H1 B1 := fun b o e => hd1_le _ _ (sA1 _ _ e)
        refine ⟨.ref f, rfl, f, rfl, ⟨_, SqL.of (eA1 _ _ hf)⟩, fun A2 nA2 => ?_⟩
        refine lc_list (K := K) (a := f) (xs := xs) (fun j H' => Same B1 (hd1 A2 H') ∧ ∃ acc, H' A2 = some (.lst acc) ∧ TkAll (hd1 A2 H') acc ((rows.take j).map fun r => rowD (r ++ [1]))) ⟨hd1_of (same_upd nA2) nA2, [], upd_same, .nil⟩ (fun j H' _ hP => SqL.of (hd1_le _ _ (hP.1 _ _ (eA1 _ _ hf)))) ?_ ?_
        · rintro j v H2 hv ⟨s2, acc, hL, ta⟩
          obtain ⟨rw0, hrw, trw⟩ := (tx.same eA1).at hv
          obtain ⟨ra, rfl, hra⟩ := trw.row_inv
          have hjl := (List.getElem?_eq_some_iff.mp hrw).1
          have s02 : Same B1 H2 := fun b o e => hd1_le _ _ (s2 _ _ e)
          refine ⟨rfl, .ref ra, rfl, sl1, fun t nt => ?_⟩
          have s3 := same_upd (o := HO.tup [V.int 1]) nt
          refine catA (s3 _ _ (s02 _ _ hra)) upd_same ?_ fun p H4 s4 hp => ?_
          · rw [List.length_map, (hrows rw0 (List.mem_of_getElem? hrw)).1]
            exact Nat.le_trans (show _ ≤ 8 by simp only [List.length_cons, List.length_nil]; omega) (by decide)
          have s24 := s3.trans s4
          have hL4 := s24 _ _ hL
          refine ⟨acc, hL4, ?_, s2.trans ((hd1_same s24).trans hd1_upd), acc ++ [.ref p], upd_same, ?_⟩
          · have := ta.length
            rw [List.length_map, List.length_take] at this
            exact Nat.lt_of_lt_of_le (show acc.length < 64 by omega) (by decide)
          · rw [List.take_add_one, hrw, List.map_append]
            have pL : p ≠ A2 := ne_of hp hL4 (by intro z; cases z)
            refine (ta.same ((hd1_same s24).trans hd1_upd)).append (.cons (.tup (a := p) (xs := (rw0 ++ [1]).map V.int) ?_ (TkAll.ints _)) .nil)
            rw [hd1_at pL, upd_ne pL, hp, List.map_append]
            rfl
        rintro B2 ⟨sA2, acA2, hA2, tA2⟩
        rw [xl, List.take_length] at tA2
        have eA2 : Same B1 B2 := fun b o e => hd1_le _ _ (sA2 _ _ e)
        refine ⟨A1, A2, _, _, rfl, rfl, eA2 _ _ hA1, hA2, ?_, fun p np => ?_⟩
        · have a1 := tA1.length
          have a2 := tA2.length
          rw [List.length_map] at a1 a2
          exact Nat.le_trans (show _ ≤ 16 by omega) (by decide)
        · refine ⟨p, _, _, (rows.map fun r => r ++ [0]) ++ (rows.map fun r => r ++ [1]), rfl, ((s1.trans eA1).trans eA2).trans (same_upd np), upd_same, ?_, fun x hx => ?_, ?_⟩
          · rw [List.map_append, List.map_map, List.map_map]
            exact ((((tA1.same hd1_le).same eA2).same (same_upd np)).append ((tA2.same hd1_le).same (same_upd np)))
          · rcases List.mem_append.mp hx with z | z <;> obtain ⟨y, hy, rfl⟩ := List.mem_map.mp z
            · exact ⟨by rw [List.length_append, (hrows y hy).1]; rfl, (hrows y hy).2.snoc (.inl rfl)⟩
            · exact ⟨by rw [List.length_append, (hrows y hy).1]; rfl, (hrows y hy).2.snoc (.inr rfl)⟩
          · rw [List.length_append, List.length_map, List.length_map, lr, Nat.pow_succ]
            omega
      · rintro σ H1 ⟨f, y3, xs, rows, rfl, s1, hf, tx, hrows, lr⟩
        have em : (m : Int).toNat = m := by simp
        rw [em] at hrows lr
        refine ⟨_, rfl, q f H1 xs rows ((D.same s1).mono (by omega)) (Fr.of s1) hf tx hrows ?_⟩
        rw [lr]
        exact Nat.le_trans (Nat.pow_le_pow_right (by decide) m3) (by decide)

/-! ### the law -/
theorem ok_worth_of (T : Tx w K mg) : FnOk P w K mg base CX0 24 T.f_worth_of T.fd_worth_of ["form", "row"] (sp_worth K 22) := ok_worthE T 22
theorem ok_worth (T : Tx w K mg) : FnOk P w K mg base CX0 24 T.f_worth T.fd_worth ["_law_form_here", "_law_row"] (sp_l_worth K 22) := ok_l_worthE T 22
theorem fine_int {i : Int} (h : i.natAbs ≤ 1000) : (PyData.int i).showable = true ∧ (PyData.int i).shown.length ≤ sizeLine ∧ (PyData.int i).depth ≤ 50 :=
  Fit.fine (B := 1000) (n := 10) (m := 0) ⟨decide_eq_true h, int_weight (k := 10) (by omega), Nat.le_refl _⟩ (by decide) (by decide) (by decide)
theorem FmAt.gr {H H' : Hp} {m c e : Nat} {v : V} (h : FmAt H m c e v) (g : Gr H H') : FmAt H' m c e v := by
  obtain ⟨f, t, r⟩ := h
  exact ⟨f, t.gr g, r⟩
theorem Tabs.gr {H H' : Hp} {Ps : List Addr} (t : Tabs H Ps) (g : Gr H H') : Tabs H' Ps := g.tabs t
theorem Tabs.fr {H H' : Hp} {Ps : List Addr} {d l : Addr} {n : Int} (t : Tabs H Ps) (D : DeckC H d l n) (f : Fr d l H H') : Tabs H' Ps := fun P hP => tab_frC D f (t P hP)
def sp_law (K : PySem.W.Frag) (Ps : List Addr) : Sp := fun vs H Q _ => ∃ (a : Addr) (ns : List Int), vs = [.ref a] ∧ SqL K H a (ns.map V.int) ∧ ns.length ≤ 63 ∧ Tabs H Ps ∧ ∀ H', Q (.bl true) H'
theorem ok_law (T : Tx w K mg) (B : Tb base T) : FnG P w K mg base CX0 26 T.f_law T.fd_law ["_law_script"] (sp_law K T.tabs) := by
  refine okG0 T.F_law sc_law (fun vs H Q E h => ?_) (fun cdv A outer s H vs Q E nothing hr h => ?_)
  · obtain ⟨a, ns, rfl, _⟩ := h
    rfl
  · obtain ⟨a, ns, rfl, hS, hlen, tabs, q⟩ := h
    refine ⟨_, (pss_cons (ps_set (i := 1) sc_law.nd rfl (by first | exact .inl rfl | exact .inr rfl) (pe_call (ok_deck T) (hr.mono (by decide)) (by rfl) T.g_deck T.F_deck.kp T.b_deck .nil pass0 (pa_cons (pv 0) pa_nil))) (pss_cons (ps_for PassesOwn.never rfl (pi_range1 (by rfl) T.m_range (pa_cons pe_int pa_nil)) (pg_name (i := 2) sc_law.nd rfl (by first | exact .inl rfl | exact .inr rfl)) (pss_cons (ps_set (i := 3) sc_law.nd rfl (by first | exact .inl rfl | exact .inr rfl) (pe_op op_add pe_int (pe_call (ok_take T) (hr.mono (by decide)) (by rfl) T.g_take T.F_take.kp T.b_take .nil pass0 (pa_cons (pv 1) (pa_cons pe_int pa_nil))))) (pss_cons (ps_set (i := 4) sc_law.nd rfl (by first | exact .inl rfl | exact .inr rfl) (pe_call (ok_some_form T) (hr.mono (by decide)) (by rfl) T.g_some_form T.F_some_form.kp T.b_some_form .nil pass0 (pa_cons (pv 1) (pa_cons (pv 3) pa_nil)))) (pss_cons (ps_for PassesOwn.never rfl (pi_list (pe_call (ok_rows T) (hr.mono (by decide)) (by rfl) T.g_rows T.F_rows.kp T.b_rows .nil pass0 (pa_cons (pv 1) (pa_cons (pv 3) pa_nil)))) (pg_name (i := 5) sc_law.nd rfl (by first | exact .inl rfl | exact .inr rfl)) (pss_one (ps_if (pt_cmpR op_ne (pe_callB (call_repr nothing hr.units) (by rfl) T.m_repr (by decide +kernel) (pa_cons (pe_call (ok_worth_of T) (hr.mono (by decide)) (by rfl) T.g_worth_of T.F_worth_of.kp T.b_worth_of .nil pass0 (pa_cons (pv 4) (pa_cons (pv 5) pa_nil))) pa_nil)) (pe_callB (call_repr nothing hr.units) (by rfl) T.m_repr (by decide +kernel) (pa_cons (pe_call (ok_worth T) (hr.mono (by decide)) (by rfl) T.g_worth T.F_worth.kp T.b_worth .nil pass0 (pa_cons (pv 4) (pa_cons (pv 5) pa_nil))) pa_nil)) (nomark _)) (pss_one (ps_ret pe_bl)) pss_nil))) (pss_cons (ps_if (pw_or (pt_cmpR op_ne (pe_callB (call_repr nothing hr.units) (by rfl) T.m_repr (by decide +kernel) (pa_cons (pe_call (ok_parts_in T B) (hr.mono (by decide)) (by rfl) T.g_parts_in T.F_parts_in.kp T.b_parts_in .nil pass0 (pa_cons (pv 4) pa_nil)) pa_nil)) (pe_callB (call_repr nothing hr.units) (by rfl) T.m_repr (by decide +kernel) (pa_cons (pe_call (ok_count T) (hr.mono (by decide)) (by rfl) T.g_count T.F_count.kp T.b_count .nil pass0 (pa_cons (pv 4) pa_nil)) pa_nil)) (nomark _)) (pw_or1 (pt_cmpR op_ne (pe_callB (call_repr nothing hr.units) (by rfl) T.m_repr (by decide +kernel) (pa_cons (pe_call (ok_parts_in T B) (hr.mono (by decide)) (by rfl) T.g_parts_in T.F_parts_in.kp T.b_parts_in .nil pass0 (pa_cons (pv 4) pa_nil)) pa_nil)) (pe_callB (call_repr nothing hr.units) (by rfl) T.m_repr (by decide +kernel) (pa_cons (pe_call (ok_count T) (hr.mono (by decide)) (by rfl) T.g_count T.F_count.kp T.b_count .nil pass0 (pa_cons (pv 4) pa_nil)) pa_nil)) (nomark _)))).pt (pss_one (ps_ret pe_bl)) pss_nil) (pss_one (ps_if (pt_not (pt_val (pe_call (ok_places_right T) (hr.mono (by decide)) (by rfl) T.g_places_right T.F_places_right.kp T.b_places_right .nil pass0 (pa_cons (pv 4) pa_nil)))) (pss_one (ps_ret pe_bl)) pss_nil))))))) (pss_one (ps_ret (pe_and (pe_cmpR op_eq (pe_call (ok_parts_in T B) (hr.mono (by decide)) (by rfl) T.g_parts_in T.F_parts_in.kp T.b_parts_in .nil pass0 (pa_cons (pe_tup (pa_cons pe_str pa_nil)) pa_nil)) pe_int (nomark _)) (pe_one (pe_cmpR (op_eqD hr.units) (pe_call (ok_form_at T) (hr.mono (by decide)) (by rfl) T.g_form_at T.F_form_at.kp T.b_form_at .nil pass0 (pa_cons (pe_tup (pa_cons pe_str (pa_cons (pe_tup (pa_cons pe_str pa_nil)) pa_nil))) (pa_cons (pe_tup (pa_cons pe_int pa_nil)) pa_nil))) (pe_tup (pa_cons pe_str pa_nil)) (nomark _)))))))), ?_⟩
    refine ⟨.ref a, rfl, a, ns, rfl, hS, hlen, fun H1 d l s1 D1 => ?_⟩
    have t1 : Tabs H1 T.tabs := tabs.gr (Gr.of s1)
    refine ⟨4, rfl, by decide, by decide, for_range (lo := 0) (n := (4 : Int).toNat) (fun i σ H' => ∃ y2 y3 y4 y5, σ = [some (.ref a), some (.ref d), y2, y3, y4, y5] ∧ DeckC H' d l (2000 * i) ∧ Tabs H' T.tabs)
      ⟨_, _, _, _, rfl, D1.mono (by omega), t1⟩ ?_ ?_⟩
    · rintro i σ H2 hi ⟨y2, y3, y4, y5, rfl, D2, t2⟩
      have hi' : i < 4 := hi
      refine ⟨.ref d, rfl, d, l, 6, _, rfl, D2, by omega, by decide, by decide, fun H3 x D3 fr3 x0 x1 => ⟨_, _, rfl, rfl, ?_⟩⟩
      obtain ⟨m, hm, m1, m6⟩ : ∃ m : Nat, 1 + x = (m : Int) ∧ 1 ≤ m ∧ m ≤ 6 := ⟨(1 + x).toNat, by omega, by omega, by omega⟩
      show gName 3 (V.int (1 + x)) _ _ _
      rw [hm]
      have t3 := t2.fr D2 fr3
      refine ⟨.ref d, rfl, .int (m : Nat), rfl, d, l, _, m, rfl, D3, by omega, m1, m6, fun fv H4 D4 fr4 fm => ?_⟩
      have t4 := t3.fr D3 fr4
      obtain ⟨f, tf, ok, cf, df⟩ := fm
      refine ⟨.ref d, rfl, .int (m : Nat), rfl, d, l, _, m, rfl, D4, by omega, m1, m6, fun r H5 xs rows D5 fr5 hr5 trows ok01 l8 => ⟨r, rfl, ⟨_, SqL.of hr5⟩, ?_⟩⟩
      have t5 := t4.fr D4 fr5
      have tf5 := tf.ts (Ts.frC D4 fr5) (Fm.noL f)
      refine for_list (K := K) (a := r) (xs := xs) (fun j σ H' => ∃ y5, σ = [some (.ref a), some (.ref d), some (.int (0 + (i : Nat))), some (.int (m : Nat)), some fv, y5] ∧ Same H5 H') ⟨_, rfl, Same.refl _⟩ (fun j σ H' _ ⟨_, _, s⟩ => SqL.of (s _ _ hr5)) ?_ ?_
      · rintro j y σ H6 hy ⟨y5, rfl, s6⟩
        obtain ⟨row, hrow, ty⟩ := trows.at hy
        obtain ⟨b, rfl, hb⟩ := (ty.same s6).row_inv
        obtain ⟨lr, r01⟩ := ok01 row (List.mem_of_getElem? hrow)
        have tf6 := tf5.same s6
        have w01 := Fm.wo01 r01 lr ok
        obtain ⟨f1, f2, f3⟩ := fine_int (i := f.wo row) (by rcases w01 with z | z <;> rw [z] <;> decide)
        refine ⟨fv, rfl, .ref b, rfl, fv, f, m, b, row, rfl, tf6, ok, by omega, hb, lr, r01, fun H7 s7 => ?_⟩
        refine ⟨.int (f.wo row), .int (f.wo row), rfl, .int _, f1, f2, f3, ?_⟩
        refine ⟨fv, rfl, .ref b, rfl, fv, f, m, b, row, rfl, tf6.same s7, ok, by omega, s7 _ _ hb, lr, r01, fun H8 s8 => ?_⟩
        refine ⟨.int (f.wo row), .int (f.wo row), rfl, .int _, f1, f2, f3, rfl, _, rfl, ?_⟩
        rw [decide_eq_true rfl]
        exact iteF ⟨_, rfl, (s6.trans s7).trans s8⟩
      rintro σ H6 ⟨y5, rfl, s6⟩
      have tf6 := tf5.same s6
      have t6 : Tabs H6 T.tabs := t5.gr (Gr.of s6)
      obtain ⟨f1, f2, f3⟩ := fine_int (i := (f.cnt : Nat)) (by omega)
      refine ⟨fv, rfl, fv, f, m, rfl, tf6, ok, by omega, t6 _ (by simp [Tx.tabs]), fun H7 g7 => ⟨.int (f.cnt : Nat), .int (f.cnt : Nat), rfl, .int _, f1, f2, f3, ?_⟩⟩
      have t7 := t6.gr g7
      have tf7 := tf6.gr g7
      refine ⟨fv, rfl, fv, f, m, rfl, tf7, ok, by omega, fun H8 s8 => ⟨.int (f.cnt : Nat), .int (f.cnt : Nat), rfl, .int _, f1, f2, f3, rfl, _, rfl, ?_⟩⟩
      rw [decide_eq_true rfl]
      refine iteF ?_
      have t8 := t7.gr (Gr.of s8)
      have tf8 := tf7.same s8
      refine ⟨fv, rfl, fv, f, m, rfl, tf8, ok, by omega, t8 _ (by simp [Tx.tabs]), fun H9 g9 => ⟨.int (f.cnt : Nat), .int (f.cnt : Nat), rfl, .int _, f1, f2, f3, ?_⟩⟩
      have t9 := t8.gr g9
      have tf9 := tf8.gr g9
      refine ⟨fv, rfl, fv, f, m, rfl, tf9, ok, by omega, fun H10 s10 => ⟨.int (f.cnt : Nat), .int (f.cnt : Nat), rfl, .int _, f1, f2, f3, rfl, _, rfl, ?_⟩⟩
      rw [decide_eq_true rfl]
      refine iteF ?_
      refine ⟨fv, rfl, fv, f, m, rfl, tf9.same s10, ok, by omega, by omega, fun H11 s11 => ⟨_, rfl, iteF ?_⟩⟩
      have gA := ((((Gr.of s6).trans g7).trans (Gr.of s8)).trans g9).trans ((Gr.of s10).trans (Gr.of s11))
      exact ⟨_, _, _, _, rfl, (D5.gr gA).mono (by push_cast; omega), t5.gr gA⟩
    rintro σ H2 ⟨y2, y3, y4, y5, rfl, D2, t2⟩
    refine ⟨sl1, fun a1 na1 => ?_⟩
    have s3 := same_upd (o := (HO.tup [V.str (Str.ofString "one")])) na1
    have h3 : upd H2 a1 (HO.tup [V.str (Str.ofString "one")]) a1 = some (HO.tup [V.str (Str.ofString "one")]) := upd_same
    generalize upd H2 a1 (HO.tup [V.str (Str.ofString "one")]) = H3 at s3 h3 ⊢
    have tone : Tk H3 (.ref a1) (Fm.st true).d := .tup h3 (.cons (.str _) .nil)
    have t3 := t2.gr (Gr.of s3)
    refine ⟨.ref a1, Fm.st true, 1, rfl, tone, rfl, by decide, t3 _ (by simp [Tx.tabs]), fun H4 g4 => ⟨rfl, _, rfl, ?_⟩⟩
    rw [decide_eq_true (show V.int ((Fm.st true).cnt : Nat) = V.int 1 from rfl)]
    refine iteT ?_
    refine ⟨sl1, fun a2 na2 => ?_⟩
    have s5 := same_upd (o := (HO.tup [V.str (Str.ofString "one")])) na2
    have h5 : upd H4 a2 (HO.tup [V.str (Str.ofString "one")]) a2 = some (HO.tup [V.str (Str.ofString "one")]) := upd_same
    generalize upd H4 a2 (HO.tup [V.str (Str.ofString "one")]) = H5 at s5 h5 ⊢
    refine ⟨sl2, fun a3 na3 => ?_⟩
    have s6 := same_upd (o := (HO.tup [V.str (Str.ofString "not"), V.ref a2])) na3
    have h6 : upd H5 a3 (HO.tup [V.str (Str.ofString "not"), V.ref a2]) a3 = some (HO.tup [V.str (Str.ofString "not"), V.ref a2]) := upd_same
    generalize upd H5 a3 (HO.tup [V.str (Str.ofString "not"), V.ref a2]) = H6 at s6 h6 ⊢
    refine ⟨sl1, fun a4 na4 => ?_⟩
    have s7 := same_upd (o := (HO.tup [V.int 0])) na4
    have h7 : upd H6 a4 (HO.tup [V.int 0]) a4 = some (HO.tup [V.int 0]) := upd_same
    generalize upd H6 a4 (HO.tup [V.int 0]) = H7 at s7 h7 ⊢
    have tn : Tk H7 (.ref a3) (Fm.no (.st true)).d := .tup (s7 _ _ h6) (.cons (.str _) (.cons (.tup (s7 _ _ (s6 _ _ h5)) (.cons (.str _) .nil)) .nil))
    refine ⟨.ref a3, Fm.no (.st true), a4, [0], rfl, tn, h7, fun g hg u H8 s8 tu => ?_, fun z => by cases z⟩
    cases Option.some.inj hg
    refine ⟨sl1, fun a5 na5 => ?_⟩
    have s9 := same_upd (o := HO.tup [V.str (Str.ofString "one")]) na5
    refine eq_same (d := (Fm.st true).d) (tu.same s9).dp (Tk.dp (.tup upd_same (.cons (.str _) .nil))) (Fm.shaped (f := .st true) (by decide)) ?_
    exact q _

end
def d_is_whole : He.DefD := ⟨("is_whole", none), "is_whole", "is_whole", defArgs s_is_whole, defBody s_is_whole, defScope s_is_whole, [], []⟩
def d_inner_of : He.DefD := ⟨("inner_of", none), "inner_of", "inner_of", defArgs s_inner_of, defBody s_inner_of, defScope s_inner_of, [], []⟩
def d_worth_of : He.DefD := ⟨("worth_of", none), "worth_of", "worth_of", defArgs s_worth_of, defBody s_worth_of, defScope s_worth_of, [], []⟩
def d_still_worth : He.DefD := ⟨("still_worth", none), "still_worth", "still_worth", defArgs s_still_worth, defBody s_still_worth, defScope s_still_worth, [], []⟩
def d_parts_in : He.DefD := ⟨("parts_in", none), "parts_in", "parts_in", defArgs s_parts_in, defBody s_parts_in, defScope s_parts_in, [], []⟩
def d_levels_of : He.DefD := ⟨("levels_of", none), "levels_of", "levels_of", defArgs s_levels_of, defBody s_levels_of, defScope s_levels_of, [], []⟩
def d_form_at : He.DefD := ⟨("form_at", none), "form_at", "form_at", defArgs s_form_at, defBody s_form_at, defScope s_form_at, [], []⟩
def d_deck : He.DefD := ⟨("_law_deck", none), "_law_deck", "_law_deck", defArgs s_deck, defBody s_deck, defScope s_deck, [], []⟩
def d_mixed : He.DefD := ⟨("_law_mixed", none), "_law_mixed", "_law_mixed", defArgs s_mixed, defBody s_mixed, defScope s_mixed, [], []⟩
def d_take : He.DefD := ⟨("_law_take", none), "_law_take", "_law_take", defArgs s_take, defBody s_take, defScope s_take, [], []⟩
def d_form : He.DefD := ⟨("_law_form", none), "_law_form", "_law_form", defArgs s_form, defBody s_form, defScope s_form, [], []⟩
def d_inner : He.DefD := ⟨("_law_inner", none), "_law_inner", "_law_inner", defArgs s_inner, defBody s_inner, defScope s_inner, [], []⟩
def d_count : He.DefD := ⟨("_law_count", none), "_law_count", "_law_count", defArgs s_count, defBody s_count, defScope s_count, [], []⟩
def d_some_form : He.DefD := ⟨("_law_some_form", none), "_law_some_form", "_law_some_form", defArgs s_some_form, defBody s_some_form, defScope s_some_form, [], []⟩
def d_tower : He.DefD := ⟨("_law_tower", none), "_law_tower", "_law_tower", defArgs s_tower, defBody s_tower, defScope s_tower, [], []⟩
def d_worth : He.DefD := ⟨("_law_worth", none), "_law_worth", "_law_worth", defArgs s_worth, defBody s_worth, defScope s_worth, [], []⟩
def d_rows : He.DefD := ⟨("_law_rows", none), "_law_rows", "_law_rows", defArgs s_rows, defBody s_rows, defScope s_rows, [], []⟩
def d_places : He.DefD := ⟨("_law_places", none), "_law_places", "_law_places", defArgs s_places, defBody s_places, defScope s_places, [], []⟩
def d_places_right : He.DefD := ⟨("_law_places_right", none), "_law_places_right", "_law_places_right", defArgs s_places_right, defBody s_places_right, defScope s_places_right, [], []⟩
def d_law : He.DefD := ⟨("law", none), "law", "law", defArgs s_law, defBody s_law, defScope s_law, [], []⟩
def fn : List He.DefD := [d_is_whole, d_inner_of, d_worth_of, d_still_worth, d_parts_in, d_levels_of, d_form_at, d_deck, d_mixed, d_take, d_form, d_inner, d_count, d_some_form, d_tower, d_worth, d_rows, d_places, d_places_right, d_law]
def fa : List He.Fa := [.glo "is_whole", .glo "inner_of", .glo "worth_of", .glo "still_worth", .glo "parts_in", .glo "levels_of", .glo "form_at", .glo "_law_deck", .glo "_law_mixed", .glo "_law_take", .glo "_law_form", .glo "_law_inner", .glo "_law_count", .glo "_law_some_form", .glo "_law_tower", .glo "_law_worth", .glo "_law_rows", .glo "_law_places", .glo "_law_places_right", .glo "law", .free "bool", .free "enumerate", .free "int", .free "isinstance", .free "len", .free "list", .free "max", .free "min", .free "range", .free "repr", .free "reversed", .free "sum", .free "tuple", .glo "STILL"]
def tf : List He.Defn := [("parts_in", none)]
abbrev RR : PySem.W.OpenRow := PySem.W.OpenLaw.row PySem.Challenge.rw_glitchnet_k55_worths_parts_places
def yes : PySem.W.Frag → Bool := fun K => (KdS.kdB K "STILL" [(("one" : PySem.Str), KdS.Kv.i 1), (("nought" : PySem.Str), KdS.Kv.i 0)] && true)
def ts : List He.Tab := [(fun K => He.ga K "STILL", [("one" : PySem.Str), ("nought" : PySem.Str)])]
abbrev hk : PySem.W.Hook := He.hookX 4 fa fn ts tf yes
def ob (s : PySem.W.SharedT) : He.AlX := He.obsX 4 fa fn ts tf yes (HandSHeadRun.getT s)
theorem ob_eq (s : PySem.W.SharedT) : ob s = hk.obs s.abs := He.obsX_eq (HandSHeadRun.getT_eq s)
theorem run_false (w : World) : HandSHeadRun.RunEq RR (PySem.W.view RR.prog [23]) hk ob 3000 [("is_whole" : PySem.Str), ("STILL" : PySem.Str), ("inner_of" : PySem.Str), ("worth_of" : PySem.Str), ("still_worth" : PySem.Str), ("parts_in" : PySem.Str), ("levels_of" : PySem.Str), ("form_at" : PySem.Str), ("_law_deck" : PySem.Str), ("_law_mixed" : PySem.Str), ("_law_take" : PySem.Str), ("_law_form" : PySem.Str), ("_law_inner" : PySem.Str), ("_law_count" : PySem.Str), ("_law_some_form" : PySem.Str), ("_law_tower" : PySem.Str), ("_law_worth" : PySem.Str), ("_law_rows" : PySem.Str), ("_law_places" : PySem.Str), ("_law_places_right" : PySem.Str)] (w.withFollow "special-get-raises" false) := by
  intro os
  kernel_rfl
theorem run_true (w : World) : HandSHeadRun.RunEq RR (PySem.W.view RR.prog [23]) hk ob 3000 [("is_whole" : PySem.Str), ("STILL" : PySem.Str), ("inner_of" : PySem.Str), ("worth_of" : PySem.Str), ("still_worth" : PySem.Str), ("parts_in" : PySem.Str), ("levels_of" : PySem.Str), ("form_at" : PySem.Str), ("_law_deck" : PySem.Str), ("_law_mixed" : PySem.Str), ("_law_take" : PySem.Str), ("_law_form" : PySem.Str), ("_law_inner" : PySem.Str), ("_law_count" : PySem.Str), ("_law_some_form" : PySem.Str), ("_law_tower" : PySem.Str), ("_law_worth" : PySem.Str), ("_law_rows" : PySem.Str), ("_law_places" : PySem.Str), ("_law_places_right" : PySem.Str)] (w.withFollow "special-get-raises" true) := by
  intro os
  kernel_rfl
theorem run (w : World) : HandSHeadRun.RunEq RR (PySem.W.view RR.prog [23]) hk ob 3000 [("is_whole" : PySem.Str), ("STILL" : PySem.Str), ("inner_of" : PySem.Str), ("worth_of" : PySem.Str), ("still_worth" : PySem.Str), ("parts_in" : PySem.Str), ("levels_of" : PySem.Str), ("form_at" : PySem.Str), ("_law_deck" : PySem.Str), ("_law_mixed" : PySem.Str), ("_law_take" : PySem.Str), ("_law_form" : PySem.Str), ("_law_inner" : PySem.Str), ("_law_count" : PySem.Str), ("_law_some_form" : PySem.Str), ("_law_tower" : PySem.Str), ("_law_worth" : PySem.Str), ("_law_rows" : PySem.Str), ("_law_places" : PySem.Str), ("_law_places_right" : PySem.Str)] w := by
  have e := World.withFollow_self w "special-get-raises"
  cases hb : w.params.followText "special-get-raises" <;> rw [hb] at e
  · rw [← e]
    exact run_false w
  · rw [← e]
    exact run_true w
theorem facts {w : World} {K : PySem.W.Frag} {h : Heap} {mg : Str → Option Value} {f : Addr} (X : K.In h) (G : h.Ns mainGlobals mg) (hfa : mg ("law" : Str) = some (.ref f)) (c : He.SaysX fa fn ts tf yes w h K) : LawAtG PySem.Challenge.rw_glitchnet_k55_worths_parts_places w K CX0 26 63 "_law_script" mg f h := by
  obtain ⟨fd0, D0⟩ := c.t.d.def_ 0 (d := d_is_whole) rfl
  have F0 : Fun K "is_whole" "is_whole" s_is_whole (He.fAd K ("is_whole", none)) fd0 := fun_of D0
  have b0 := F0.binds (ps := ["thing"]) fun _ _ _ _ _ _ us hl => match us, hl with | [_], _ => rfl
  obtain ⟨fd1, D1⟩ := c.t.d.def_ 1 (d := d_inner_of) rfl
  have F1 : Fun K "inner_of" "inner_of" s_inner_of (He.fAd K ("inner_of", none)) fd1 := fun_of D1
  have b1 := F1.binds (ps := ["form"]) fun _ _ _ _ _ _ us hl => match us, hl with | [_], _ => rfl
  obtain ⟨fd2, D2⟩ := c.t.d.def_ 2 (d := d_worth_of) rfl
  have F2 : Fun K "worth_of" "worth_of" s_worth_of (He.fAd K ("worth_of", none)) fd2 := fun_of D2
  have b2 := F2.binds (ps := ["form", "row"]) fun _ _ _ _ _ _ us hl => match us, hl with | [_, _], _ => rfl
  obtain ⟨fd3, D3⟩ := c.t.d.def_ 3 (d := d_still_worth) rfl
  have F3 : Fun K "still_worth" "still_worth" s_still_worth (He.fAd K ("still_worth", none)) fd3 := fun_of D3
  have b3 := F3.binds (ps := ["form"]) fun _ _ _ _ _ _ us hl => match us, hl with | [_], _ => rfl
  obtain ⟨fd4, D4⟩ := c.t.d.def_ 4 (d := d_parts_in) rfl
  have F4 : Fun K "parts_in" "parts_in" s_parts_in (He.fAd K ("parts_in", none)) fd4 := fun_of D4
  have b4 := F4.binds (ps := ["form"]) fun _ _ _ _ _ _ us hl => match us, hl with | [_], _ => rfl
  obtain ⟨fd5, D5⟩ := c.t.d.def_ 5 (d := d_levels_of) rfl
  have F5 : Fun K "levels_of" "levels_of" s_levels_of (He.fAd K ("levels_of", none)) fd5 := fun_of D5
  have b5 := F5.binds (ps := ["form"]) fun _ _ _ _ _ _ us hl => match us, hl with | [_], _ => rfl
  obtain ⟨fd6, D6⟩ := c.t.d.def_ 6 (d := d_form_at) rfl
  have F6 : Fun K "form_at" "form_at" s_form_at (He.fAd K ("form_at", none)) fd6 := fun_of D6
  have b6 := F6.binds (ps := ["form", "place"]) fun _ _ _ _ _ _ us hl => match us, hl with | [_, _], _ => rfl
  obtain ⟨fd7, D7⟩ := c.t.d.def_ 7 (d := d_deck) rfl
  have F7 : Fun K "_law_deck" "_law_deck" s_deck (He.fAd K ("_law_deck", none)) fd7 := fun_of D7
  have b7 := F7.binds (ps := ["_law_script"]) fun _ _ _ _ _ _ us hl => match us, hl with | [_], _ => rfl
  obtain ⟨fd8, D8⟩ := c.t.d.def_ 8 (d := d_mixed) rfl
  have F8 : Fun K "_law_mixed" "_law_mixed" s_mixed (He.fAd K ("_law_mixed", none)) fd8 := fun_of D8
  have b8 := F8.binds (ps := ["_law_cell", "_law_k"]) fun _ _ _ _ _ _ us hl => match us, hl with | [_, _], _ => rfl
  obtain ⟨fd9, D9⟩ := c.t.d.def_ 9 (d := d_take) rfl
  have F9 : Fun K "_law_take" "_law_take" s_take (He.fAd K ("_law_take", none)) fd9 := fun_of D9
  have b9 := F9.binds (ps := ["_law_deck_here", "_law_most"]) fun _ _ _ _ _ _ us hl => match us, hl with | [_, _], _ => rfl
  obtain ⟨fd10, D10⟩ := c.t.d.def_ 10 (d := d_form) rfl
  have F10 : Fun K "_law_form" "_law_form" s_form (He.fAd K ("_law_form", none)) fd10 := fun_of D10
  have b10 := F10.binds (ps := ["_law_deck_here", "_law_many", "_law_deep", "_law_left"]) fun _ _ _ _ _ _ us hl => match us, hl with | [_, _, _, _], _ => rfl
  obtain ⟨fd11, D11⟩ := c.t.d.def_ 11 (d := d_inner) rfl
  have F11 : Fun K "_law_inner" "_law_inner" s_inner (He.fAd K ("_law_inner", none)) fd11 := fun_of D11
  have b11 := F11.binds (ps := ["_law_form_here"]) fun _ _ _ _ _ _ us hl => match us, hl with | [_], _ => rfl
  obtain ⟨fd12, D12⟩ := c.t.d.def_ 12 (d := d_count) rfl
  have F12 : Fun K "_law_count" "_law_count" s_count (He.fAd K ("_law_count", none)) fd12 := fun_of D12
  have b12 := F12.binds (ps := ["_law_form_here"]) fun _ _ _ _ _ _ us hl => match us, hl with | [_], _ => rfl
  obtain ⟨fd13, D13⟩ := c.t.d.def_ 13 (d := d_some_form) rfl
  have F13 : Fun K "_law_some_form" "_law_some_form" s_some_form (He.fAd K ("_law_some_form", none)) fd13 := fun_of D13
  have b13 := F13.binds (ps := ["_law_deck_here", "_law_many"]) fun _ _ _ _ _ _ us hl => match us, hl with | [_, _], _ => rfl
  obtain ⟨fd14, D14⟩ := c.t.d.def_ 14 (d := d_tower) rfl
  have F14 : Fun K "_law_tower" "_law_tower" s_tower (He.fAd K ("_law_tower", none)) fd14 := fun_of D14
  have b14 := F14.binds (ps := ["_law_deck_here", "_law_many"]) fun _ _ _ _ _ _ us hl => match us, hl with | [_, _], _ => rfl
  obtain ⟨fd15, D15⟩ := c.t.d.def_ 15 (d := d_worth) rfl
  have F15 : Fun K "_law_worth" "_law_worth" s_worth (He.fAd K ("_law_worth", none)) fd15 := fun_of D15
  have b15 := F15.binds (ps := ["_law_form_here", "_law_row"]) fun _ _ _ _ _ _ us hl => match us, hl with | [_, _], _ => rfl
  obtain ⟨fd16, D16⟩ := c.t.d.def_ 16 (d := d_rows) rfl
  have F16 : Fun K "_law_rows" "_law_rows" s_rows (He.fAd K ("_law_rows", none)) fd16 := fun_of D16
  have b16 := F16.binds (ps := ["_law_deck_here", "_law_many"]) fun _ _ _ _ _ _ us hl => match us, hl with | [_, _], _ => rfl
  obtain ⟨fd17, D17⟩ := c.t.d.def_ 17 (d := d_places) rfl
  have F17 : Fun K "_law_places" "_law_places" s_places (He.fAd K ("_law_places", none)) fd17 := fun_of D17
  have b17 := F17.binds (ps := ["_law_form_here"]) fun _ _ _ _ _ _ us hl => match us, hl with | [_], _ => rfl
  obtain ⟨fd18, D18⟩ := c.t.d.def_ 18 (d := d_places_right) rfl
  have F18 : Fun K "_law_places_right" "_law_places_right" s_places_right (He.fAd K ("_law_places_right", none)) fd18 := fun_of D18
  have b18 := F18.binds (ps := ["_law_form_here"]) fun _ _ _ _ _ _ us hl => match us, hl with | [_], _ => rfl
  obtain ⟨fd19, D19⟩ := c.t.d.def_ 19 (d := d_law) rfl
  have F19 : Fun K "law" "law" s_law (He.fAd K ("law", none)) fd19 := fun_of D19
  have b19 := F19.binds (ps := ["_law_script"]) fun _ _ _ _ _ _ us hl => match us, hl with | [_], _ => rfl
  have mo := c.more
  obtain ⟨y0, mo⟩ := He.ba mo
  have e := hfa.symm.trans (He.glo_ok X G (c.t.d.fact 19 (f := .glo "law") rfl))
  cases e
  let T : Tx w K mg := { f_is_whole := _, fd_is_whole := _, F_is_whole := F0, g_is_whole := He.glo_ok X G (c.t.d.fact 0 (f := .glo "is_whole") rfl), b_is_whole := b0, f_inner_of := _, fd_inner_of := _, F_inner_of := F1, g_inner_of := He.glo_ok X G (c.t.d.fact 1 (f := .glo "inner_of") rfl), b_inner_of := b1, f_worth_of := _, fd_worth_of := _, F_worth_of := F2, g_worth_of := He.glo_ok X G (c.t.d.fact 2 (f := .glo "worth_of") rfl), b_worth_of := b2, f_still_worth := _, fd_still_worth := _, F_still_worth := F3, g_still_worth := He.glo_ok X G (c.t.d.fact 3 (f := .glo "still_worth") rfl), b_still_worth := b3, f_parts_in := _, fd_parts_in := _, F_parts_in := F4, g_parts_in := He.glo_ok X G (c.t.d.fact 4 (f := .glo "parts_in") rfl), b_parts_in := b4, c_parts_in := (He.cT K ("parts_in", none)).1, P_parts_in := (He.cT K ("parts_in", none)).2, cd_parts_in := code_of F4, f_levels_of := _, fd_levels_of := _, F_levels_of := F5, g_levels_of := He.glo_ok X G (c.t.d.fact 5 (f := .glo "levels_of") rfl), b_levels_of := b5, f_form_at := _, fd_form_at := _, F_form_at := F6, g_form_at := He.glo_ok X G (c.t.d.fact 6 (f := .glo "form_at") rfl), b_form_at := b6, f_deck := _, fd_deck := _, F_deck := F7, g_deck := He.glo_ok X G (c.t.d.fact 7 (f := .glo "_law_deck") rfl), b_deck := b7, f_mixed := _, fd_mixed := _, F_mixed := F8, g_mixed := He.glo_ok X G (c.t.d.fact 8 (f := .glo "_law_mixed") rfl), b_mixed := b8, f_take := _, fd_take := _, F_take := F9, g_take := He.glo_ok X G (c.t.d.fact 9 (f := .glo "_law_take") rfl), b_take := b9, f_form := _, fd_form := _, F_form := F10, g_form := He.glo_ok X G (c.t.d.fact 10 (f := .glo "_law_form") rfl), b_form := b10, f_inner := _, fd_inner := _, F_inner := F11, g_inner := He.glo_ok X G (c.t.d.fact 11 (f := .glo "_law_inner") rfl), b_inner := b11, f_count := _, fd_count := _, F_count := F12, g_count := He.glo_ok X G (c.t.d.fact 12 (f := .glo "_law_count") rfl), b_count := b12, f_some_form := _, fd_some_form := _, F_some_form := F13, g_some_form := He.glo_ok X G (c.t.d.fact 13 (f := .glo "_law_some_form") rfl), b_some_form := b13, f_tower := _, fd_tower := _, F_tower := F14, g_tower := He.glo_ok X G (c.t.d.fact 14 (f := .glo "_law_tower") rfl), b_tower := b14, f_worth := _, fd_worth := _, F_worth := F15, g_worth := He.glo_ok X G (c.t.d.fact 15 (f := .glo "_law_worth") rfl), b_worth := b15, f_rows := _, fd_rows := _, F_rows := F16, g_rows := He.glo_ok X G (c.t.d.fact 16 (f := .glo "_law_rows") rfl), b_rows := b16, f_places := _, fd_places := _, F_places := F17, g_places := He.glo_ok X G (c.t.d.fact 17 (f := .glo "_law_places") rfl), b_places := b17, f_places_right := _, fd_places_right := _, F_places_right := F18, g_places_right := He.glo_ok X G (c.t.d.fact 18 (f := .glo "_law_places_right") rfl), b_places_right := b18, f_law := _, fd_law := _, F_law := F19, g_law := He.glo_ok X G (c.t.d.fact 19 (f := .glo "law") rfl), b_law := b19, m_bool := He.free_ok X G (c.t.d.fact 20 (f := .free "bool") rfl), m_enumerate := He.free_ok X G (c.t.d.fact 21 (f := .free "enumerate") rfl), m_int := He.free_ok X G (c.t.d.fact 22 (f := .free "int") rfl), m_isinstance := He.free_ok X G (c.t.d.fact 23 (f := .free "isinstance") rfl), m_len := He.free_ok X G (c.t.d.fact 24 (f := .free "len") rfl), m_list := He.free_ok X G (c.t.d.fact 25 (f := .free "list") rfl), m_max := He.free_ok X G (c.t.d.fact 26 (f := .free "max") rfl), m_min := He.free_ok X G (c.t.d.fact 27 (f := .free "min") rfl), m_range := He.free_ok X G (c.t.d.fact 28 (f := .free "range") rfl), m_repr := He.free_ok X G (c.t.d.fact 29 (f := .free "repr") rfl), m_reversed := He.free_ok X G (c.t.d.fact 30 (f := .free "reversed") rfl), m_sum := He.free_ok X G (c.t.d.fact 31 (f := .free "sum") rfl), m_tuple := He.free_ok X G (c.t.d.fact 32 (f := .free "tuple") rfl), A_STILL := _, gA_STILL := He.glo_ok X G (c.t.d.fact 33 (f := .glo "STILL") rfl), kd_STILL := c.t.tab 0, kv_STILL := KdS.kdB_ok y0 }
  refine ⟨fd19, tf.map (He.cT K), sp_law K T.tabs, ?_, ?_, ?_, ?_, ?_, ?_⟩
  · rintro p hp
    obtain ⟨d, hd, rfl⟩ := List.mem_map.mp hp
    exact c.empty d hd
  · rintro p hp
    obtain ⟨d, hd, rfl⟩ := List.mem_map.mp hp
    exact c.out d hd
  · rintro p hp
    obtain ⟨d, hd, rfl⟩ := List.mem_map.mp hp
    exact PySem.W.codeHd_of_K X (c.hd d hd)
  · obtain ⟨oc, od, kV, doc, pm, an, cdv, ct, osl, rfl, lk, hcd⟩ := F19.ex
    exact fun s v => .of_eq rfl
  · intro H a ns hl hbits hT hS
    refine ⟨a, ns, rfl, hS, hl, fun P hP => ?_, fun _ => rfl⟩
    have hP : P ∈ (tf.map (He.cT K)).map (·.2) := hP
    obtain ⟨p, hp, rfl⟩ := List.mem_map.mp hP
    exact ⟨#[], hT p hp, by trivial⟩
  · intro base KB GB hTB
    have B : Tb base T := ⟨tab_of (hTB (He.cT K ("parts_in", none)) (List.mem_map.mpr ⟨_, (show (("parts_in", none) : He.Defn) ∈ tf by decide), rfl⟩))⟩
    exact ok_law T B
end Gk
open PySem PySem.W PyProof.Rows
set_option maxRecDepth 100000 in
set_option maxHeartbeats 0 in
theorem PySem.Challenge.cw_glitchnet_k55_worths_parts_places_holds : PySem.Challenge.rw_glitchnet_k55_worths_parts_places.Holds := by
  w_on; o_law
  refine HandSHeadRun.head_any (r := OpenLaw.row PySem.Challenge.rw_glitchnet_k55_worths_parts_places) (q := view (OpenLaw.row PySem.Challenge.rw_glitchnet_k55_worths_parts_places).prog [23]) (H := Gk.hk) (ob := Gk.ob) (M := 3000) (loose := [("is_whole" : PySem.Str), ("STILL" : PySem.Str), ("inner_of" : PySem.Str), ("worth_of" : PySem.Str), ("still_worth" : PySem.Str), ("parts_in" : PySem.Str), ("levels_of" : PySem.Str), ("form_at" : PySem.Str), ("_law_deck" : PySem.Str), ("_law_mixed" : PySem.Str), ("_law_take" : PySem.Str), ("_law_form" : PySem.Str), ("_law_inner" : PySem.Str), ("_law_count" : PySem.Str), ("_law_some_form" : PySem.Str), ("_law_tower" : PySem.Str), ("_law_worth" : PySem.Str), ("_law_rows" : PySem.Str), ("_law_places" : PySem.Str), ("_law_places_right" : PySem.Str)]) (d := HandSHeadRun.topDef (OpenLaw.row PySem.Challenge.rw_glitchnet_k55_worths_parts_places).prog 23) (kwd := []) Gk.ob_eq
    (by kernel_rfl) (fun s => by kernel_rfl) Gk.run (by kernel_rfl) (by kernel_rfl) (by kernel_rfl) (by rfl) (by first | assumption | decide +kernel) (by decide +kernel) ⟨rfl, rfl, rfl, rfl, rfl, by decide +kernel⟩ ?hw ?hc
  case hw => w_witness2
  case hc =>
    refine Gk.walk_GT (l := PySem.Challenge.rw_glitchnet_k55_worths_parts_places) (n := 63) (k := 26) (x := "_law_script") (CX := fun _ => L2.CX0) rfl (by decide) (by kernel_rfl) ⟨rfl, by decide, by decide⟩ ?F (fun _ _ _ _ _ z => z)
    intro w mg fa h Y G hmg0
    obtain ⟨K, KX, c⟩ := Y
    have hmg : mg ("law" : PySem.Str) = some (.ref fa) := by
      have e : (HandSHeadRun.topDef (OpenLaw.row PySem.Challenge.rw_glitchnet_k55_worths_parts_places).prog 23).name = ("law" : PySem.Str) := by kernel_rfl
      rw [← e]
      exact hmg0
    exact ⟨K, KX, Gk.facts KX G hmg c⟩
