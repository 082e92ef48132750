import PyProof.Rows.All
import Wide.All
import OpenK.AllK
import Wide.FinOn
import KE.GoesMore
import HandS.ForMost
import HandS.IsInst
import HandS.TupLe
import HandS.TupAny
import HandS.TupMul
import HandS.More
import HandS.Codes
import HandS.Conv
import HandS.Deep
import HandS.TupSets
import HandS.Style
import HandS.Strs
import HandS.AnyAll
import HandS.GenList
import HandS.JoinGen
import HandS.Zip
import HandS.Rev
import HandS.SetFor
import HandS.Head0
import HandS.Head1
import HandS.Head2
import HandS.HeadEnd
import HandS.HeadHook1
import HandS.HeadHook2
import HandS.HeadHook3
import HandS.HeadHook4
import HandS.HeadWalk
import HandS.Defaults
import HandS.ReplaceLit
import PySem.Challenge.RW_glitchnet_k38_how_often_covers_change
set_option Elab.async false
set_option linter.all false
set_option maxRecDepth 100000
set_option maxHeartbeats 1000000
namespace Gk
open PySem PySem.Spec PyProof.Rows L2
/-! ### the text -/
def topS (i : Nat) : Stmt := PySem.Challenge.pw_glitchnet_k38_how_often_covers_change.main.body.getD i (.Pass ⟨0, 0, 0, 0⟩)
abbrev s_show_row : Stmt := topS 1
abbrev s_holds_row : Stmt := topS 3
abbrev s_holds_all : Stmt := topS 4
abbrev s_meet : Stmt := topS 5
abbrev s_cube_of : Stmt := topS 6
abbrev s_told_of : Stmt := topS 8
abbrev s_cover_word : Stmt := topS 9
abbrev s_cover_greatest : Stmt := topS 10
abbrev s_judged : Stmt := topS 11
abbrev s_first_holding : Stmt := topS 12
abbrev s_flashes : Stmt := topS 13
abbrev s_deck : Stmt := topS 15
abbrev s_draw : Stmt := topS 16
abbrev s_many : Stmt := topS 17
abbrev s_row : Stmt := topS 18
abbrev s_change : Stmt := topS 19
abbrev s_product : Stmt := topS 20
abbrev s_cover : Stmt := topS 21
abbrev s_holds : Stmt := topS 22
abbrev s_rows : Stmt := topS 23
abbrev s_told : Stmt := topS 24
abbrev s_meets : Stmt := topS 25
abbrev s_sorts : Stmt := topS 26
abbrev s_most : Stmt := topS 27
abbrev s_row_of : Stmt := topS 28
abbrev s_great : Stmt := topS 29
abbrev s_right : Stmt := topS 30
abbrev s_law : Stmt := topS 31
theorem sc_show_row : FnScope ["row", "worth"] ["row"] (defScope s_show_row) := ⟨rfl, rfl, rfl, by decide +kernel, rfl, by decide +kernel, by decide +kernel⟩
theorem sc_holds_row : FnScope ["product", "row"] ["product", "row"] (defScope s_holds_row) := ⟨rfl, rfl, rfl, by decide +kernel, rfl, by decide +kernel, by decide +kernel⟩
theorem sc_holds_all : FnScope ["product", "other", "sign", "held"] ["product", "other"] (defScope s_holds_all) := ⟨rfl, rfl, rfl, by decide +kernel, rfl, by decide +kernel, by decide +kernel⟩
theorem sc_meet : FnScope ["product", "other", "one", "two"] ["product", "other"] (defScope s_meet) := ⟨rfl, rfl, rfl, by decide +kernel, rfl, by decide +kernel, by decide +kernel⟩
theorem sc_cube_of : FnScope ["change", "a", "b", "before", "after"] ["change"] (defScope s_cube_of) := ⟨rfl, rfl, rfl, by decide +kernel, rfl, by decide +kernel, by decide +kernel⟩
theorem sc_told_of : FnScope ["cover", "row", "product"] ["cover", "row"] (defScope s_told_of) := ⟨rfl, rfl, rfl, by decide +kernel, rfl, by decide +kernel, by decide +kernel⟩
theorem sc_cover_word : FnScope ["cover", "change", "a", "b"] ["cover", "change"] (defScope s_cover_word) := ⟨rfl, rfl, rfl, by decide +kernel, rfl, by decide +kernel, by decide +kernel⟩
theorem sc_cover_greatest : FnScope ["cover", "change", "a", "b", "products", "flashing", "product"] ["cover", "change"] (defScope s_cover_greatest) := ⟨rfl, rfl, rfl, by decide +kernel, rfl, by decide +kernel, by decide +kernel⟩
theorem sc_judged : FnScope ["cover", "change", "a", "b", "products", "k", "product"] ["cover", "change"] (defScope s_judged) := ⟨rfl, rfl, rfl, by decide +kernel, rfl, by decide +kernel, by decide +kernel⟩
theorem sc_first_holding : FnScope ["products", "change", "cube", "k", "product"] ["products", "change"] (defScope s_first_holding) := ⟨rfl, rfl, rfl, by decide +kernel, rfl, by decide +kernel, by decide +kernel⟩
theorem sc_flashes : FnScope ["product", "change", "a", "b"] ["product", "change"] (defScope s_flashes) := ⟨rfl, rfl, rfl, by decide +kernel, rfl, by decide +kernel, by decide +kernel⟩
theorem sc_deck : FnScope ["_law_script"] ["_law_script"] (defScope s_deck) := ⟨rfl, rfl, rfl, by decide +kernel, rfl, by decide +kernel, by decide +kernel⟩
theorem sc_draw : FnScope ["_law_deck_here", "_law_most_here", "_law_cells", "_law_digit", "_law_cell", "_law_number"] ["_law_deck_here", "_law_most_here"] (defScope s_draw) := ⟨rfl, rfl, rfl, by decide +kernel, rfl, by decide +kernel, by decide +kernel⟩
theorem sc_many : FnScope ["_law_deck_here", "_law_way"] ["_law_deck_here"] (defScope s_many) := ⟨rfl, rfl, rfl, by decide +kernel, rfl, by decide +kernel, by decide +kernel⟩
theorem sc_row : FnScope ["_law_deck_here", "_law_many_here", "_law_k"] ["_law_deck_here", "_law_many_here"] (defScope s_row) := ⟨rfl, rfl, rfl, by decide +kernel, rfl, by decide +kernel, by decide +kernel⟩
theorem sc_change : FnScope ["_law_deck_here", "_law_many_here", "_law_way", "_law_row_here", "_law_place", "_law_worth"] ["_law_deck_here", "_law_many_here"] (defScope s_change) := ⟨rfl, rfl, rfl, by decide +kernel, rfl, by decide +kernel, by decide +kernel⟩
theorem sc_product : FnScope ["_law_deck_here", "_law_many_here", "_law_way", "_law_k", "_law_worth"] ["_law_deck_here", "_law_many_here"] (defScope s_product) := ⟨rfl, rfl, rfl, by decide +kernel, rfl, by decide +kernel, by decide +kernel⟩
theorem sc_cover : FnScope ["_law_deck_here", "_law_many_here", "_law_way", "_law_found", "_law_k", "_law_sort", "_law_product_here", "_law_place"] ["_law_deck_here", "_law_many_here"] (defScope s_cover) := ⟨rfl, rfl, rfl, by decide +kernel, rfl, by decide +kernel, by decide +kernel⟩
theorem sc_holds : FnScope ["_law_product_here", "_law_row_here", "_law_sign", "_law_worth"] ["_law_product_here", "_law_row_here"] (defScope s_holds) := ⟨rfl, rfl, rfl, by decide +kernel, rfl, by decide +kernel, by decide +kernel⟩
theorem sc_rows : FnScope ["_law_many_here", "_law_found", "_law_place", "_law_row_here"] ["_law_many_here"] (defScope s_rows) := ⟨rfl, rfl, rfl, by decide +kernel, rfl, by decide +kernel, by decide +kernel⟩
theorem sc_told : FnScope ["_law_cover_here", "_law_row_here", "_law_product_here"] ["_law_cover_here", "_law_row_here"] (defScope s_told) := ⟨rfl, rfl, rfl, by decide +kernel, rfl, by decide +kernel, by decide +kernel⟩
theorem sc_meets : FnScope ["_law_product_here", "_law_change_here", "_law_sign", "_law_one", "_law_other"] ["_law_product_here", "_law_change_here"] (defScope s_meets) := ⟨rfl, rfl, rfl, by decide +kernel, rfl, by decide +kernel, by decide +kernel⟩
theorem sc_sorts : FnScope ["_law_cover_here", "_law_change_here", "_law_sorts_here", "_law_product_here", "_law_held", "_law_k", "_law_row_here"] ["_law_cover_here", "_law_change_here"] (defScope s_sorts) := ⟨rfl, rfl, rfl, by decide +kernel, rfl, by decide +kernel, by decide +kernel⟩
theorem sc_most : FnScope ["_law_cover_here", "_law_change_here", "_law_always", "_law_falls", "_law_rises", "_law_passes", "_law_most_here", "_law_waits", "_law_here", "_law_low", "_law_high", "_law_steps", "_law_on", "_law_found", "_law_step", "_law_there"] ["_law_cover_here", "_law_change_here"] (defScope s_most) := ⟨rfl, rfl, rfl, by decide +kernel, rfl, by decide +kernel, by decide +kernel⟩
theorem sc_row_of : FnScope ["_law_deck_here", "_law_product_here", "_law_sign"] ["_law_deck_here", "_law_product_here"] (defScope s_row_of) := ⟨rfl, rfl, rfl, by decide +kernel, rfl, by decide +kernel, by decide +kernel⟩
theorem sc_great : FnScope ["_law_deck_here", "_law_many_here", "_law_row_here", "_law_other", "_law_found", "_law_k", "_law_signs", "_law_at", "_law_worth", "_law_one"] ["_law_deck_here"] (defScope s_great) := ⟨rfl, rfl, rfl, by decide +kernel, rfl, by decide +kernel, by decide +kernel⟩
theorem sc_right : FnScope ["_law_cover_here", "_law_change_here", "_law_due", "_law_pair", "_law_found", "_law_ends", "_law_row_here"] ["_law_cover_here", "_law_change_here"] (defScope s_right) := ⟨rfl, rfl, rfl, by decide +kernel, rfl, by decide +kernel, by decide +kernel⟩
theorem sc_law : FnScope ["_law_script", "_law_deck_here", "_law_cover_here", "_law_change_here", "_law_turn", "_law_many_here", "_law_k", "_law_way", "_law_ends", "_law_j"] ["_law_script"] (defScope s_law) := ⟨rfl, rfl, rfl, by decide +kernel, rfl, by decide +kernel, by decide +kernel⟩
structure Tx (K : PySem.W.Frag) (mg : Str → Option Value) where
  f_show_row : Addr
  fd_show_row : FuncData
  F_show_row : Fun K "show_row" "show_row" s_show_row f_show_row fd_show_row
  g_show_row : mg "show_row" = some (.ref f_show_row)
  b_show_row : Binds K fd_show_row ["row"] []
  c_show_row : Addr
  P_show_row : Addr
  cd_show_row : fd_show_row.code = .ref c_show_row
  f_holds_row : Addr
  fd_holds_row : FuncData
  F_holds_row : Fun K "holds_row" "holds_row" s_holds_row f_holds_row fd_holds_row
  g_holds_row : mg "holds_row" = some (.ref f_holds_row)
  b_holds_row : Binds K fd_holds_row ["product", "row"] []
  f_holds_all : Addr
  fd_holds_all : FuncData
  F_holds_all : Fun K "holds_all" "holds_all" s_holds_all f_holds_all fd_holds_all
  g_holds_all : mg "holds_all" = some (.ref f_holds_all)
  b_holds_all : Binds K fd_holds_all ["product", "other"] []
  c_holds_all : Addr
  P_holds_all : Addr
  cd_holds_all : fd_holds_all.code = .ref c_holds_all
  f_meet : Addr
  fd_meet : FuncData
  F_meet : Fun K "meet" "meet" s_meet f_meet fd_meet
  g_meet : mg "meet" = some (.ref f_meet)
  b_meet : Binds K fd_meet ["product", "other"] []
  c_meet : Addr
  P_meet : Addr
  cd_meet : fd_meet.code = .ref c_meet
  f_cube_of : Addr
  fd_cube_of : FuncData
  F_cube_of : Fun K "cube_of" "cube_of" s_cube_of f_cube_of fd_cube_of
  g_cube_of : mg "cube_of" = some (.ref f_cube_of)
  b_cube_of : Binds K fd_cube_of ["change"] []
  c_cube_of : Addr
  P_cube_of : Addr
  cd_cube_of : fd_cube_of.code = .ref c_cube_of
  f_told_of : Addr
  fd_told_of : FuncData
  F_told_of : Fun K "told_of" "told_of" s_told_of f_told_of fd_told_of
  g_told_of : mg "told_of" = some (.ref f_told_of)
  b_told_of : Binds K fd_told_of ["cover", "row"] []
  c_told_of : Addr
  P_told_of : Addr
  cd_told_of : fd_told_of.code = .ref c_told_of
  f_cover_word : Addr
  fd_cover_word : FuncData
  F_cover_word : Fun K "cover_word" "cover_word" s_cover_word f_cover_word fd_cover_word
  g_cover_word : mg "cover_word" = some (.ref f_cover_word)
  b_cover_word : Binds K fd_cover_word ["cover", "change"] []
  f_cover_greatest : Addr
  fd_cover_greatest : FuncData
  F_cover_greatest : Fun K "cover_greatest" "cover_greatest" s_cover_greatest f_cover_greatest fd_cover_greatest
  g_cover_greatest : mg "cover_greatest" = some (.ref f_cover_greatest)
  b_cover_greatest : Binds K fd_cover_greatest ["cover", "change"] []
  c_cover_greatest : Addr
  P_cover_greatest : Addr
  cd_cover_greatest : fd_cover_greatest.code = .ref c_cover_greatest
  f_judged : Addr
  fd_judged : FuncData
  F_judged : Fun K "judged" "judged" s_judged f_judged fd_judged
  g_judged : mg "judged" = some (.ref f_judged)
  b_judged : Binds K fd_judged ["cover", "change"] []
  f_first_holding : Addr
  fd_first_holding : FuncData
  F_first_holding : Fun K "first_holding" "first_holding" s_first_holding f_first_holding fd_first_holding
  g_first_holding : mg "first_holding" = some (.ref f_first_holding)
  b_first_holding : Binds K fd_first_holding ["products", "change"] []
  f_flashes : Addr
  fd_flashes : FuncData
  F_flashes : Fun K "flashes" "flashes" s_flashes f_flashes fd_flashes
  g_flashes : mg "flashes" = some (.ref f_flashes)
  b_flashes : Binds K fd_flashes ["product", "change"] []
  f_deck : Addr
  fd_deck : FuncData
  F_deck : Fun K "_law_deck" "_law_deck" s_deck f_deck fd_deck
  g_deck : mg "_law_deck" = some (.ref f_deck)
  b_deck : Binds K fd_deck ["_law_script"] []
  f_draw : Addr
  fd_draw : FuncData
  F_draw : Fun K "_law_draw" "_law_draw" s_draw f_draw fd_draw
  g_draw : mg "_law_draw" = some (.ref f_draw)
  b_draw : Binds K fd_draw ["_law_deck_here", "_law_most_here"] []
  f_many : Addr
  fd_many : FuncData
  F_many : Fun K "_law_many" "_law_many" s_many f_many fd_many
  g_many : mg "_law_many" = some (.ref f_many)
  b_many : Binds K fd_many ["_law_deck_here"] []
  f_row : Addr
  fd_row : FuncData
  F_row : Fun K "_law_row" "_law_row" s_row f_row fd_row
  g_row : mg "_law_row" = some (.ref f_row)
  b_row : Binds K fd_row ["_law_deck_here", "_law_many_here"] []
  f_change : Addr
  fd_change : FuncData
  F_change : Fun K "_law_change" "_law_change" s_change f_change fd_change
  g_change : mg "_law_change" = some (.ref f_change)
  b_change : Binds K fd_change ["_law_deck_here", "_law_many_here"] []
  f_product : Addr
  fd_product : FuncData
  F_product : Fun K "_law_product" "_law_product" s_product f_product fd_product
  g_product : mg "_law_product" = some (.ref f_product)
  b_product : Binds K fd_product ["_law_deck_here", "_law_many_here"] []
  f_cover : Addr
  fd_cover : FuncData
  F_cover : Fun K "_law_cover" "_law_cover" s_cover f_cover fd_cover
  g_cover : mg "_law_cover" = some (.ref f_cover)
  b_cover : Binds K fd_cover ["_law_deck_here", "_law_many_here"] []
  f_holds : Addr
  fd_holds : FuncData
  F_holds : Fun K "_law_holds" "_law_holds" s_holds f_holds fd_holds
  g_holds : mg "_law_holds" = some (.ref f_holds)
  b_holds : Binds K fd_holds ["_law_product_here", "_law_row_here"] []
  f_rows : Addr
  fd_rows : FuncData
  F_rows : Fun K "_law_rows" "_law_rows" s_rows f_rows fd_rows
  g_rows : mg "_law_rows" = some (.ref f_rows)
  b_rows : Binds K fd_rows ["_law_many_here"] []
  f_told : Addr
  fd_told : FuncData
  F_told : Fun K "_law_told" "_law_told" s_told f_told fd_told
  g_told : mg "_law_told" = some (.ref f_told)
  b_told : Binds K fd_told ["_law_cover_here", "_law_row_here"] []
  f_meets : Addr
  fd_meets : FuncData
  F_meets : Fun K "_law_meets" "_law_meets" s_meets f_meets fd_meets
  g_meets : mg "_law_meets" = some (.ref f_meets)
  b_meets : Binds K fd_meets ["_law_product_here", "_law_change_here"] []
  f_sorts : Addr
  fd_sorts : FuncData
  F_sorts : Fun K "_law_sorts" "_law_sorts" s_sorts f_sorts fd_sorts
  g_sorts : mg "_law_sorts" = some (.ref f_sorts)
  b_sorts : Binds K fd_sorts ["_law_cover_here", "_law_change_here"] []
  f_most : Addr
  fd_most : FuncData
  F_most : Fun K "_law_most" "_law_most" s_most f_most fd_most
  g_most : mg "_law_most" = some (.ref f_most)
  b_most : Binds K fd_most ["_law_cover_here", "_law_change_here"] []
  f_row_of : Addr
  fd_row_of : FuncData
  F_row_of : Fun K "_law_row_of" "_law_row_of" s_row_of f_row_of fd_row_of
  g_row_of : mg "_law_row_of" = some (.ref f_row_of)
  b_row_of : Binds K fd_row_of ["_law_deck_here", "_law_product_here"] []
  f_great : Addr
  fd_great : FuncData
  F_great : Fun K "_law_great" "_law_great" s_great f_great fd_great
  g_great : mg "_law_great" = some (.ref f_great)
  b_great : Binds K fd_great ["_law_deck_here"] []
  f_right : Addr
  fd_right : FuncData
  F_right : Fun K "_law_right" "_law_right" s_right f_right fd_right
  g_right : mg "_law_right" = some (.ref f_right)
  b_right : Binds K fd_right ["_law_cover_here", "_law_change_here"] []
  f_law : Addr
  fd_law : FuncData
  F_law : Fun K "law" "law" s_law f_law fd_law
  g_law : mg "law" = some (.ref f_law)
  b_law : Binds K fd_law ["_law_script"] []
  m_all : mg "all" = none
  m_any : mg "any" = none
  m_bool : mg "bool" = none
  m_enumerate : mg "enumerate" = none
  m_int : mg "int" = none
  m_isinstance : mg "isinstance" = none
  m_len : mg "len" = none
  m_list : mg "list" = none
  m_max : mg "max" = none
  m_range : mg "range" = none
  m_str : mg "str" = none
  m_sum : mg "sum" = none
  m_tuple : mg "tuple" = none
  m_zip : mg "zip" = none
structure Tb (base : Heap) {K : PySem.W.Frag} {mg : Str → Option Value} (T : Tx K mg) : Prop where
  TB_show_row : GxR.TabB base mg T.c_show_row T.P_show_row
  TB_holds_all : GxR.TabB base mg T.c_holds_all T.P_holds_all
  TB_meet : GxR.TabB base mg T.c_meet T.P_meet
  TB_cube_of : GxR.TabB base mg T.c_cube_of T.P_cube_of
  TB_told_of : GxR.TabB base mg T.c_told_of T.P_told_of
  TB_cover_greatest : GxR.TabB base mg T.c_cover_greatest T.P_cover_greatest
def Tx.tabs {K : PySem.W.Frag} {mg : Str → Option Value} (T : Tx K mg) : List Addr := [T.P_show_row, T.P_holds_all, T.P_meet, T.P_cube_of, T.P_told_of, T.P_cover_greatest]
/-! ### generator expressions whose elements may call -/
theorem inv_moved {X : Cx} {cp : List (Addr × Obj)} {σ : L2.St} {H : Hp} {s s' : Shared} (I : Inv X cp σ H s) (os : s'.os = s.os) (bare : AllBare s'.gens) (k : ∀ b o, s.heap.get? b = some o → s'.heap.get? b = some o) : Inv X cp σ H s' :=
  I.call' (ch := []) os (Un.kept k) (I.hok.kept k) bare fun b hb => absurd hb (by simp)
/-- the context of a generator expression's frame: C its frame, s, H the entry, fp its iterator's objects -/
abbrev gblk (X : Cx) (A : Around) (s : Shared) (H : Hp) (cenv : Env) (fp : List Addr) : Cx :=
  { X with A := A, s_0 := s, H_0 := H, env := cenv, outer := X.stack, stack := cenv :: X.stack, ex := fp, fn := fun _ => false, pn := [], xe := fun _ _ => False }
section
variable {X : Cx} {pins : List (Addr × Obj)} {σ : L2.St} {H : Hp} {s : Shared}
theorem gen_start {scope : Scope} {own : List (Str × Nat)} {fp : List Addr} {A : Around} {code it : Value} {s5 : Shared} {cp : List (Addr × Obj)}
    (I : Inv X pins σ H s) (ok : BlkOk X.N X.env.scope scope own) (nocell : ∀ y ∈ scope.names, y.2 ≠ .cell) (hN : X.N.Nodup) (hfp : ∀ b ∈ fp, FpOk X pins H b ∧ b < s.heap.objs.size)
    (hh : A.handled = none) (hfr : A.frames = some (genEnv scope (cloFrom X.env.cells scope.names []) s.heap.objs.size code builtinsNs X.env :: X.stack))
    (os : s5.os = s.os) (bare : AllBare s5.gens) (kp : ∀ b o, s.heap.get? b = some o → s5.heap.get? b = some o)
    (hns : s5.heap.Ns s.heap.objs.size fun y => if y = ".0" then some it else none)
    (hcp : ∀ p ∈ cp, s.heap.objs.size < p.1 ∧ s5.heap.get? p.1 = some p.2 ∧ ∀ v, p.2.data ≠ .cell v) :
    Inv (gblk X A s H (genEnv scope (cloFrom X.env.cells scope.names []) s.heap.objs.size code builtinsNs X.env) fp) cp (wipe σ (own.map (·.2))) H s5 := by
  have hfree : ∀ y ∈ scope.names, y.2 = .free → ∃ c, X.env.cells.lookup y.1 = some c := fun y hy e => by
    rcases ok.free y hy e with k | k
    · exact I.ok.has _ (.inl k)
    · exact I.ok.has _ (.inr k)
  generalize hcenv : genEnv scope (cloFrom X.env.cells scope.names []) s.heap.objs.size code builtinsNs X.env = cenv at hfr ⊢
  have hL : cenv.locals = s.heap.objs.size := by rw [← hcenv]; rfl
  have hcl : cenv.cells = cloFrom X.env.cells scope.names [] := by rw [← hcenv]; rfl
  have hsc : cenv.scope = scope := by rw [← hcenv]; rfl
  have cm : ∀ {y c}, (y, c) ∈ cloFrom X.env.cells scope.names [] → X.env.cells.lookup y = some c ∧ c < s.heap.objs.size := fun {y c} hm => by
    rcases cloFrom_mem hm with hm | ⟨h1, rfl⟩
    · cases hm
    · obtain ⟨c, hc⟩ := hfree _ h1 rfl
      rw [hc]
      obtain ⟨w, z⟩ := I.cell _ _ hc
      exact ⟨rfl, z.lt⟩
  have mem : ∀ {y c}, cenv.cells.lookup y = some c → X.env.cells.lookup y = some c ∧ c < s.heap.objs.size := fun {y c} e => by
    rw [hcl] at e
    exact cm (PySem.mem_of_lookup e)
  have look : ∀ {y}, scope.names.lookup y = some .free → ∃ c, cenv.cells.lookup y = some c ∧ X.env.cells.lookup y = some c := fun {y} hl => by
    have hy : (y, NameKind.free) ∈ scope.names := PySem.mem_of_lookup hl
    obtain ⟨c', e'⟩ := mem_lookup (cloFrom_has (cells := X.env.cells) (acc := []) hy)
    rw [← hcl] at e'
    exact ⟨c', e', (mem e').1⟩
  have okB : (gblk X A s H cenv fp).Ok := by
    refine ⟨I.ok.mod, by show cenv.scope.kind = _; rw [hsc]; exact ok.kind, by show cenv.globals = _; rw [← hcenv]; exact I.ok.glob, by show cenv.builtins = _; rw [← hcenv]; rfl, by show s.heap.objs.size ≤ cenv.locals; rw [hL]; exact Nat.le_refl _,
      fun y z c e1 e2 => I.ok.inj y z c (mem e1).1 (mem e2).1, fun y hy => ?_, fun y c z e => (by cases z), fun _ => hh, hfr, .inr ⟨rfl, by show cenv.frame = some cenv.locals; rw [← hcenv]; rfl⟩, fun b hb => ⟨?_, fun y c e z => ?_⟩, I.bs, Nat.le_trans I.ok.bsz I.sz, fun b o e hb => ?_, fun b hb z => ?_, I.stack, I.stkFree⟩
    · have hy' : scope.names.lookup y = some .cell ∨ scope.names.lookup y = some .free := by
        rw [← hsc]
        exact hy
      rcases hy' with e | e
      · exact absurd rfl (nocell _ (PySem.mem_of_lookup e))
      · obtain ⟨c, h1, _⟩ := look e
        exact ⟨c, h1⟩
    · show b ≠ cenv.locals
      rw [hL]; exact Nat.ne_of_lt (hfp b hb).2
    · exact (hfp b hb).1.2.2.2.2.1 y c (mem e).1 z
    · rcases (hfp b hb).1.2.2.2.1 with z | z
      · exact I.ok.noex b o e z
      · exact absurd (Nat.lt_of_lt_of_le (Heap.lt_size e) (Nat.le_trans I.ok.bsz z)) (Nat.lt_irrefl _)
    · rcases List.mem_cons.mp (I.stkSub b z) with z | z
      · exact (hfp b hb).1.2.1 z
      · exact (hfp b hb).1.2.2.1 z
  refine ⟨okB, os, bare, Un.kept kp, ⟨_, (by show s5.heap.Ns cenv.locals _; rw [hL]; exact hns), fun i y av e1 e2 e3 => ?_⟩, fun y c e => ?_, ?_, fun y c e => I.freeC y c (mem e).1, fun p hp => ?_, I.hok.kept kp, by rw [wipe_length]; exact I.len⟩
  · obtain ⟨e2, hne⟩ := wipe_some e2
    have e3 : Vis scope y := by rw [← hsc]; exact e3
    have no : ∀ k, scope.names.lookup y = some k → ¬ (k = .local ∨ k = .cell) := fun k e hh => by
      rcases ok.own _ (PySem.mem_of_lookup e) hh with e' | e'
      · obtain ⟨p, hp, hpy⟩ := List.mem_map.mp e'
        have e3 := ok.ix p hp
        have : p.1 = y := hpy
        rw [this] at e3
        exact hne (List.mem_map.mpr ⟨p, hp, nodup_ix hN e3 e1⟩)
      · exact e' (List.mem_of_getElem? e1)
    have hfr2 : scope.names.lookup y = some .free := by
      rcases e3 with e | e | e
      · exact absurd (.inl rfl) (no _ e)
      · exact absurd (.inr rfl) (no _ e)
      · exact e
    obtain ⟨m, hn, hl⟩ := I.loc
    have hvis : Vis X.env.scope y := (ok.free _ (PySem.mem_of_lookup hfr2) rfl).elim (fun k => .inr (.inl k)) (fun k => .inr (.inr k))
    obtain ⟨w, r, q⟩ := hl i y av e1 e2 hvis
    refine ⟨w, r, .inr ⟨.inr (by show cenv.scope.names.lookup y = some .free; rw [hsc]; exact hfr2), ?_⟩⟩
    obtain ⟨c, h1, h2⟩ := look hfr2
    rcases q with ⟨k, _⟩ | ⟨_, c', e', z⟩
    · have k : X.env.scope.names.lookup y = some .local := k
      rcases ok.free _ (PySem.mem_of_lookup hfr2) rfl with k' | k' <;> rw [show X.env.scope.names.lookup y = _ from k'] at k <;> cases k
    · rw [h2] at e'; cases e'
      exact ⟨c, h1, z.keeps kp⟩
  · obtain ⟨w, z⟩ := I.cell y c (mem e).1
    exact ⟨w, z.keeps kp⟩
  · show H cenv.locals = none
    rw [hL]; exact I.hok.fresh (Nat.le_refl _)
  · have hp : p ∈ cp := by simpa using hp
    obtain ⟨h1, h2, h3⟩ := hcp p hp
    refine ⟨h2, I.hok.fresh (Nat.le_of_lt h1), by show p.1 ≠ cenv.locals; rw [hL]; exact Nat.ne_of_gt h1, fun z => ?_, h3⟩
    rcases List.mem_cons.mp (I.stkSub _ z) with z | z
    · exact absurd (Nat.lt_trans I.lt h1) (by rw [z]; exact Nat.lt_irrefl _)
    · exact I.nofs (Nat.le_of_lt h1) z
end
/-! ### the talk of a generator and who asks it -/
section
variable {α : Type}
/-- handed out: x; the asker's state a (laid down in the pins cp) goes to one with Nx -/
def YG (Xg : Cx) (fp : List Addr) (tn : Nat → Heap → Prop) (AC : α → List (Addr × Obj) → Prop) (Yd : α → V → Hp → (α → Hp → Prop) → Prop) : Protocol := fun _ s0 v s kap =>
  ∃ (a : α) (x : V) (σ : L2.St) (H : Hp) (i : Nat) (cp : List (Addr × Obj)) (Nx : α → Hp → Prop), RelV x v ∧ AC a cp ∧ (∀ p ∈ cp, s0.heap.get? p.1 = some p.2) ∧ Inv Xg cp σ H s ∧ tn i s.heap ∧ (∀ b ∈ fp, H b = none) ∧ Yd a x H Nx ∧
    ∀ a' cp' s', Nx a' H → AC a' cp' → Inv Xg cp' σ H s' → tn i s'.heap → kap (.send .none) s'
def RG (Xg : Cx) (AC : α → List (Addr × Obj) → Prop) (End : α → Hp → Prop) : GenEnd := fun _ s0 r s =>
  ((r = .ok (.ret .none) ∨ r = .ok .next) ∧ ∃ (a : α) (σ : L2.St) (H : Hp) (cp : List (Addr × Obj)), AC a cp ∧ (∀ p ∈ cp, s0.heap.get? p.1 = some p.2) ∧ Inv Xg cp σ H s ∧ End a H) ∨ ∃ e, r = .error e ∧ False
/-- a generator's turns -/
def tGx (J : It) (g : TG) (tt : TT) (te : TE) (σ0 : L2.St) (vs : List Nat) (End : α → Hp → Prop) (Yd : α → V → Hp → (α → Hp → Prop) → Prop) (W : Nat → Nat → α → Hp → Prop) : Prop :=
  ∀ i m a H, W i m a H → (J.stop i H ∧ End a H) ∨ (J.go i H ∧ ∃ Nx : α → Hp → Prop, (∀ a' H', Nx a' H' → ∃ m', m' < m ∧ W (i + 1) m' a' H') ∧
    ∀ x H', J.yld i H x H' → g x σ0 H' fun σ2 H2 => wipe σ2 vs = σ0 ∧ tt σ2 H2 fun b H3 => if b = true then te σ2 H3 fun y H4 => Yd a y H4 Nx else Nx a H3)
theorem wipe_wipe_some {σ σ2 : L2.St} {vs : List Nat} (h : wipe σ2 vs = σ) : ∀ (j : Nat) v, σ[j]? = some (some v) → σ2[j]? = some (some v) := fun j v e => by
  rw [← h] at e
  exact (wipe_some e).1
theorem seg_gx {X : Cx} {A A' : Around} {s_0 : Shared} {H_0 : Hp} {elt tg iter : Expr} {ifs : List Expr} {scope : Scope} {pos : Pos} {it : Addr} {fp : List Addr} {tn : Nat → Heap → Prop} {J : It} {cenv : Env} {g : TG} {tt : TT} {te : TE} {σ0 : L2.St} {vs : List Nat}
    {AC : α → List (Addr × Obj) → Prop} {End : α → Hp → Prop} {Yd : α → V → Hp → (α → Hp → Prop) → Prop} {W : Nat → Nat → α → Hp → Prop}
    (hA : A.over (.compLoop (.GeneratorExp elt [⟨tg, iter, ifs, 0⟩] scope pos) 0 (.ref it) .none cenv) [] = A') (hc : X.calm = true) (hco : cenv.scope.isCoroutine = false)
    (T : Turn X.prog X.w X.K tg J fp it tn) (pg : PG (gblk X A' s_0 H_0 cenv fp) tg g) (pt : PTs (gblk X A' s_0 H_0 cenv fp) ifs tt) (pe : PE (gblk X A' s_0 H_0 cenv fp) elt te)
    (hAC : ∀ a cp, AC a cp → ∀ p ∈ cp, ∀ b ∈ fp, p.1 ≠ b) (turn : tGx J g tt te σ0 vs End Yd W) :
    ∀ (m n i : Nat) (a : α) (H : Hp) (s₀ s : Shared) (cp : List (Addr × Obj)), m < n → W i m a H → AC a cp → (∀ p ∈ cp, s₀.heap.get? p.1 = some p.2) → Inv (gblk X A' s_0 H_0 cenv fp) cp σ0 H s → tn i s.heap → (∀ b ∈ fp, H b = none) →
      Seg (model X.prog X.w) A (RG (gblk X A' s_0 H_0 cenv fp) AC End) (YG (gblk X A' s_0 H_0 cenv fp) fp tn AC Yd) n s₀
        (.compLoop (.GeneratorExp elt [⟨tg, iter, ifs, 0⟩] scope pos) 0 (.ref it) .none cenv)
        ((model X.prog X.w).den (.compLoop (.GeneratorExp elt [⟨tg, iter, ifs, 0⟩] scope pos) 0 (.ref it) .none cenv)) [] s := by
  have stat : ∀ {a : α} {cp : List (Addr × Obj)} {σ' : L2.St} {H' : Hp} {s' : Shared}, AC a cp → Inv (gblk X A' s_0 H_0 cenv fp) cp σ' H' s' → (∀ b ∈ fp, H' b = none) → ∀ b ∈ fp, FpOk (gblk X A' s_0 H_0 cenv fp) cp H' b := fun {a cp σ' H' s'} hac I' hn b hb =>
    ⟨hn b hb, (I'.ok.exf b hb).1, I'.ok.exfs b hb, .inl hb, fun x c e => (I'.ok.exf b hb).2 x c e, fun p hp => hAC a cp hac p (by simpa using hp) b hb⟩
  intro m
  induction m using Nat.strongRecOn with
  | ind m ih =>
    intro n i a H s₀ s cp hmn w hac tie I st nf
    show Seg _ A _ _ _ s₀ _ ((compTurn (.GeneratorExp elt [⟨tg, iter, ifs, 0⟩] scope pos) 0 (.ref it) .none cenv).onRaise (leaving cenv)) [] s
    rw [compTurn_gen, Sem.onRaise_eq_wrap]
    refine seg_bind_wrap (wpAny_standAt ?_)
    rcases turn i m a H w with ⟨stop, hend⟩ | ⟨go, Nx, hNx, step⟩
    · refine seg_bind_wrap ?_
      rw [hA]
      refine thnF (T.done (gblk X A' s_0 H_0 cenv fp) rfl rfl rfl hc i cp s σ0 H (fun _ _ => False) I (stat hac I nf) st stop) fun r s1 ⟨hr, I1⟩ => ?_
      subst hr
      exact seg_end (.ok .next) (.inl ⟨.inr rfl, a, _, H, cp, hac, tie, I1, hend⟩)
    · refine seg_bind_wrap ?_
      rw [hA]
      refine thnF (T.item (gblk X A' s_0 H_0 cenv fp) rfl rfl rfl hc i cp s σ0 H (fun _ _ => False) I (stat hac I nf) st go) fun r s1 ⟨u, hr, h1⟩ => ?_
      subst hr
      refine seg_bind_wrap ?_
      rw [hA]
      refine thnF h1 fun _ s2 ⟨x, H2, I2, r2, y2, st2, n2⟩ => ?_
      have I2' := I2.pinned (stat hac I2 n2) (T.obj _ _ st2)
      refine seg_bind_wrap ?_
      rw [hA]
      refine thnF (pg.run _ s2 _ H2 x u _ I2' r2 (step x H2 y2)) fun _ s3 ⟨σ3, H3, I3, hw3, q3⟩ => ?_
      refine seg_bind_wrap ?_
      rw [hA]
      refine thnF (pt.run _ s3 σ3 H3 _ I3 q3) fun b s4 ⟨H4, I4, q4⟩ => ?_
      have hl : σ0.length = σ3.length := by rw [← hw3, wipe_length]
      have fin : ∀ {s' : Shared} {H' : Hp}, Inv (gblk X A' s_0 H_0 cenv fp) (cp ++ pinsAt fp s2.heap) σ3 H' s' → Inv (gblk X A' s_0 H_0 cenv fp) cp σ0 H' s' ∧ tn (i + 1) s'.heap ∧ ∀ b ∈ fp, H' b = none := fun {s' H'} I' => by
        have pin' : ∀ b ∈ fp, ∀ o, s2.heap.get? b = some o → s'.heap.get? b = some o ∧ H' b = none := fun b hb o e =>
          let z := I'.pin (b, o) (List.mem_append_right _ (List.mem_append_right _ (mem_pinsAt hb e)))
          ⟨z.1, z.2.1⟩
        refine ⟨(I'.unpinned (pins := cp)).weak hl (wipe_wipe_some hw3), T.keep _ _ _ st2 fun b hb o e => (pin' b hb o e).1, fun b hb => ?_⟩
        obtain ⟨o, e, _⟩ := T.obj _ _ st2 b hb
        exact (pin' b hb o e).2
      cases b with
      | false =>
        simp only [Bool.false_eq_true, if_false] at q4 ⊢
        obtain ⟨m', hm, w'⟩ := hNx a H4 q4
        obtain ⟨J1, J2, J3⟩ := fin I4
        exact seg_again rfl (ih m' hm n (i + 1) a H4 s₀ s4 cp (by omega) w' hac tie J1 J2 J3)
      | true =>
        simp only [if_true] at q4 ⊢
        have hy : ∀ v, yieldOut cenv v = yieldValue v := fun v => by simp only [yieldOut, hco, Bool.false_eq_true, if_false]
        simp only [hy]
        rw [Sem.bind_eq_wrap', Sem.bind_eq_wrap', Sem.wrap_wrap, Sem.wrap_wrap]
        refine seg_wrap ?_
        rw [hA]
        refine thnF (pe.run _ s4 σ3 H4 _ I4 q4) fun yv s5 ⟨y, H5, I5, r5, q5⟩ => ?_
        obtain ⟨J1, J2, J3⟩ := fin I5
        -- at least one more
        cases n with
        | zero => exact absurd hmn (Nat.not_lt_zero _)
        | succ n =>
          refine seg_at (seg_yield rfl rfl rfl ⟨a, y, σ0, H5, i + 1, cp, Nx, r5, hac, tie, J1, J2, J3, q5, fun a' cp' s' nx hac' I' st' => ?_⟩)
          obtain ⟨m', hm, w'⟩ := hNx a' H5 nx
          exact seg_again rfl (ih m' hm n (i + 1) a' H5 s' s' cp' (by omega) w' hac' (fun p hp => (I'.pin p (List.mem_append_right _ hp)).1) I' st' J3)
end
/-! ### a generator that is made -/
section
variable {X : Cx} {pins : List (Addr × Obj)} {σ : L2.St} {H : Hp} {s : Shared}
def GenObj (o : Obj) (g : Nat) : Prop := ∃ nm qn, o.cls = .type "generator" ∧ o.data = .fields #[.int g 0, nm, qn] ∧ o.slots = #[]
theorem GenObj.isGen {o : Obj} {g : Nat} (h : GenObj o g) {a : Addr} {hp : Heap} (e : hp.get? a = some o) : hp.IsGen a g := by
  obtain ⟨nm, qn, h1, h2, h3⟩ := h
  exact ⟨o, nm, qn, e, h1, h2, h3⟩
/-- the generator u, made and not begun, in the state s5 -/
def Gx (X : Cx) (pins : List (Addr × Obj)) (σ : L2.St) (A : Around) (J : It) (g : TG) (tt : TT) (te : TE) (vs : List Nat) (H4 : Hp) (u : Value) (s5 : Shared) : Prop :=
  ∃ (A' : Around) (s_0 : Shared) (H_0 : Hp) (cenv : Env) (fp : List Addr) (ga : Addr) (gn : Nat) (go : Obj) (tn : Nat → Heap → Prop) (gs : GenState),
    u = .ref ga ∧ GenObj go gn ∧ s5.gens[gn]? = some gs ∧ gs.bare = true ∧ Inv (gblk X A' s_0 H_0 cenv fp) [(ga, go)] (wipe σ vs) H4 s5 ∧ tn 0 s5.heap ∧ (∀ b ∈ fp, H4 b = none) ∧ (∀ b ∈ fp, b < ga) ∧
    (∀ i h h', tn i h → (∀ b ∈ fp, ∀ o, h.get? b = some o → h'.get? b = some o) → tn i h') ∧ (∀ cp σ' H' s', Inv (gblk X A' s_0 H_0 cenv fp) cp σ' H' s' → Inv X pins σ H' s') ∧
    ∀ (α : Type) (AC : α → List (Addr × Obj) → Prop) (End : α → Hp → Prop) (Yd : α → V → Hp → (α → Hp → Prop) → Prop) (W : Nat → Nat → α → Hp → Prop) (m n : Nat) (a : α) (cp : List (Addr × Obj)) (s' : Shared),
      tGx J g tt te (wipe σ vs) vs End Yd W → W 0 m a H4 → m < n → (∀ a cp, AC a cp → ∀ p ∈ cp, ∀ b ∈ fp, p.1 ≠ b) → AC a cp → Inv (gblk X A' s_0 H_0 cenv fp) cp (wipe σ vs) H4 s' → tn 0 s'.heap →
      gs.Goes (model X.prog X.w) A (RG (gblk X A' s_0 H_0 cenv fp) AC End) (YG (gblk X A' s_0 H_0 cenv fp) fp tn AC Yd) n (.send .none) s'
/-- what stands about an asker -/
structure Near (A B : Around) : Prop where
  hd : B.handled = A.handled
  fr : B.frames = A.frames
  gd : B.guards = A.guards
  dp : B.depth = A.depth
  un : B.units ≤ A.units + 8
theorem gx_make {c P : Addr} {elt tg iter : Expr} {ifs : List Expr} {gpos : Pos} {scope : Scope} {own : List (Str × Nat)} {wi : TI} {g : TG} {tt : TT} {te : TE} {k : Nat} {Q' : Value → Shared → Prop} {R : It → Hp → Prop} {A : Around}
    (hr : Room (k + 1) X.A) (near : Near X.A A) (hc : X.calm = true) (hN : X.N.Nodup) (TB : GxR.TabB X.base X.mg c P) (hcode : X.env.code = .ref c) (hco : scope.isCoroutine = false) (hdot : scope.names.lookup (".0" : Str) = some NameKind.local)
    (nocell : ∀ y ∈ scope.names, y.2 ≠ .cell) (ok : BlkOk X.N X.env.scope scope own) (hi : PI X tg iter wi)
    (hg : ∀ (A' : Around) (s : Shared) (H : Hp) (C : Addr) (cl : List (Str × Addr)) (code : Value) (fp : List Addr), Room k A' → A'.guards = X.A.guards → PG (gblk X A' s H (genEnv scope cl C code builtinsNs X.env) fp) tg g)
    (ht : ∀ (A' : Around) (s : Shared) (H : Hp) (C : Addr) (cl : List (Str × Addr)) (code : Value) (fp : List Addr), Room k A' → A'.guards = X.A.guards → PTs (gblk X A' s H (genEnv scope cl C code builtinsNs X.env) fp) ifs tt)
    (he : ∀ (A' : Around) (s : Shared) (H : Hp) (C : Addr) (cl : List (Str × Addr)) (code : Value) (fp : List Addr), Room k A' → A'.guards = X.A.guards → PE (gblk X A' s H (genEnv scope cl C code builtinsNs X.env) fp) elt te)
    (hs : ∀ v, genFold iter X.env v = pure v) (I : Inv X pins σ H s) (h : wi σ H fun J H1 => GxR.TabG H1 P ∧ R J H1)
    (hQ : ∀ J H1 H2 u s5, R J H1 → GxR.Tabbed P H1 H2 → Gx X pins σ A J g tt te (own.map (·.2)) H2 u s5 → Q' u s5) :
    wpAny (model X.prog X.w) X.A (eval (.GeneratorExp elt [⟨tg, iter, ifs, 0⟩] scope gpos) X.env) Q' X.xe s := by
  have hfree : ∀ y ∈ scope.names, y.2 = .free → ∃ c, X.env.cells.lookup y.1 = some c := fun y hy e => by
    rcases ok.free y hy e with k | k
    · exact I.ok.has _ (.inl k)
    · exact I.ok.has _ (.inr k)
  refine wpAny_GeneratorExp_make hco (closure_ok hfree) nocell hdot ok.kind (by have := hr.dp; omega) ?_ hs
  refine thn (hi.run pins s σ H _ I h) fun xv s1 hx => thn hx fun itv s2 h2 => ?_
  obtain ⟨it, fp, tn, J, H2, rfl, I2, T, st2, f2, ⟨ps, hP, ht3⟩, q⟩ := h2
  refine ⟨I2.nolimit, ?_⟩
  have hPs : s2.heap.get? P = some { cls := .none, data := .fields ps } := I2.hok P _ hP
  have cd : PySem.W.CodeHd s2.heap c P := TB.code.keeps fun b u e => I2.bk b u e
  have nP : ∀ b, H2 b = none → b ≠ P := fun b e z => by
    rw [z, hP] at e
    cases e
  have cont : ∀ (code : Value) (h3 : Heap) (tk : Nat) (ps' : Array Value), Heap.ExtBut P s2.heap h3 → s2.heap.objs.size ≤ h3.objs.size → h3.get? P = some { cls := .none, data := .fields ps' } → (∃ more, ps' = ps ++ more) → TriplesOk ps'.toList →
      wpAny (model X.prog X.w) X.A (builtinsFor X.env.globals X.env.builtins) (fun bi s₄ =>
        ∀ h', h'.Ns s₄.heap.objs.size (fun y => if y = ".0" then some (Value.ref it) else none) → Heap.SameBut s₄.heap.objs.size (s₄.heap.push { cls := .type "frame", data := .dict #[] }) h' →
          Q' (.ref h'.objs.size) { s₄ with
            gens := s₄.gens.push (.fresh (.compStart (.GeneratorExp elt [⟨tg, iter, ifs, 0⟩] scope gpos) 0 (.ref it) .none (genEnv scope (cloFrom X.env.cells scope.names []) s₄.heap.objs.size code bi X.env))),
            toks := s₄.toks + 1 + 1 + 1,
            heap := h'.push { cls := .type "generator", data := .fields #[.int s₄.gens.size 0, .str "<genexpr>" (s₄.toks + 1), .str (X.env.qual ++ "<genexpr>") (s₄.toks + 1 + 1)] } }) X.xe { s2 with heap := h3, toks := tk } := by
    rintro code h3 tk ps' hx hsz hP3 ⟨more, rfl⟩ ht4
    obtain ⟨bm, ob, e1, e2, e3, e4, e5, e6, e7, e8⟩ := TB.bm
    refine wpAny_builtinsFor (m := X.mg) (by rw [I2.ok.glob]; exact (I2.mod.glob.keeps I2.bk).extBut hx TB.gP) e1 e2 (hx _ _ e4 (I2.bk _ _ e5)) e6 e7 e8 ?_
    intro h' hns hsb
    have I3 : Inv X pins σ (upd H2 P (.tbl (ps ++ more))) { s2 with heap := h3, toks := tk } := GxR.inv_tab (g' := s2.gens) (d' := s2.drawn) I2 hP (fun b o hb e => hx b o hb e) hP3 I2.bare
    have lt2 : ∀ b ∈ fp, b < s2.heap.objs.size := fun b hb => by
      obtain ⟨o, e, _⟩ := T.obj _ _ st2 b hb
      exact Heap.lt_size e
    have f3 : ∀ b ∈ fp, FpOk X pins (upd H2 P (.tbl (ps ++ more))) b ∧ b < ({ s2 with heap := h3, toks := tk } : Shared).heap.objs.size := fun b hb => by
      refine ⟨⟨?_, (f2 b hb).2⟩, Nat.lt_of_lt_of_le (lt2 b hb) hsz⟩
      rw [upd_ne (nP b (f2 b hb).1)]
      exact (f2 b hb).1
    have st3 : tn 0 h3 := T.keep _ _ _ st2 fun b hb o e => hx b o (nP b (f2 b hb).1) e
    generalize hs4 : ({ s2 with heap := h3, toks := tk } : Shared) = s4 at I3 f3 hns hsb ⊢
    have h4 : s4.heap = h3 := by rw [← hs4]
    have hsz4 : h'.objs.size = s4.heap.objs.size + 1 := by rw [hsb.1, Heap.size_push]
    have keep' : ∀ b o, s4.heap.get? b = some o → h'.get? b = some o := fun b o e => hsb.extBut b o (Nat.ne_of_lt (Heap.lt_size e)) (Heap.get?_push_of_some _ e)
    generalize hgo : ({ cls := .type "generator", data := .fields #[.int s4.gens.size 0, .str "<genexpr>" (s4.toks + 1), .str (X.env.qual ++ "<genexpr>") (s4.toks + 1 + 1)] } : Obj) = go
    have hGO : GenObj go s4.gens.size := by rw [← hgo]; exact ⟨_, _, rfl, rfl, rfl⟩
    have k5 : ∀ b o, s4.heap.get? b = some o → (h'.push go).get? b = some o := fun b o e => Heap.get?_push_of_some _ (keep' b o e)
    have pg := fun A' => hg A' s4 (upd H2 P (.tbl (ps ++ more))) s4.heap.objs.size (cloFrom X.env.cells scope.names []) code fp
    have pt := fun A' => ht A' s4 (upd H2 P (.tbl (ps ++ more))) s4.heap.objs.size (cloFrom X.env.cells scope.names []) code fp
    have pe := fun A' => he A' s4 (upd H2 P (.tbl (ps ++ more))) s4.heap.objs.size (cloFrom X.env.cells scope.names []) code fp
    generalize hce : genEnv scope (cloFrom X.env.cells scope.names []) s4.heap.objs.size code builtinsNs X.env = cenv at pg pt pe ⊢
    have hscn : cenv.scope = scope := by rw [← hce]; rfl
    generalize hA' : A.over (.compLoop (.GeneratorExp elt [⟨tg, iter, ifs, 0⟩] scope gpos) 0 (.ref it) .none cenv) [] = A'
    have hfrA : A'.frames = some (cenv :: X.stack) := by
      rw [← hA']
      show pushEnvs [cenv] A.frames = _
      rw [near.fr, I2.ok.frames]
      rfl
    have hhd : A'.handled = none := by
      rw [← hA']
      show A.handled = none
      rw [near.hd]
      exact hr.hd
    have rm : Room k A' := by
      refine ⟨hhd, ?_, ?_⟩
      · have := hr.dp
        have := near.dp
        rw [← hA']
        show A.depth + 0 + 1 + 3 * k + 5 < _
        omega
      · have := hr.un
        have := near.un
        rw [← hA']
        show A.units + 0 + 3 + 16 * k + 200 < _
        omega
    have gdA : A'.guards = X.A.guards := by
      rw [← hA']
      show pushGuards [] A.guards = _
      rw [near.gd]
      rfl
    have I5 : Inv (gblk X A' s4 (upd H2 P (.tbl (ps ++ more))) cenv fp) [(h'.objs.size, go)] (wipe σ (own.map (·.2))) (upd H2 P (.tbl (ps ++ more)))
        { s4 with gens := s4.gens.push (.fresh (.compStart (.GeneratorExp elt [⟨tg, iter, ifs, 0⟩] scope gpos) 0 (.ref it) .none cenv)), toks := s4.toks + 1 + 1 + 1, heap := h'.push go } := by
      subst hce
      refine gen_start (it := .ref it) I3 ok nocell hN f3 hhd hfrA rfl (I3.bare.push rfl) k5 (hns.push _) fun p hp => ?_
      have e : p = (h'.objs.size, go) := by simpa using hp
      subst e
      refine ⟨by show s4.heap.objs.size < h'.objs.size; omega, Heap.get?_push_size _ (by rw [← hgo]; rfl), fun v z => ?_⟩
      rw [← hgo] at z
      cases z
    refine hQ J H2 _ _ _ q ⟨⟨_, upd_same, ht4⟩, fun b hb => upd_ne hb⟩ ⟨A', s4, _, cenv, fp, h'.objs.size, s4.gens.size, go, tn, _, rfl, hGO, Array.getElem?_push_size .., rfl, I5, ?_, fun b hb => (f3 b hb).1.1, fun b hb => ?_, T.keep, fun cp σ' H' s' I' => ?_, ?_⟩
    · exact T.keep _ _ _ st3 fun b _ o e => k5 b o (by rw [h4]; exact e)
    · have := (f3 b hb).2
      rw [hsz4]
      exact Nat.lt_succ_of_lt this
    · exact I3.call' (ch := fp) I'.os I'.base I'.hok I'.bare fun b hb => ⟨(f3 b hb).1.2.2.2.1, (f3 b hb).1.2.1, (f3 b hb).1.2.2.2.2.1, (f3 b hb).1.2.2.2.2.2⟩
    · intro α AC End Yd W m n a cp s' turn w hmn hAC hac I' st'
      refine ⟨rfl, ?_⟩
      have loop := seg_gx (A := A) (pos := gpos) (iter := iter) (scope := scope) hA' hc (by rw [hscn]; exact hco) T (pg A' rm gdA) (pt A' rm gdA) (pe A' rm gdA) hAC turn m n 0 a _ s' s' cp hmn w hac (fun p hp => (I'.pin p (List.mem_append_right _ hp)).1) I' st' fun b hb => (f3 b hb).1.1
      show Seg _ A _ _ _ s' _ ((compStart (.GeneratorExp elt [⟨tg, iter, ifs, 0⟩] scope gpos) 0 (.ref it) .none cenv).onRaise (leaving cenv)) [] s'
      unfold compStart
      rw [Sem.onRaise_eq_wrap]
      show Seg _ A _ _ _ s' _ ((ask >>= _).wrap _ _ _ _) [] s'
      refine seg_bind_wrap (wpAny_askSetting ?_)
      split
      · exact seg_again rfl loop
      · first
          | exact seg_bind_wrap (wpAny_rule (seg_bind_wrap (wpAny_standAt (seg_bind_wrap (T.self _ 0 s' _ _ st' (seg_again rfl loop))))))
          | (refine seg_bind_wrap (wpAny_rule ?_); show Seg _ A _ _ _ s' _ ((standAt iter.pos >>= _).wrap _ _ _ _) [] s'; exact seg_bind_wrap (wpAny_standAt (seg_bind_wrap (T.self _ 0 s' _ _ st' (seg_again rfl loop)))))
  cases hf : codeAmong gpos ps.toList with
  | none =>
    refine wpAny_genexprCodeX hcode (cd.code hPs ht3) (cd.tab hPs) hf fun c' h' tk hx hge hlt hco' _ htab' _ => ?_
    obtain ⟨o1, vs, f1, tf, fl, tg, inF, tx, tt, op, _, _, _, _, _, _, _, _, _, htr, _⟩ := hco'
    exact cont _ h' tk _ hx (Nat.le_trans hge (Nat.le_of_lt hlt)) htab'.2 ⟨_, rfl⟩ htr
  | some cv =>
    refine wpAny_genexprCode_hit hcode (cd.code hPs ht3) hf ?_
    exact cont cv s2.heap s2.toks ps (Heap.ExtBut.refl _ _) (Nat.le_refl _) hPs ⟨#[], by simp⟩ ht3
end
/-! ### asking -/
section
variable {α : Type} {X : Cx} {A A' : Around} {s_0 : Shared} {H_0 : Hp} {cenv : Env} {fp : List Addr} {tn : Nat → Heap → Prop} {AC : α → List (Addr × Obj) → Prop} {End : α → Hp → Prop} {Yd : α → V → Hp → (α → Hp → Prop) → Prop} {ga : Addr} {gn n : Nat} {go : Obj}
theorem next_gx2 {gs : GenState} {s : Shared} {Q : Option Value → Shared → Prop} {E : Value → Shared → Prop} (hh : A.handled = none) (hroom : A.depth < recursionLimit) (hl : s.heap.NoLimit) (hG : GenObj go gn) (e : s.heap.get? ga = some go) (hgs : s.gens[gn]? = some gs)
    (hgo : gs.Goes (model X.prog X.w) A.in1 (RG (gblk X A' s_0 H_0 cenv fp) AC End) (YG (gblk X A' s_0 H_0 cenv fp) fp tn AC Yd) n (.send .none) (s.setGen gn .running))
    (item : ∀ (a : α) (x : V) (σ : L2.St) (H : Hp) (i : Nat) (cp : List (Addr × Obj)) (Nx : α → Hp → Prop) (v : Value) (s1 : Shared) (gs' : GenState), RelV x v → AC a cp → (∀ p ∈ cp, s.heap.get? p.1 = some p.2) → Inv (gblk X A' s_0 H_0 cenv fp) cp σ H s1 → tn i s1.heap → Yd a x H Nx → s1.gens[gn]? = some gs' →
      (∀ a' cp' s', Nx a' H → AC a' cp' → Inv (gblk X A' s_0 H_0 cenv fp) cp' σ H s' → tn i s'.heap → ∃ m, n = m + 1 ∧ gs'.Goes (model X.prog X.w) A.in1 (RG (gblk X A' s_0 H_0 cenv fp) AC End) (YG (gblk X A' s_0 H_0 cenv fp) fp tn AC Yd) m (.send .none) s') → Q (some v) s1)
    (done : ∀ (a : α) (σ : L2.St) (H : Hp) (cp : List (Addr × Obj)) (s1 : Shared), AC a cp → (∀ p ∈ cp, s.heap.get? p.1 = some p.2) → Inv (gblk X A' s_0 H_0 cenv fp) cp σ H s1 → End a H → Q none s1) :
    wpAny (model X.prog X.w) A (pyNext (.ref ga)) Q E s := by
  have hgl : gn < s.gens.size := (Array.getElem?_eq_some_iff.mp hgs).1
  refine GenW.wpAny_gsz (n := gn + 1) hgl (next_genG (Er := fun _ _ => False) hh hl hroom (hG.isGen e) hgs hgo (fun v s₁ gs' hbare hv => ?_) (fun s₁ hp h' hk => ?_) fun e s₁ he => he.elim)
  · intro hsz
    obtain ⟨a, x, σ, H, i, cp, Nx, r, hac, tie, I, st, nf, hy, kap⟩ := hv
    have hsz1 : gn < s₁.gens.size := by
      have q : (s₁.setGen gn gs').gens.size = s₁.gens.size := GenW.setGen_size _ _ _
      have hsz' : gn + 1 ≤ (s₁.setGen gn gs').gens.size := hsz
      omega
    refine item a x σ H i cp Nx v (s₁.setGen gn gs') gs' r hac tie (inv_moved I rfl (allBare_setGen I.bare hbare) fun _ _ q => q) st hy (setGen_at hsz1) fun a' cp' s' nx hac' I' st' => ?_
    have z := kap a' cp' s' nx hac' I' st'
    cases n with
    | zero => exact z.elim
    | succ m => exact ⟨m, rfl, z⟩
  · intro _
    obtain ⟨a, σ, H, cp, hac, tie, I, q⟩ := hp
    exact done a σ H cp _ hac tie (inv_moved I rfl (allBare_setGen I.bare rfl) hk) q
theorem next_gx {gs : GenState} {s : Shared} {Q : Option Value → Shared → Prop} {E : Value → Shared → Prop} (hh : A.handled = none) (hroom : A.depth < recursionLimit) (hl : s.heap.NoLimit) (hG : GenObj go gn) (e : s.heap.get? ga = some go) (hgs : s.gens[gn]? = some gs)
    (hgo : gs.Goes (model X.prog X.w) A.in1 (RG (gblk X A' s_0 H_0 cenv fp) AC End) (YG (gblk X A' s_0 H_0 cenv fp) fp tn AC Yd) n (.send .none) (s.setGen gn .running))
    (item : ∀ (a : α) (x : V) (σ : L2.St) (H : Hp) (i : Nat) (cp : List (Addr × Obj)) (Nx : α → Hp → Prop) (v : Value) (s1 : Shared) (gs' : GenState), RelV x v → AC a cp → Inv (gblk X A' s_0 H_0 cenv fp) cp σ H s1 → tn i s1.heap → Yd a x H Nx → s1.gens[gn]? = some gs' →
      (∀ a' cp' s', Nx a' H → AC a' cp' → Inv (gblk X A' s_0 H_0 cenv fp) cp' σ H s' → tn i s'.heap → ∃ m, n = m + 1 ∧ gs'.Goes (model X.prog X.w) A.in1 (RG (gblk X A' s_0 H_0 cenv fp) AC End) (YG (gblk X A' s_0 H_0 cenv fp) fp tn AC Yd) m (.send .none) s') → Q (some v) s1)
    (done : ∀ (a : α) (σ : L2.St) (H : Hp) (cp : List (Addr × Obj)) (s1 : Shared), AC a cp → Inv (gblk X A' s_0 H_0 cenv fp) cp σ H s1 → End a H → Q none s1) :
    wpAny (model X.prog X.w) A (pyNext (.ref ga)) Q E s :=
  next_gx2 hh hroom hl hG e hgs hgo (fun a x σ H i cp Nx v s1 gs' r hac _ I st hy at_ kap => item a x σ H i cp Nx v s1 gs' r hac I st hy at_ kap) fun a σ H cp s1 hac _ I q => done a σ H cp s1 hac I q
/-- all(..) asks on -/
theorem all_gx {R : Result → Shared → Prop} {Stop : Hp → Prop} {End : Unit → Hp → Prop} (hh : A.handled = none) (hroom : A.depth < recursionLimit) (hG : GenObj go gn)
    (yes : ∀ (σ : L2.St) (H : Hp) (cp : List (Addr × Obj)) (s1 : Shared), Inv (gblk X A' s_0 H_0 cenv fp) cp σ H s1 → End () H → R (.ok (.ret (.bool true))) s1)
    (no : ∀ (σ : L2.St) (H : Hp) (cp : List (Addr × Obj)) (s1 : Shared), Inv (gblk X A' s_0 H_0 cenv fp) cp σ H s1 → Stop H → R (.ok (.ret (.bool false))) s1) :
    ∀ (n : Nat) (s : Shared), s.heap.NoLimit → s.heap.get? ga = some go → (∃ gs, s.gens[gn]? = some gs ∧ gs.Goes (model X.prog X.w) A.in1.in1 (RG (gblk X A' s_0 H_0 cenv fp) (fun _ cp => cp = [(ga, go)]) End)
      (YG (gblk X A' s_0 H_0 cenv fp) fp tn (fun _ cp => cp = [(ga, go)]) (fun _ y H Nx => ∃ b : Bool, y = .bl b ∧ if b = true then Nx () H else Stop H)) n (.send .none) (s.setGen gn .running)) →
      codeAny (model X.prog X.w) A (.builtin "all.loop" ⟨[.ref ga], []⟩) R s := by
  intro n
  induction n with
  | zero =>
    rintro s hl e ⟨gs, hgs, hgo⟩
    refine codeAny_builtin F.entry_all_loop ?_
    rw [Around.under_plainId F.plain_all_loop _]
    show wpAny _ A.in1 (pyNext (.ref ga) >>= _) _ _ s
    refine wpAny_bind (next_gx (A := A.in1) hh hroom hl hG e hgs hgo (fun a x σ H i cp Nx v s1 gs' r hac I st hy at_ kap => ?_) fun a σ H cp s1 hac I q => ?_)
    · obtain ⟨b, rfl, hb⟩ := hy
      cases (show v = Value.bool b from r)
      refine wpAny_bind (wpAny_holding (wpAny_truthy_bool ?_))
      refine wpAny_bind (wpAny_letGo ?_)
      cases b with
      | true =>
        obtain ⟨m, hm, _⟩ := kap () cp s1 hb hac I st
        cases hm
      | false =>
        simp only [Bool.false_eq_true, if_false] at hb ⊢
        exact wpAny_bind (wpAny_rule (wpAny_pure (no σ H cp s1 I hb)))
    · exact wpAny_bind (wpAny_rule (wpAny_pure (yes σ H cp s1 I q)))
  | succ n ih =>
    rintro s hl e ⟨gs, hgs, hgo⟩
    refine codeAny_builtin F.entry_all_loop ?_
    rw [Around.under_plainId F.plain_all_loop _]
    show wpAny _ A.in1 (pyNext (.ref ga) >>= _) _ _ s
    refine wpAny_bind (next_gx (A := A.in1) hh hroom hl hG e hgs hgo (fun a x σ H i cp Nx v s1 gs' r hac I st hy at_ kap => ?_) fun a σ H cp s1 hac I q => ?_)
    · obtain ⟨b, rfl, hb⟩ := hy
      cases (show v = Value.bool b from r)
      refine wpAny_bind (wpAny_holding (wpAny_truthy_bool ?_))
      refine wpAny_bind (wpAny_letGo ?_)
      cases b with
      | true =>
        simp only [if_true] at hb ⊢
        subst hac
        refine wpAny_pure ⟨plainId_quiet F.plain_all_loop _, ih s1 I.nolimit (I.pin (ga, go) (List.mem_append_right _ List.mem_cons_self)).1 ⟨gs', at_, ?_⟩⟩
        obtain ⟨m, hm, z⟩ := kap () [(ga, go)] (s1.setGen gn .running) hb rfl (inv_moved I rfl (allBare_setGen I.bare rfl) fun _ _ q => q) st
        cases hm
        exact z
      | false =>
        simp only [Bool.false_eq_true, if_false] at hb ⊢
        exact wpAny_bind (wpAny_rule (wpAny_pure (no σ H cp s1 I hb)))
    · exact wpAny_bind (wpAny_rule (wpAny_pure (yes σ H cp s1 I q)))
end
section
variable {X : Cx}
/-- all(elt for tg in iter ..) -/
def tAllX (P : Addr) (wi : TI) (g : TG) (tt : TT) (te : TE) (vs : List Nat) : TE := fun σ H Q => wi σ H fun J H1 => GxR.TabG H1 P ∧ ∀ H2, GxR.Tabbed P H1 H2 → ∃ W : Nat → Nat → Unit → Hp → Prop, (∃ m, W 0 m () H2) ∧
  tGx J g tt te (wipe σ vs) vs (fun _ H => Q (.bl true) H) (fun _ y H Nx => ∃ b : Bool, y = .bl b ∧ if b = true then Nx () H else Q (.bl false) H) W
theorem pe_allX {c P : Addr} {elt tg iter : Expr} {ifs : List Expr} {p pos gpos : Pos} {scope : Scope} {own : List (Str × Nat)} {wi : TI} {g : TG} {tt : TT} {te : TE} {k : Nat}
    (hr : Room (k + 1) X.A) (hc : X.calm = true) (hN : X.N.Nodup) (hgl : Gl X "all") (hm : X.mg "all" = none) (hb : bootBuiltins "all" = some (.builtin "all")) (TB : GxR.TabB X.base X.mg c P) (hcode : X.env.code = .ref c)
    (hco : scope.isCoroutine = false) (hdot : scope.names.lookup (".0" : Str) = some NameKind.local) (nocell : ∀ y ∈ scope.names, y.2 ≠ .cell) (ok : BlkOk X.N X.env.scope scope own) (hi : PI X tg iter wi)
    (hg : ∀ (A' : Around) (s : Shared) (H : Hp) (C : Addr) (cl : List (Str × Addr)) (code : Value) (fp : List Addr), Room k A' → A'.guards = X.A.guards → PG (gblk X A' s H (genEnv scope cl C code builtinsNs X.env) fp) tg g)
    (ht : ∀ (A' : Around) (s : Shared) (H : Hp) (C : Addr) (cl : List (Str × Addr)) (code : Value) (fp : List Addr), Room k A' → A'.guards = X.A.guards → PTs (gblk X A' s H (genEnv scope cl C code builtinsNs X.env) fp) ifs tt)
    (he : ∀ (A' : Around) (s : Shared) (H : Hp) (C : Addr) (cl : List (Str × Addr)) (code : Value) (fp : List Addr), Room k A' → A'.guards = X.A.guards → PE (gblk X A' s H (genEnv scope cl C code builtinsNs X.env) fp) elt te)
    (hs : ∀ v, genFold iter X.env v = pure v)
    (hst : starEach [.GeneratorExp elt [⟨tg, iter, ifs, 0⟩] scope gpos] X.env = (false, eval (.GeneratorExp elt [⟨tg, iter, ifs, 0⟩] scope gpos) X.env) :: starEach [] X.env := by rfl) :
    PE X (.Call (.Name "all" p) [.GeneratorExp elt [⟨tg, iter, ifs, 0⟩] scope gpos] [] pos) (tAllX P wi g tt te (own.map (·.2))) := by
  refine ⟨fun pins s σ H Q I h => ?_⟩
  refine wpAny_Call_Name_kw (ld_blt I hgl hm hb ?_)
  refine PyProof.Rows.callWith_builtin1 ?_ hst (by rfl)
  rw [hst]
  show wpAny _ _ (spliced ((false, eval (.GeneratorExp elt [⟨tg, iter, ifs, 0⟩] scope gpos) X.env) :: backTo pos (starEach [] X.env))) _ _ s
  refine Calls.spliced_cons (gx_make (A := X.A.in1.in1) hr ⟨rfl, rfl, rfl, rfl, (by show X.A.units + 1 + 1 ≤ _; omega)⟩ hc hN TB hcode hco hdot nocell ok hi hg ht he hs I h fun J H1 H2 u s5 hR hT hG => ?_)
  obtain ⟨A', s_0, H_0, cenv, fp, ga, gn, go, tn, gs, rfl, hGO, hgs, hbare, I5, st5, nf, hlt, keep, back, goes⟩ := hG
  obtain ⟨W, ⟨m, w0⟩, turn⟩ := hR H2 hT
  refine Calls.spliced_nil ?_
  have pin5 := (I5.pin (ga, go) (List.mem_append_right _ List.mem_cons_self)).1
  refine call_function_tree F.kind_all F.plain_all F.entry_all (F.args_all1 _) ?_
  unfold Builtin.«all»
  refine wpAny_bind (m := oneArg "all" _) (wpAny_pure ?_)
  refine wpAny_bind (wpAny_pyIter_gen (hGO.isGen pin5) ?_)
  refine wpAny_pure ⟨plainId_quiet F.plain_all_loop _, all_gx (A' := A') (s_0 := s_0) (H_0 := H_0) (cenv := cenv) (fp := fp) (tn := tn) (go := go) (gn := gn) (Stop := fun H => Q (.bl false) H) (End := fun _ H => Q (.bl true) H) hr.hd hr.depth hGO
    (fun σ' H' cp s1 I1 q => ⟨.bl true, H', back _ _ _ _ I1, rfl, q⟩) (fun σ' H' cp s1 I1 q => ⟨.bl false, H', back _ _ _ _ I1, rfl, q⟩) (m + 1) s5 I5.nolimit pin5 ⟨gs, hgs, ?_⟩⟩
  refine goes Unit _ _ _ W m (m + 1) () [(ga, go)] _ turn w0 (Nat.lt_succ_self _) (fun a cp hac p hp b hb z => ?_) rfl (inv_moved I5 rfl (allBare_setGen I5.bare rfl) fun _ _ q => q) st5
  subst hac
  have e : p = (ga, go) := by simpa using hp
  subst e
  exact absurd (hlt b hb) (by rw [← z]; exact Nat.lt_irrefl _)
end
/-! ### tuple(..) -/
section
variable {X : Cx} {A A' : Around} {s_0 : Shared} {H_0 : Hp} {cenv : Env} {fp : List Addr} {tn : Nat → Heap → Prop} {ga S : Addr} {gn n : Nat} {go : Obj}
/-- the asker's list S holds what is out -/
def ACl (ga : Addr) (go : Obj) (S : Addr) (ys : List V) (cp : List (Addr × Obj)) : Prop := ∃ (acc : Array Value) (c : Nat), cp = [(ga, go), (S, lstObj acc c)] ∧ Vals ys acc.toList
def YdL (ys : List V) (y : V) (H : Hp) (Nx : List V → Hp → Prop) : Prop := ys.length < sizeLine ∧ Nx (ys ++ [y]) H
theorem ext_gx {R : Result → Shared → Prop} {End : List V → Hp → Prop} {res : Value} (hh : A.handled = none) (hroom : A.depth < recursionLimit) (hG : GenObj go gn) (hSa : S ≠ ga) (far : (gblk X A' s_0 H_0 cenv fp).s_0.heap.objs.size ≤ S) (hSc : ∀ x c, cenv.cells.lookup x = some c → c ≠ S)
    (keep : ∀ i h h', tn i h → (∀ b ∈ fp, ∀ o, h.get? b = some o → h'.get? b = some o) → tn i h') (hSf : ∀ b ∈ fp, b ≠ S)
    (yes : ∀ (σ : L2.St) (H : Hp) (ys : List V) (acc : Array Value) (c : Nat) (s1 : Shared), Inv (gblk X A' s_0 H_0 cenv fp) [(ga, go), (S, lstObj acc c)] σ H s1 → Vals ys acc.toList → End ys H → R (.ok (.ret res)) s1) :
    ∀ (n : Nat) (s : Shared), s.heap.NoLimit → s.heap.get? ga = some go → (∃ gs, s.gens[gn]? = some gs ∧ gs.Goes (model X.prog X.w) A.in1.in1 (RG (gblk X A' s_0 H_0 cenv fp) (ACl ga go S) End)
      (YG (gblk X A' s_0 H_0 cenv fp) fp tn (ACl ga go S) YdL) n (.send .none) (s.setGen gn .running)) →
      codeAny (model X.prog X.w) A (.builtin "list.extend.loop" ⟨[.ref S, .ref ga, res], []⟩) R s := by
  intro n
  induction n with
  | zero =>
    rintro s hl e ⟨gs, hgs, hgo⟩
    refine codeAny_builtin F.entry_extend_loop ?_
    rw [Around.under_plainId F.plain_extend_loop _]
    show wpAny _ A.in1 (pyNext (.ref ga) >>= _) _ _ s
    refine wpAny_bind (next_gx (A := A.in1) hh hroom hl hG e hgs hgo (fun ys x σ H i cp Nx v s1 gs' r hac I st hy at_ kap => ?_) fun ys σ H cp s1 hac I q => ?_)
    · obtain ⟨acc, c, rfl, rv⟩ := hac
      have pS := I.pin (S, lstObj acc c) (List.mem_append_right _ (List.mem_cons_of_mem _ List.mem_cons_self))
      have I0 : Inv (gblk X A' s_0 H_0 cenv fp) [(ga, go)] σ H s1 := I.pins_of fun p hp => I.pin p (List.mem_append_right _ (by rw [List.mem_singleton.mp hp]; exact List.mem_cons_self))
      have I1 := I0.turned (t' := s1.toks) (h' := s1.heap.update S (Obj.mapSeq (·.push v))) (it := S) (fun b o hb q => (Heap.get?_update_other _ _ (Ne.symm hb)).trans q) pS.2.1 pS.2.2.1 (.inr far) hSc (fun p hp => by rw [List.mem_singleton.mp (show p ∈ [(ga, go)] by simpa using hp)]; exact Ne.symm hSa)
      have e2 := Heap.get?_update_self (Obj.mapSeq (·.push v)) pS.1 rfl
      obtain ⟨m, hm, _⟩ := kap (ys ++ [x]) [(ga, go), (S, _)] _ hy.2 ⟨acc.push v, _, rfl, by rw [Array.toList_push]; exact rv.append (.cons r .nil)⟩ (I1.pins_of fun p hp => by
        rcases List.mem_cons.mp hp with z | z
        · rw [z]; exact I1.pin (ga, go) (List.mem_append_right _ List.mem_cons_self)
        · rw [List.mem_singleton.mp z]; exact ⟨e2, pS.2.1, pS.2.2.1, pS.2.2.2.1, fun v q => by cases q⟩) (keep _ _ _ st fun b hb o q => (Heap.get?_update_other _ _ (Ne.symm (hSf b hb))).trans q)
      cases hm
    · obtain ⟨acc, c, rfl, rv⟩ := hac
      exact wpAny_pure (yes σ H ys acc c s1 I rv q)
  | succ n ih =>
    rintro s hl e ⟨gs, hgs, hgo⟩
    refine codeAny_builtin F.entry_extend_loop ?_
    rw [Around.under_plainId F.plain_extend_loop _]
    show wpAny _ A.in1 (pyNext (.ref ga) >>= _) _ _ s
    refine wpAny_bind (next_gx (A := A.in1) hh hroom hl hG e hgs hgo (fun ys x σ H i cp Nx v s1 gs' r hac I st hy at_ kap => ?_) fun ys σ H cp s1 hac I q => ?_)
    · obtain ⟨acc, c, rfl, rv⟩ := hac
      have pS := I.pin (S, lstObj acc c) (List.mem_append_right _ (List.mem_cons_of_mem _ List.mem_cons_self))
      have I0 : Inv (gblk X A' s_0 H_0 cenv fp) [(ga, go)] σ H s1 := I.pins_of fun p hp => I.pin p (List.mem_append_right _ (by rw [List.mem_singleton.mp hp]; exact List.mem_cons_self))
      have I1 := I0.turned (t' := s1.toks) (h' := s1.heap.update S (Obj.mapSeq (·.push v))) (it := S) (fun b o hb q => (Heap.get?_update_other _ _ (Ne.symm hb)).trans q) pS.2.1 pS.2.2.1 (.inr far) hSc (fun p hp => by rw [List.mem_singleton.mp (show p ∈ [(ga, go)] by simpa using hp)]; exact Ne.symm hSa)
      have e2 := Heap.get?_update_self (Obj.mapSeq (·.push v)) pS.1 rfl
      have hln := rv.length
      have hlt : acc.size < sizeLine := by
        have := hy.1
        rw [hln] at this
        simpa using this
      have pG := I1.pin (ga, go) (List.mem_append_right _ List.mem_cons_self)
      show wpAny _ A.in1 (updateSeq S (·.push v) >>= _) _ _ _
      refine wpAny_bind ?_
      refine wpAny_updateSeq pS.1 rfl (wpAny_pure ⟨plainId_quiet F.plain_extend_loop _, ih _ I1.nolimit pG.1 ⟨gs', at_, ?_⟩⟩) (Nat.le_of_lt hlt) (by show (acc.push v).size ≤ sizeLine + 1; rw [Array.size_push]; omega)
      obtain ⟨m, hm, z⟩ := kap (ys ++ [x]) [(ga, go), (S, _)] (({ s1 with heap := s1.heap.update S (Obj.mapSeq (·.push v)) } : Shared).setGen gn .running) hy.2 ⟨acc.push v, _, rfl, by rw [Array.toList_push]; exact rv.append (.cons r .nil)⟩ (inv_moved (I1.pins_of fun p hp => by
        rcases List.mem_cons.mp hp with z | z
        · rw [z]; exact pG
        · rw [List.mem_singleton.mp z]; exact ⟨e2, pS.2.1, pS.2.2.1, pS.2.2.2.1, fun v q => by cases q⟩) rfl (allBare_setGen (s := { s1 with heap := s1.heap.update S (Obj.mapSeq (·.push v)) }) I1.bare rfl) fun _ _ q => q) (keep _ _ _ st fun b hb o q => (Heap.get?_update_other _ _ (Ne.symm (hSf b hb))).trans q)
      cases hm
      exact z
    · obtain ⟨acc, c, rfl, rv⟩ := hac
      exact wpAny_pure (yes σ H ys acc c s1 I rv q)
end
section
variable {X : Cx} {pins : List (Addr × Obj)} {σ : L2.St} {s5 : Shared} {J : It} {g : TG} {tt : TT} {te : TE} {vs : List Nat} {H4 : Hp} {u : Value}
/-- all that a generator hands out, in a list of the asker's own -/
theorem collect_gx {A : Around} {E : Value → Shared → Prop} {Q : List Value → Shared → Prop} {End : List V → Hp → Prop} {W : Nat → Nat → List V → Hp → Prop} {m : Nat} (hh : A.handled = none) (hroom : A.depth < recursionLimit) (G : Gx X pins σ A.in1.in1 J g tt te vs H4 u s5)
    (w0 : W 0 m [] H4) (turn : tGx J g tt te (wipe σ vs) vs End YdL W)
    (hQ : ∀ (s' : Shared) (acc : Array Value) (ys : List V) (H' : Hp), Inv X pins σ H' s' → Vals ys acc.toList → End ys H' → Q acc.toList s') : wpAny (model X.prog X.w) A (collect u) Q E s5 := by
  obtain ⟨A', s_0, H_0, cenv, fp, ga, gn, go, tn, gs, rfl, hGO, hgs, hbare, I5, st5, nf, hlt, keep, back, goes⟩ := G
  have pin5 := I5.pin (ga, go) (List.mem_append_right _ List.mem_cons_self)
  have glt : ga < s5.heap.objs.size := Heap.lt_size pin5.1
  have hSI : s5.heap.objs.size ≠ ga := Nat.ne_of_gt glt
  unfold collect
  refine wpAny_bind (wpAny_runValue (codeAny_builtin F.entry_proto_collect ?_))
  rw [Around.under_plainId F.plain_proto_collect _]
  show wpAny _ A.in1 (newList [] >>= fun l => again (.builtin "list.__iadd__" ⟨[l, .ref ga], []⟩)) _ _ s5
  refine wpAny_bind (wpAny_newObj_type ?_)
  refine wpAny_pure ⟨plainId_quiet F.plain_list_iadd _, codeAny_builtin F.entry_list_iadd ?_⟩
  rw [Around.under_plainId F.plain_list_iadd _]
  show wpAny _ A.in1 (Builtin.List.listExtendWith (.ref s5.heap.objs.size) (.ref ga) (.ref s5.heap.objs.size)) _ _ _
  unfold Builtin.List.listExtendWith
  have k1 : ∀ b o, s5.heap.get? b = some o → (s5.heap.push { cls := .type "list", data := .seq ([] : List Value).toArray }).get? b = some o := fun b o e => Heap.get?_push_of_some _ e
  have hT : Shared.TypeIs { s5 with heap := s5.heap.push { cls := .type "list", data := .seq ([] : List Value).toArray } } (.ref ga) "generator" := Heap.IsGen.typeIs (s := { s5 with heap := _ }) (hGO.isGen (k1 _ _ pin5.1))
  refine wpAny_bind (wpAny_typeOf hT ?_)
  have h1 : Builtin.List.listSameRef (.ref s5.heap.objs.size) (.ref ga) = false := by simp [Builtin.List.listSameRef, hSI]
  have h2 : (Value.type "generator" == Value.type "list") = false := by decide
  have h3 : (Value.type "generator" == Value.type "tuple") = false := by decide
  simp only [h1, h2, h3, Bool.or_false, Bool.false_eq_true, if_false]
  refine wpAny_bind (wpAny_pyIter_gen (s := { s5 with heap := _ }) (hGO.isGen (k1 _ _ pin5.1)) ?_)
  refine wpAny_bind (wpAny_holding ?_)
  unfold Builtin.List.listLengthHint
  refine wpAny_bind (wpAny_specialOf hT F.gen_no_len ?_)
  show wpAny _ A.in1 (specialOf (Value.ref ga) (Str.ofString "__length_hint__") >>= _) _ _ _
  refine wpAny_bind (wpAny_specialOf hT F.gen_no_hint ?_)
  refine wpAny_pure ?_
  show wpAny _ A.in1 (rule "list.extend.makes-room" >>= fun _ => Builtin.List.listTouch (.ref s5.heap.objs.size) >>= fun _ =>
    again (.builtin "list.extend.loop" ⟨[.ref s5.heap.objs.size, .ref ga, .ref s5.heap.objs.size], []⟩)) _ _ _
  refine wpAny_bind (wpAny_rule ?_)
  have hS₁ : (s5.heap.push { cls := .type "list", data := .seq ([] : List Value).toArray }).get? s5.heap.objs.size = some { cls := .type "list", data := .seq ([] : List Value).toArray } := Heap.get?_push_size _ rfl
  refine wpAny_bind ?_
  show wpAny _ A.in1 (updateSeq s5.heap.objs.size (·.push .none) >>= fun _ => updateSeq s5.heap.objs.size (·.pop)) _ _ _
  refine wpAny_bind (wpAny_updateSeq hS₁ rfl ?_)
  have hS₂ := Heap.get?_update_self (Obj.mapSeq (·.push Value.none)) hS₁ rfl
  refine wpAny_updateSeq hS₂ rfl ?_
  have hS₃ := Heap.get?_update_self (Obj.mapSeq (·.pop)) hS₂ rfl
  obtain ⟨c3, hS₄⟩ : ∃ c, (((s5.heap.push { cls := .type "list", data := .seq ([] : List Value).toArray }).update s5.heap.objs.size (Obj.mapSeq (·.push Value.none))).update s5.heap.objs.size (Obj.mapSeq (·.pop))).get? s5.heap.objs.size = some (lstObj #[] c) := ⟨_, hS₃⟩
  have k3 : ∀ b o, s5.heap.get? b = some o → (((s5.heap.push { cls := .type "list", data := .seq ([] : List Value).toArray }).update s5.heap.objs.size (Obj.mapSeq (·.push Value.none))).update s5.heap.objs.size (Obj.mapSeq (·.pop))).get? b = some o :=
    fun b o e => (Heap.get?_update_other _ _ (Ne.symm (Nat.ne_of_lt (Heap.lt_size e)))).trans ((Heap.get?_update_other _ _ (Ne.symm (Nat.ne_of_lt (Heap.lt_size e)))).trans (k1 b o e))
  have fS : FpOk (gblk X A' s_0 H_0 cenv fp) [(ga, go)] H4 s5.heap.objs.size := I5.fpOk (Nat.le_refl _) (I5.hok.fresh (Nat.le_refl _))
  have hfS : ∀ b ∈ fp, b ≠ s5.heap.objs.size := fun b hb => Nat.ne_of_lt (Nat.lt_trans (hlt b hb) glt)
  have I6 := inv_moved (s' := { s5 with heap := ((s5.heap.push { cls := .type "list", data := .seq ([] : List Value).toArray }).update s5.heap.objs.size (Obj.mapSeq (·.push Value.none))).update s5.heap.objs.size (Obj.mapSeq (·.pop)) }) I5 rfl I5.bare k3
  refine wpAny_pure ⟨plainId_quiet F.plain_extend_loop _, ext_gx (A := A) (A' := A') (s_0 := s_0) (H_0 := H_0) (cenv := cenv) (fp := fp) (tn := tn) (go := go) (gn := gn) (End := End) hh hroom hGO hSI ?_ fS.2.2.2.2.1 keep hfS
    (fun σ' H' ys acc c s1 I1 rv q => ?_) (m + 1) _ I6.nolimit (k3 _ _ pin5.1) ⟨gs, hgs, ?_⟩⟩
  · exact Nat.le_trans I5.sz (Nat.le_refl _)
  · show wpAny _ A (load s5.heap.objs.size >>= _) _ _ s1
    have pS := (I1.pin (s5.heap.objs.size, lstObj acc c) (List.mem_append_right _ (List.mem_cons_of_mem _ List.mem_cons_self))).1
    refine wpAny_bind (wpAny_load pS ?_)
    exact wpAny_pure (hQ s1 acc ys H' (back _ _ _ _ I1) rv q)
  · refine goes (List V) (ACl ga go s5.heap.objs.size) End YdL W m (m + 1) [] [(ga, go), (s5.heap.objs.size, lstObj #[] c3)] _ turn w0 (Nat.lt_succ_self _) (fun ys cp hac p hp b hb z => ?_) ⟨#[], c3, rfl, .nil⟩
      (inv_moved (I6.pins_of fun p hp => ?_) rfl (allBare_setGen (s := { s5 with heap := _ }) I5.bare rfl) fun _ _ q => q) (keep _ _ _ st5 fun b hb o q => k3 b o q)
    · obtain ⟨acc, c, rfl, _⟩ := hac
      rcases List.mem_cons.mp hp with e | e
      · rw [e] at z
        exact absurd (hlt b hb) (by rw [← z]; exact Nat.lt_irrefl _)
      · rw [List.mem_singleton.mp e] at z
        exact hfS b hb z.symm
    · rcases List.mem_cons.mp hp with e | e
      · rw [e]
        exact I6.pin (ga, go) (List.mem_append_right _ List.mem_cons_self)
      · rw [List.mem_singleton.mp e]
        exact ⟨hS₄, fS.1, fS.2.1, fS.2.2.1, fun v q => by cases q⟩
end
section
variable {X : Cx}
/-- tuple(elt for tg in iter ..) -/
def tTupX (P : Addr) (wi : TI) (g : TG) (tt : TT) (te : TE) (vs : List Nat) : TE := fun σ H Q => wi σ H fun J H1 => GxR.TabG H1 P ∧ ∀ H2, GxR.Tabbed P H1 H2 → ∃ W : Nat → Nat → List V → Hp → Prop, (∃ m, W 0 m [] H2) ∧
  tGx J g tt te (wipe σ vs) vs (fun ys H => ys.length ≤ sizeLine ∧ ∀ p, H p = none → Q (.ref p) (upd H p (.tup ys))) YdL W
theorem pe_tupX {c P : Addr} {elt tg iter : Expr} {ifs : List Expr} {p pos gpos : Pos} {scope : Scope} {own : List (Str × Nat)} {wi : TI} {g : TG} {tt : TT} {te : TE} {k : Nat}
    (hr : Room (k + 1) X.A) (hc : X.calm = true) (hN : X.N.Nodup) (hgl : Gl X "tuple") (hm : X.mg "tuple" = none) (hb : bootBuiltins "tuple" = some (.type "tuple")) (TB : GxR.TabB X.base X.mg c P) (hcode : X.env.code = .ref c)
    (hco : scope.isCoroutine = false) (hdot : scope.names.lookup (".0" : Str) = some NameKind.local) (nocell : ∀ y ∈ scope.names, y.2 ≠ .cell) (ok : BlkOk X.N X.env.scope scope own) (hi : PI X tg iter wi)
    (hg : ∀ (A' : Around) (s : Shared) (H : Hp) (C : Addr) (cl : List (Str × Addr)) (code : Value) (fp : List Addr), Room k A' → A'.guards = X.A.guards → PG (gblk X A' s H (genEnv scope cl C code builtinsNs X.env) fp) tg g)
    (ht : ∀ (A' : Around) (s : Shared) (H : Hp) (C : Addr) (cl : List (Str × Addr)) (code : Value) (fp : List Addr), Room k A' → A'.guards = X.A.guards → PTs (gblk X A' s H (genEnv scope cl C code builtinsNs X.env) fp) ifs tt)
    (he : ∀ (A' : Around) (s : Shared) (H : Hp) (C : Addr) (cl : List (Str × Addr)) (code : Value) (fp : List Addr), Room k A' → A'.guards = X.A.guards → PE (gblk X A' s H (genEnv scope cl C code builtinsNs X.env) fp) elt te)
    (hs : ∀ v, genFold iter X.env v = pure v)
    (hst : starEach [.GeneratorExp elt [⟨tg, iter, ifs, 0⟩] scope gpos] X.env = (false, eval (.GeneratorExp elt [⟨tg, iter, ifs, 0⟩] scope gpos) X.env) :: starEach [] X.env := by rfl) :
    PE X (.Call (.Name "tuple" p) [.GeneratorExp elt [⟨tg, iter, ifs, 0⟩] scope gpos] [] pos) (tTupX P wi g tt te (own.map (·.2))) := by
  refine ⟨fun pins s σ H Q I h => ?_⟩
  refine wpAny_Call_Name_kw (ld_blt I hgl hm hb ?_)
  refine PyProof.Rows.callWith_type1 ?_ hst (by rfl)
  rw [hst]
  show wpAny _ _ (spliced ((false, eval (.GeneratorExp elt [⟨tg, iter, ifs, 0⟩] scope gpos) X.env) :: backTo pos (starEach [] X.env))) _ _ s
  refine Calls.spliced_cons (gx_make (A := X.A.in1.in1.in1.in1) hr ⟨rfl, rfl, rfl, rfl, (by show X.A.units + 1 + 1 + 1 + 1 ≤ _; omega)⟩ hc hN TB hcode hco hdot nocell ok hi hg ht he hs I h fun J H1 H2 u s5 hR hT hG => ?_)
  obtain ⟨W, ⟨m, w0⟩, turn⟩ := hR H2 hT
  refine Calls.spliced_nil ?_
  have ⟨A', s_0, H_0, cenv, fp, ga, gn, go, tn, gs, eu, hGO, hgs, hbare, I5, st5, nf, hlt, keep, back, goes⟩ := hG
  have pin5 := (I5.pin (ga, go) (List.mem_append_right _ List.mem_cons_self)).1
  rw [eu] at hG ⊢
  refine callType_codes (Q₁ := fun obj s₁ => s₁.TypeIs obj "tuple" ∧ EP X pins σ Q obj s₁) F.called_tuple (F.typeCall_tuple_1 _) F.entry_object_init ?_ fun obj s₁ h₁ =>
    ⟨h₁.1, F.args_object_init_2 obj _, object_init_meets F.called_tuple.init.lookup F.called_tuple.made (by decide) X.prog X.w X.A.in1 _ s₁ ⟨h₁.1, rfl, h₁.2⟩⟩
  refine codeAny_of_tree ?_
  show wpAny _ X.A.in1.in1 (do checkBuiltinCall "tuple.__new__" ⟨[.type "tuple", .ref ga], []⟩; again (.builtin "tuple.__new__" ⟨[.type "tuple", .ref ga], []⟩)) _ _ s5
  refine wpAny_bind (wpAny_of_eq (F.newCall_tuple_1 _) (wpAny_pure ⟨plainId_quiet F.plain_tuple_new _, codeAny_builtin F.entry_tuple_new ?_⟩))
  rw [Around.under_plainId F.plain_tuple_new _]
  have hsub := sub_tuple_self
  have hinit := init_tuple_lookup
  have hmh := madeHere_tuple
  have hTI : s5.TypeIs (.ref ga) "generator" := (hGO.isGen pin5).typeIs
  have col : ∀ {Q0 : List Value → Shared → Prop} {E0 : Value → Shared → Prop}, (∀ (s' : Shared) (acc : Array Value), (∃ (ys : List V) (H' : Hp), Inv X pins σ H' s' ∧ Vals ys acc.toList ∧ ys.length ≤ sizeLine ∧ ∀ p, H' p = none → Q (.ref p) (upd H' p (.tup ys))) → Q0 acc.toList s') →
      wpAny (model X.prog X.w) X.A.in1.in1 (collect (.ref ga)) Q0 E0 s5 := fun hq => collect_gx hr.hd hr.depth hG w0 turn (fun s' acc ys H' I' rv q => hq s' acc ⟨ys, H', I', rv, q.1, q.2⟩)
  wp_walk using wpAny_typeOf hTI, col
  rintro s' acc ⟨ys, H', I', rv, small, q⟩
  show wpAny _ _ (Builtin.Tuple.tupleExact acc.toList.toArray >>= fun v => ret v) _ _ _
  unfold Builtin.Tuple.tupleExact
  refine wpAny_bind (wpAny_newObj_type ?_ (by show acc.toList.toArray.size ≤ sizeLine; rw [List.size_toArray, ← rv.length]; exact small))
  refine wpAny_pure ?_
  have free : H' s'.heap.objs.size = none := I'.hok.fresh (Nat.le_refl _)
  refine ⟨⟨_, Heap.get?_push_size _ rfl, rfl⟩, .ref s'.heap.objs.size, upd H' s'.heap.objs.size (.tup ys), I'.laid (t' := s'.toks) (fun b u z => Heap.get?_push_of_some _ z) (Nat.le_refl _) ⟨small, acc.toList, rv, ?_⟩, rfl, q _ free⟩
  exact ⟨_, Heap.get?_push_size _ rfl, rfl, 0, rfl⟩
end
/-! ### a def by its body, its code object known -/
theorem okC {P : Program} {w : World} {K : PySem.W.Frag} {mg : Str → Option Value} {base : Heap} {x qual : Str} {st : Stmt} {f : Addr} {fd : FuncData} {N ps : List Str} {k : Nat} {sp : Sp} (F : Fun K x qual st f fd) (S : FnScope N ps (defScope st)) (len : ∀ vs H Q E, sp vs H Q E → vs.length = ps.length)
    (body : ∀ (A : Around) (outer : List Env) (s : Shared) (H : Hp) (vs : List V) (Q : VK) (E : XK), Room k (A.deeper (envOfC qual (defScope st) s.heap.objs.size f fd.code)) → sp vs H Q E →
      ∃ t, PSs (cxOf CX0 P w K mg base N qual (defScope st) f fd.code A outer s H E).nox (defBody st) t ∧ t { nx := fun _ H' => Q .non H', rt := Q } (start N vs) H) : FnOk P w K mg base CX0 (k + 1) f fd ps sp := by
  obtain ⟨oc, od, kV, doc, pm, an, cdv, ct, osl, rfl, lk, hcd⟩ := F.ex
  refine fn_of lk hcd S len fun A outer s H vs Q E hr hsp => ?_
  obtain ⟨t, h, q⟩ := body A outer s H vs Q E hr hsp
  exact ⟨t, h.nox, q⟩
/-! ### from the head's facts -/
theorem fun_of {K : PySem.W.Frag} {x qual : Str} {st : Stmt} {f : Addr} {fd : FuncData} (F : FunD K x qual (defArgs st) (defBody st) (defScope st) [] [] f fd) : Fun K x qual st f fd := by
  obtain ⟨oc, od, dV, kV, doc, pm, an, cdv, ct, osl, rfl, lk, hcd, hd, _⟩ := F.ex
  rcases hd with ⟨_, rfl⟩ | ⟨z, _⟩
  · exact ⟨⟨oc, od, kV, doc, pm, an, cdv, ct, osl, rfl, lk, hcd⟩, F.kp⟩
  · exact absurd rfl z
theorem code_of {K : PySem.W.Frag} {x qual : Str} {st : Stmt} {p : He.Defn} {fd : FuncData} (F : Fun K x qual st (He.fAd K p) fd) : fd.code = .ref (He.cT K p).1 := by
  obtain ⟨oc, od, kV, doc, pm, an, cdv, ct, osl, rfl, lk, hcd⟩ := F.ex
  obtain ⟨c, rfl⟩ := He.codeIn_ref hcd
  show Value.ref c = Value.ref (He.codeOf K p)
  rw [He.codeOf_eq lk rfl]
theorem tab_of {base : Heap} {mg : Str → Option Value} {c P : Addr} (h : LamX.TabB base mg c P) : GxR.TabB base mg c P := ⟨h.code, h.bm, h.gP⟩
/-! ### heaps whose tables grow -/
def Tabs (H : Hp) (Ps : List Addr) : Prop := ∀ P ∈ Ps, GxR.TabG H P
/-- what is no table stays; tables stay tables -/
def Gr (H H' : Hp) : Prop := (∀ b o, (∀ ps, o ≠ HO.tbl ps) → H b = some o → H' b = some o) ∧ ∀ b, GxR.TabG H b → GxR.TabG H' b
theorem Gr.refl {H : Hp} : Gr H H := ⟨fun _ _ _ e => e, fun _ e => e⟩
theorem Gr.trans {H H1 H2 : Hp} (a : Gr H H1) (b : Gr H1 H2) : Gr H H2 := ⟨fun c o n e => b.1 c o n (a.1 c o n e), fun c e => b.2 c (a.2 c e)⟩
theorem Gr.of {H H' : Hp} (h : ∀ b o, H b = some o → H' b = some o) : Gr H H' := ⟨fun b o _ e => h b o e, fun b ⟨ps, e, t⟩ => ⟨ps, h _ _ e, t⟩⟩
theorem Gr.tab {P : Addr} {H H' : Hp} (t : GxR.TabG H P) (h : GxR.Tabbed P H H') : Gr H H' := by
  obtain ⟨ps, e, _⟩ := t
  refine ⟨fun b o n q => ?_, fun b q => ?_⟩
  · by_cases hb : b = P
    · rw [hb, e] at q
      exact absurd (Option.some.inj q).symm (n ps)
    · rw [h.2 b hb]; exact q
  · by_cases hb : b = P
    · rw [hb]; exact h.1
    · obtain ⟨ps', e', t'⟩ := q
      exact ⟨ps', by rw [h.2 b hb]; exact e', t'⟩
theorem Gr.tup {H H' : Hp} (g : Gr H H') {a : Addr} {xs : List V} (h : H a = some (.tup xs)) : H' a = some (.tup xs) := g.1 a _ (fun _ z => by cases z) h
theorem Gr.lst {H H' : Hp} (g : Gr H H') {a : Addr} {xs : List V} (h : H a = some (.lst xs)) : H' a = some (.lst xs) := g.1 a _ (fun _ z => by cases z) h
theorem Gr.tabs {H H' : Hp} (g : Gr H H') {Ps : List Addr} (h : Tabs H Ps) : Tabs H' Ps := fun P hP => g.2 P (h P hP)
theorem Gr.none {H : Hp} {a : Addr} {o : HO} (n : H a = Option.none) : Gr H (upd H a o) := Gr.of fun b u e => by
  rw [upd_ne (ne_of_none e n)]
  exact e
namespace CwR
/-- behind it a token is out -/
def PEp (X : Cx) (e : Expr) (t : TE) : Prop := ∀ (pins : List (Addr × Obj)) (s : Shared) (σ : L2.St) (H : Hp) (Q : VK), Inv X pins σ H s → t σ H Q → wpAny (model X.prog X.w) X.A (eval e X.env) (fun u s' => 1 ≤ s'.toks ∧ EP X pins σ Q u s') X.xe s
theorem pep_ix {X : Cx} {a : Expr} {i : Int} {j : Nat} {p pos : Pos} {ta : TE} {r : R2} (hr : IxR X r) (ha : PE X a ta) (hs : PlainIx (.Constant (.int i) j p)) : PEp X (.Subscript a (.Constant (.int i) j p) pos) (tOp r ta (tC (.int i))) := by
  intro pins s σ H Q I h
  refine Subscript_ (thn (ha.run pins s σ H _ I h) fun v s1 ⟨x, H1, I1, r1, q1⟩ => wpAny_Constant_int ?_)
  refine wpAny_mono (PySem.wpAny_toks (hr a _ pins { s1 with toks := s1.toks + 1 } σ H1 x (.int i) v (.int i s1.toks) Q (I1.tok _) r1 ⟨_, rfl⟩ q1 (hs _ _))) (fun u s2 q => ⟨?_, q.2⟩) fun _ _ z => z.2
  have h1 : s1.toks + 1 ≤ s2.toks := q.1
  omega
theorem pep_repl {X : Cx} {o : Expr} {to : TE} {y z : Str} {j k : Nat} {c0 c1 apos pos : Pos} (ho : PEp X o to) (hyz : (y == z) = false := by decide)
    (hst : starEach [.Constant (.str y) j c0, .Constant (.str z) k c1] X.env = [(false, eval (.Constant (.str y) j c0) X.env), (false, eval (.Constant (.str z) k c1) X.env)] := by rfl)
    (hbase : attributeBase o "replace" X.env (eval o X.env) = eval o X.env := by rfl) (hline : (apos.endLine == pos.line) = true := by rfl) :
    PEp X (.Call (.Attribute o "replace" apos) [.Constant (.str y) j c0, .Constant (.str z) k c1] [] pos) (CwR.tReplC to y z) := by
  intro pins s σ H Q I h
  refine PySem.Call_method2 hbase hst hline (wpAny_mono (ho pins s σ H _ I h) (fun v s1 q => ?_) fun _ _ z => z)
  obtain ⟨hk, v', H1, I1, r1, x, e1, hb, q⟩ := q
  subst e1
  obtain ⟨tx, e2⟩ := r1
  subst e2
  refine ⟨"str", _, PySem.F.plainAttrs_str, PySem.F.slot_str_replace, PySem.F.type_str_replace, typeIs_str _ _ _, (fun _ e => nomatch e), Calls.callWith_builtin rfl (Calls.evalArgs_plain (Calls.spliced_cons ?_))⟩
  refine Calls.Constant_str (Calls.spliced_cons (Calls.Constant_str (Calls.spliced_nil ?_)))
  refine wpAny_mono (PySem.wpAny_toks (PySem.SC.replace (Q := fun u s' => EP X pins σ Q u s') (by show s1.toks ≠ 0; omega) (by show s1.toks + 1 ≠ 0; omega) (by show s1.toks ≠ s1.toks + 1; omega) hyz hb fun t' k => ⟨.str (Txt.replace x y z), H1, I1.tok k, ⟨t', rfl⟩, q⟩)) (fun u s2 q => ⟨?_, q.2⟩) fun _ _ z => z.2
  have h1 : s1.toks + 1 + 1 ≤ s2.toks := q.1
  omega
theorem pe_replP {X : Cx} {e : Expr} {t : TE} (h : PEp X e t) : PE X e t := ⟨fun pins s σ H Q I q => wpAny_mono (h pins s σ H Q I q) (fun _ _ z => z.2) fun _ _ z => z⟩
end CwR

/-! ### any(..) -/
section
variable {α : Type} {X : Cx} {A A' : Around} {s_0 : Shared} {H_0 : Hp} {cenv : Env} {fp : List Addr} {tn : Nat → Heap → Prop} {AC : α → List (Addr × Obj) → Prop} {End : α → Hp → Prop} {Yd : α → V → Hp → (α → Hp → Prop) → Prop} {ga : Addr} {gn n : Nat} {go : Obj}
/-- any(..) asks on -/
theorem any_gx {R : Result → Shared → Prop} {Stop : Hp → Prop} {End : Unit → Hp → Prop} (hh : A.handled = none) (hroom : A.depth < recursionLimit) (hG : GenObj go gn)
    (yes : ∀ (σ : L2.St) (H : Hp) (cp : List (Addr × Obj)) (s1 : Shared), Inv (gblk X A' s_0 H_0 cenv fp) cp σ H s1 → End () H → R (.ok (.ret (.bool false))) s1)
    (no : ∀ (σ : L2.St) (H : Hp) (cp : List (Addr × Obj)) (s1 : Shared), Inv (gblk X A' s_0 H_0 cenv fp) cp σ H s1 → Stop H → R (.ok (.ret (.bool true))) s1) :
    ∀ (n : Nat) (s : Shared), s.heap.NoLimit → s.heap.get? ga = some go → (∃ gs, s.gens[gn]? = some gs ∧ gs.Goes (model X.prog X.w) A.in1.in1 (RG (gblk X A' s_0 H_0 cenv fp) (fun _ cp => cp = [(ga, go)]) End)
      (YG (gblk X A' s_0 H_0 cenv fp) fp tn (fun _ cp => cp = [(ga, go)]) (fun _ y H Nx => ∃ b : Bool, y = .bl b ∧ if b = true then Stop H else Nx () H)) n (.send .none) (s.setGen gn .running)) →
      codeAny (model X.prog X.w) A (.builtin "any.loop" ⟨[.ref ga], []⟩) R s := by
  intro n
  induction n with
  | zero =>
    rintro s hl e ⟨gs, hgs, hgo⟩
    refine codeAny_builtin F.entry_any_loop ?_
    rw [Around.under_plainId F.plain_any_loop _]
    show wpAny _ A.in1 (pyNext (.ref ga) >>= _) _ _ s
    refine wpAny_bind (next_gx (A := A.in1) hh hroom hl hG e hgs hgo (fun a x σ H i cp Nx v s1 gs' r hac I st hy at_ kap => ?_) fun a σ H cp s1 hac I q => ?_)
    · obtain ⟨b, rfl, hb⟩ := hy
      cases (show v = Value.bool b from r)
      refine wpAny_bind (wpAny_holding (wpAny_truthy_bool ?_))
      refine wpAny_bind (wpAny_letGo ?_)
      cases b with
      | false =>
        obtain ⟨m, hm, _⟩ := kap () cp s1 (by simpa using hb) hac I st
        cases hm
      | true =>
        simp only [if_true] at hb ⊢
        exact wpAny_bind (wpAny_rule (wpAny_pure (no σ H cp s1 I hb)))
    · exact wpAny_bind (wpAny_rule (wpAny_pure (yes σ H cp s1 I q)))
  | succ n ih =>
    rintro s hl e ⟨gs, hgs, hgo⟩
    refine codeAny_builtin F.entry_any_loop ?_
    rw [Around.under_plainId F.plain_any_loop _]
    show wpAny _ A.in1 (pyNext (.ref ga) >>= _) _ _ s
    refine wpAny_bind (next_gx (A := A.in1) hh hroom hl hG e hgs hgo (fun a x σ H i cp Nx v s1 gs' r hac I st hy at_ kap => ?_) fun a σ H cp s1 hac I q => ?_)
    · obtain ⟨b, rfl, hb⟩ := hy
      cases (show v = Value.bool b from r)
      refine wpAny_bind (wpAny_holding (wpAny_truthy_bool ?_))
      refine wpAny_bind (wpAny_letGo ?_)
      cases b with
      | false =>
        simp only [Bool.false_eq_true, if_false] at hb ⊢
        subst hac
        refine wpAny_pure ⟨plainId_quiet F.plain_any_loop _, ih s1 I.nolimit (I.pin (ga, go) (List.mem_append_right _ List.mem_cons_self)).1 ⟨gs', at_, ?_⟩⟩
        obtain ⟨m, hm, z⟩ := kap () [(ga, go)] (s1.setGen gn .running) hb rfl (inv_moved I rfl (allBare_setGen I.bare rfl) fun _ _ q => q) st
        cases hm
        exact z
      | true =>
        simp only [if_true] at hb ⊢
        exact wpAny_bind (wpAny_rule (wpAny_pure (no σ H cp s1 I hb)))
    · exact wpAny_bind (wpAny_rule (wpAny_pure (yes σ H cp s1 I q)))
end
section
variable {X : Cx}
/-- any(elt for tg in iter ..) -/
def tAnyX (P : Addr) (wi : TI) (g : TG) (tt : TT) (te : TE) (vs : List Nat) : TE := fun σ H Q => wi σ H fun J H1 => GxR.TabG H1 P ∧ ∀ H2, GxR.Tabbed P H1 H2 → ∃ W : Nat → Nat → Unit → Hp → Prop, (∃ m, W 0 m () H2) ∧
  tGx J g tt te (wipe σ vs) vs (fun _ H => Q (.bl false) H) (fun _ y H Nx => ∃ b : Bool, y = .bl b ∧ if b = true then Q (.bl true) H else Nx () H) W
theorem pe_anyX {c P : Addr} {elt tg iter : Expr} {ifs : List Expr} {p pos gpos : Pos} {scope : Scope} {own : List (Str × Nat)} {wi : TI} {g : TG} {tt : TT} {te : TE} {k : Nat}
    (hr : Room (k + 1) X.A) (hc : X.calm = true) (hN : X.N.Nodup) (hgl : Gl X "any") (hm : X.mg "any" = none) (hb : bootBuiltins "any" = some (.builtin "any")) (TB : GxR.TabB X.base X.mg c P) (hcode : X.env.code = .ref c)
    (hco : scope.isCoroutine = false) (hdot : scope.names.lookup (".0" : Str) = some NameKind.local) (nocell : ∀ y ∈ scope.names, y.2 ≠ .cell) (ok : BlkOk X.N X.env.scope scope own) (hi : PI X tg iter wi)
    (hg : ∀ (A' : Around) (s : Shared) (H : Hp) (C : Addr) (cl : List (Str × Addr)) (code : Value) (fp : List Addr), Room k A' → A'.guards = X.A.guards → PG (gblk X A' s H (genEnv scope cl C code builtinsNs X.env) fp) tg g)
    (ht : ∀ (A' : Around) (s : Shared) (H : Hp) (C : Addr) (cl : List (Str × Addr)) (code : Value) (fp : List Addr), Room k A' → A'.guards = X.A.guards → PTs (gblk X A' s H (genEnv scope cl C code builtinsNs X.env) fp) ifs tt)
    (he : ∀ (A' : Around) (s : Shared) (H : Hp) (C : Addr) (cl : List (Str × Addr)) (code : Value) (fp : List Addr), Room k A' → A'.guards = X.A.guards → PE (gblk X A' s H (genEnv scope cl C code builtinsNs X.env) fp) elt te)
    (hs : ∀ v, genFold iter X.env v = pure v)
    (hst : starEach [.GeneratorExp elt [⟨tg, iter, ifs, 0⟩] scope gpos] X.env = (false, eval (.GeneratorExp elt [⟨tg, iter, ifs, 0⟩] scope gpos) X.env) :: starEach [] X.env := by rfl) :
    PE X (.Call (.Name "any" p) [.GeneratorExp elt [⟨tg, iter, ifs, 0⟩] scope gpos] [] pos) (tAnyX P wi g tt te (own.map (·.2))) := by
  refine ⟨fun pins s σ H Q I h => ?_⟩
  refine wpAny_Call_Name_kw (ld_blt I hgl hm hb ?_)
  refine PyProof.Rows.callWith_builtin1 ?_ hst (by rfl)
  rw [hst]
  show wpAny _ _ (spliced ((false, eval (.GeneratorExp elt [⟨tg, iter, ifs, 0⟩] scope gpos) X.env) :: backTo pos (starEach [] X.env))) _ _ s
  refine Calls.spliced_cons (gx_make (A := X.A.in1.in1) hr ⟨rfl, rfl, rfl, rfl, (by show X.A.units + 1 + 1 ≤ _; omega)⟩ hc hN TB hcode hco hdot nocell ok hi hg ht he hs I h fun J H1 H2 u s5 hR hT hG => ?_)
  obtain ⟨A', s_0, H_0, cenv, fp, ga, gn, go, tn, gs, rfl, hGO, hgs, hbare, I5, st5, nf, hlt, keep, back, goes⟩ := hG
  obtain ⟨W, ⟨m, w0⟩, turn⟩ := hR H2 hT
  refine Calls.spliced_nil ?_
  have pin5 := (I5.pin (ga, go) (List.mem_append_right _ List.mem_cons_self)).1
  refine call_function_tree F.kind_any F.plain_any F.entry_any (F.args_any1 _) ?_
  unfold Builtin.«any»
  refine wpAny_bind (m := oneArg "any" _) (wpAny_pure ?_)
  refine wpAny_bind (wpAny_pyIter_gen (hGO.isGen pin5) ?_)
  refine wpAny_pure ⟨plainId_quiet F.plain_any_loop _, any_gx (A' := A') (s_0 := s_0) (H_0 := H_0) (cenv := cenv) (fp := fp) (tn := tn) (go := go) (gn := gn) (Stop := fun H => Q (.bl true) H) (End := fun _ H => Q (.bl false) H) hr.hd hr.depth hGO
    (fun σ' H' cp s1 I1 q => ⟨.bl false, H', back _ _ _ _ I1, rfl, q⟩) (fun σ' H' cp s1 I1 q => ⟨.bl true, H', back _ _ _ _ I1, rfl, q⟩) (m + 1) s5 I5.nolimit pin5 ⟨gs, hgs, ?_⟩⟩
  refine goes Unit _ _ _ W m (m + 1) () [(ga, go)] _ turn w0 (Nat.lt_succ_self _) (fun a cp hac p hp b hb z => ?_) rfl (inv_moved I5 rfl (allBare_setGen I5.bare rfl) fun _ _ q => q) st5
  subst hac
  have e : p = (ga, go) := by simpa using hp
  subst e
  exact absurd (hlt b hb) (by rw [← z]; exact Nat.lt_irrefl _)
end

/-! ### sep.join(elt for tg in iter ..) -/
namespace GxJ
open PySem PySem.Spec PyProof.Rows L2 Builtin Builtin.Str
section
variable {X : Cx}
def tJoinX (P : Addr) (to : TE) (wi : TI) (g : TG) (tt : TT) (te : TE) (vs : List Nat) : TE := fun σ H Q => to σ H fun v H0 => ∃ sep : PySem.Str, v = .str sep ∧ wi σ H0 fun J H1 => GxR.TabG H1 P ∧ ∀ H2, GxR.Tabbed P H1 H2 → ∃ W : Nat → Nat → List V → Hp → Prop, (∃ m, W 0 m [] H2) ∧
  tGx J g tt te (wipe σ vs) vs (fun ys H => ∃ ws : List PySem.Str, ys = ws.map V.str ∧ JoinOk sep ws = true ∧ Q (.str (Txt.join sep ws)) H) YdL W
theorem l_strs : ∀ {ws : List PySem.Str} {us : List Value}, Vals (ws.map V.str) us → ∃ l : List (PySem.Str × Tok), strValues l = us ∧ l.map (·.1) = ws
  | [], _, .nil => ⟨[], rfl, rfl⟩
  | y :: ys, _, .cons r t => by
    obtain ⟨k, rfl⟩ := r
    obtain ⟨l, rfl, e⟩ := l_strs t
    exact ⟨(y, k) :: l, rfl, by rw [List.map_cons, e]⟩
theorem pe_joinX {c P : Addr} {o elt tg iter : Expr} {ifs : List Expr} {apos cpos gpos : Pos} {scope : Scope} {own : List (PySem.Str × Nat)} {to : TE} {wi : TI} {g : TG} {tt : TT} {te : TE} {k : Nat}
    (hr : Room (k + 1) X.A) (hc : X.calm = true) (hN : X.N.Nodup) (ho : PE X o to) (TB : GxR.TabB X.base X.mg c P) (hcode : X.env.code = .ref c)
    (hco : scope.isCoroutine = false) (hdot : scope.names.lookup (".0" : PySem.Str) = some NameKind.local) (nocell : ∀ y ∈ scope.names, y.2 ≠ .cell) (ok : BlkOk X.N X.env.scope scope own) (hi : PI X tg iter wi)
    (hg : ∀ (A' : Around) (s : Shared) (H : Hp) (C : Addr) (cl : List (PySem.Str × Addr)) (code : Value) (fp : List Addr), Room k A' → A'.guards = X.A.guards → PG (gblk X A' s H (genEnv scope cl C code builtinsNs X.env) fp) tg g)
    (ht : ∀ (A' : Around) (s : Shared) (H : Hp) (C : Addr) (cl : List (PySem.Str × Addr)) (code : Value) (fp : List Addr), Room k A' → A'.guards = X.A.guards → PTs (gblk X A' s H (genEnv scope cl C code builtinsNs X.env) fp) ifs tt)
    (he : ∀ (A' : Around) (s : Shared) (H : Hp) (C : Addr) (cl : List (PySem.Str × Addr)) (code : Value) (fp : List Addr), Room k A' → A'.guards = X.A.guards → PE (gblk X A' s H (genEnv scope cl C code builtinsNs X.env) fp) elt te)
    (hs : ∀ v, genFold iter X.env v = pure v) (hbase : attributeBase o "join" X.env (eval o X.env) = eval o X.env := by rfl)
    (hfew : ((backTo cpos (starEach [.GeneratorExp elt [⟨tg, iter, ifs, 0⟩] scope gpos] X.env)).all (fun x => !x.1) && (backToKw cpos (keywordEach [] X.env)).all (fun x => x.1.isSome)
      && decide (([.GeneratorExp elt [⟨tg, iter, ifs, 0⟩] scope gpos] : List Expr).length + ([] : List Keyword).length + (if ([] : List Keyword).isEmpty then 0 else 1) < 30)) = true := by rfl)
    (hline : (apos.endLine == cpos.line) = true := by rfl)
    (hst : starEach [.GeneratorExp elt [⟨tg, iter, ifs, 0⟩] scope gpos] X.env = (false, eval (.GeneratorExp elt [⟨tg, iter, ifs, 0⟩] scope gpos) X.env) :: starEach [] X.env := by rfl)
    (hplain : (backTo cpos (starEach [] X.env)).any (·.1) = false := by rfl) :
    PE X (.Call (.Attribute o "join" apos) [.GeneratorExp elt [⟨tg, iter, ifs, 0⟩] scope gpos] [] cpos) (tJoinX P to wi g tt te (own.map (·.2))) := by
  refine ⟨fun pins s σ H Q I h => ?_⟩
  refine wpAny_Call_method_late hbase hfew hline rfl (thn (ho.run pins s σ H _ I h) fun v s1 ⟨x', H1, I1, r1, sep, ex, q1⟩ => ?_)
  subst ex
  obtain ⟨tk, rfl⟩ := (show ∃ t, v = Value.str sep t from r1)
  refine ⟨"str", _, PySem.F.plainAttrs_str, PySem.F.slot_str_join, PySem.F.type_str_join, typeIs_str _ _ _, (fun _ e => nomatch e), ?_⟩
  rw [hst]
  refine Calls.callWith_builtin (by show (false || (backTo cpos (starEach [] X.env)).any (·.1)) = false; rw [hplain] <;> rfl) (Calls.evalArgs_plain ?_)
  show wpAny _ _ (spliced ((false, eval (.GeneratorExp elt [⟨tg, iter, ifs, 0⟩] scope gpos) X.env) :: backTo cpos (starEach [] X.env))) _ _ s1
  refine Calls.spliced_cons (gx_make (A := X.A.in1.in1.in1) hr ⟨rfl, rfl, rfl, rfl, (by show X.A.units + 1 + 1 + 1 ≤ _; omega)⟩ hc hN TB hcode hco hdot nocell ok hi hg ht he hs I1 q1 fun J H2 H3 u s5 hR hT hG => ?_)
  obtain ⟨W, ⟨m, w0⟩, turn⟩ := hR H3 hT
  refine Calls.spliced_nil ?_
  have ⟨A', s_0, H_0, cenv, fp, ga, gn, go, tn, gs, eu, hGO, hgs, hbare, I5, st5, nf, hlt, keep, back, goes⟩ := hG
  have pin5 := (I5.pin (ga, go) (List.mem_append_right _ List.mem_cons_self)).1
  rw [eu] at hG ⊢
  have hTI : s5.TypeIs (.ref ga) "generator" := (hGO.isGen pin5).typeIs
  refine wpAny_call (codeAny_call_builtin F.slot_str_join.plain F.entry_str_join (F.slot_str_join.check _ _ _ _ _ _ _ _ (typeIs_str _ _ _) (F.args_str_join_2 _ _) ?_))
  show wpAny _ X.A.in1 («str.join» ⟨[.str sep tk, .ref ga], []⟩) _ _ s5
  rw [join_tree_other]
  refine wpAny_bind (wpAny_typeOf hTI ?_)
  show wpAny _ X.A.in1 ((pyIter (.ref ga)).tryCatch _ >>= fun it => collect it >>= fun items => joinTail sep items) _ _ s5
  refine wpAny_bind (wpAny_tryCatch (wpAny_pyIter_gen (hGO.isGen pin5) ?_))
  refine wpAny_bind (collect_gx (A := X.A.in1) hr.hd hr.depth hG w0 turn (fun s' acc ys H' I' rv q => ?_))
  obtain ⟨ws, rfl, hok, hq⟩ := q
  obtain ⟨l, hl, el⟩ := l_strs rv
  rw [← hl]
  subst el
  unfold JoinOk at hok
  rw [Bool.not_eq_true'] at hok
  have gj : Gives (joinTail sep (strValues l)) (joinMade sep l) := by
    have g0 := gives_joinTail sep l hok
    cases l with
    | nil => exact g0
    | cons p r => cases r with
      | nil => exact g0
      | cons q r' => exact g0
  exact gj X.prog X.w X.A (wants _ _) s' (post_join l ⟨joinFit_length hok, fun t' k' => ⟨.str _, H', I'.tok k', ⟨t', rfl⟩, hq⟩⟩)
end
end GxJ

/-! ### heaps -/
theorem same_upd {H : Hp} {p : Addr} {o : HO} (h : H p = none) : Same H (upd H p o) := fun b x e => by
  rw [upd_ne (ne_of_none e h)]
  exact e
def Fr (d l : Addr) (H H' : Hp) : Prop := ∀ b o, b ≠ d → b ≠ l → H b = some o → H' b = some o
theorem Fr.trans {d l : Addr} {H H1 H2 : Hp} (a : Fr d l H H1) (b : Fr d l H1 H2) : Fr d l H H2 := fun c o h1 h2 h => b c o h1 h2 (a c o h1 h2 h)
theorem Fr.refl {d l : Addr} {H : Hp} : Fr d l H H := fun _ _ _ _ h => h
theorem Fr.new {d l p : Addr} {H : Hp} {o : HO} (h : H p = none) : Fr d l H (upd H p o) := fun b x _ _ e => same_upd h b x e
theorem Fr.of {d l : Addr} {H H' : Hp} (h : Same H H') : Fr d l H H' := fun b x _ _ e => h b x e
theorem Fr.d {d l : Addr} {H : Hp} {o : HO} : Fr d l H (upd H d o) := fun b x h1 _ e => by rw [upd_ne h1]; exact e
theorem Fr.l {d l : Addr} {H : Hp} {o : HO} : Fr d l H (upd H l o) := fun b x _ h2 e => by rw [upd_ne h2]; exact e
def Deck (H : Hp) (d l : Addr) : Prop := d ≠ l ∧ ∃ (cs : List Int) (z : Int), H d = some (.lst [.ref l, .int z]) ∧ H l = some (.lst (cs.map V.int)) ∧ cs.length ≤ 63 ∧ 0 ≤ z ∧ z < 4294967296
theorem Deck.same {H H' : Hp} {d l : Addr} (D : Deck H d l) (s : Same H H') : Deck H' d l := by
  obtain ⟨ne, cs, z, hd, hl, r⟩ := D
  exact ⟨ne, cs, z, s _ _ hd, s _ _ hl, r⟩
theorem Deck.new {H : Hp} {d l p : Addr} {o : HO} (D : Deck H d l) (h : H p = none) : Deck (upd H p o) d l := D.same (same_upd h)
theorem Deck.ne_new {H : Hp} {d l p : Addr} (D : Deck H d l) (h : H p = none) : p ≠ d ∧ p ≠ l := by
  obtain ⟨ne, cs, z, hd, hl, r⟩ := D
  exact ⟨(ne_of_none hd h).symm, (ne_of_none hl h).symm⟩
theorem p29 : (0 : Int) < 2147483629 := by decide
theorem p47 : (0 : Int) < 2147483647 := by decide
theorem p87 : (0 : Int) < 2147483587 := by decide
theorem sl1 : 1 ≤ sizeLine := by decide
theorem sl2 : 2 ≤ sizeLine := by decide
theorem sl3 : 3 ≤ sizeLine := by decide
theorem sl4 : 4 ≤ sizeLine := by decide
theorem seqIx0 {α : Type} (x : α) (xs : List α) : seqIndex? 0 (x :: xs).length = some 0 := by
  refine (ixN_seq (n := (x :: xs).length) (i := 0) (j := 0) ?_).1
  unfold ixN
  rw [if_pos (by decide), if_pos (by rw [List.length_cons]; omega)]
  rfl
theorem dpInts {K : PySem.W.Frag} {H : Hp} : ∀ cs : List Int, DpAll K H (cs.map V.int) (cs.map PyData.int)
  | [] => .nil
  | c :: r => .cons (.int c) (dpInts r)
theorem shInts (ns : List Int) : SeqAt.shaped (.list (ns.map PyData.int)) = true := by
  unfold SeqAt.shaped
  rw [Bool.and_eq_true]
  refine ⟨?_, ?_⟩
  · simp only [PyData.canLay0, canLayAll_ints]
  · simp only [PyData.depth, depthAll_ints]
    decide
theorem at_pick {xs : List V} {j : Int} (h0 : 0 ≤ j) (h1 : j < xs.length) : ∃ x, atI xs j = some x ∧ x ∈ xs := by
  obtain ⟨k, rfl⟩ : ∃ k : Nat, j = (k : Int) := ⟨j.toNat, (Int.toNat_of_nonneg h0).symm⟩
  have hk : k < xs.length := by omega
  exact ⟨xs[k], atI_nat (List.getElem?_eq_getElem hk), List.getElem_mem hk⟩
theorem units65 {k : Nat} {A : Around} (r : Room k A) : A.units + 65 < cLine := by have := r.un; omega
def rLenK (K : PySem.W.Frag) : List V → Hp → VK → Prop := fun xs H Q => ∃ p ys, xs = [.ref p] ∧ (SqL K H p ys ∨ SqT K H p ys) ∧ Q (.int ys.length) H
def rTupK (K : PySem.W.Frag) : List V → Hp → VK → Prop := fun xs H Q => ∃ p ys, xs = [.ref p] ∧ ((SqL K H p ys ∧ ∀ l, H l = none → Q (.ref l) (upd H l (.tup ys))) ∨ (SqT K H p ys ∧ Q (.ref p) H))
def rLstK (K : PySem.W.Frag) : List V → Hp → VK → Prop := fun xs H Q => ∃ p ys, xs = [.ref p] ∧ (SqL K H p ys ∨ SqT K H p ys) ∧ ∀ l, H l = none → Q (.ref l) (upd H l (.lst ys))
/-- joining ways behind a test, behind an expression -/
def tCutT (t : TT) : TT := fun σ H Q => ∃ Mid : Bool → Hp → Prop, t σ H Mid ∧ ∀ b H1, Mid b H1 → Q b H1
theorem pt_cut {X : Cx} {e : Expr} {t : TT} (h : PT X e t) : PT X e (tCutT t) := ⟨fun pins s σ H Q I hw => by
  obtain ⟨Mid, h1, q⟩ := hw
  exact thn (h.run pins s σ H _ I h1) fun c s1 ⟨H1, I1, m⟩ => ⟨H1, I1, q _ _ m⟩⟩
def tCutE (t : TE) : TE := fun σ H Q => ∃ Mid : VK, t σ H Mid ∧ ∀ v H1, Mid v H1 → Q v H1
theorem pe_cut {X : Cx} {e : Expr} {t : TE} (h : PE X e t) : PE X e (tCutE t) := ⟨fun pins s σ H Q I hw => by
  obtain ⟨Mid, h1, q⟩ := hw
  exact thn (h.run pins s σ H _ I h1) fun u s1 ⟨v, H1, I1, r, m⟩ => ⟨v, H1, I1, r, q _ _ m⟩⟩

/-! ### data made by the law or the program: numbers, truths, texts, lists and tuples of these -/
mutual
inductive Tk (H : Hp) : V → PyData → Prop
  | bl (b : Bool) : Tk H (.bl b) (.bool b)
  | int (i : Int) : Tk H (.int i) (.int i)
  | str (x : Str) : Tk H (.str x) (.str x)
  | lst {a : Addr} {xs : List V} {ds : List PyData} : H a = some (.lst xs) → TkAll H xs ds → Tk H (.ref a) (.list ds)
  | tup {a : Addr} {xs : List V} {ds : List PyData} : H a = some (.tup xs) → TkAll H xs ds → Tk H (.ref a) (.tuple ds)
inductive TkAll (H : Hp) : List V → List PyData → Prop
  | nil : TkAll H [] []
  | cons {v : V} {vs : List V} {d : PyData} {ds : List PyData} : Tk H v d → TkAll H vs ds → TkAll H (v :: vs) (d :: ds)
end
theorem TkAll.length {H : Hp} : ∀ {vs : List V} {ds : List PyData}, TkAll H vs ds → vs.length = ds.length
  | _, _, .nil => rfl
  | _, _, .cons _ t => by rw [List.length_cons, List.length_cons, t.length]
mutual
theorem Tk.same {H H' : Hp} (s : Same H H') : ∀ {v : V} {d : PyData}, Tk H v d → Tk H' v d
  | _, _, .bl b => .bl b
  | _, _, .int i => .int i
  | _, _, .str x => .str x
  | _, _, .lst h t => .lst (s _ _ h) (t.same s)
  | _, _, .tup h t => .tup (s _ _ h) (t.same s)
theorem TkAll.same {H H' : Hp} (s : Same H H') : ∀ {vs : List V} {ds : List PyData}, TkAll H vs ds → TkAll H' vs ds
  | _, _, .nil => .nil
  | _, _, .cons h t => .cons (h.same s) (t.same s)
end
theorem TkAll.get {H : Hp} : ∀ {xs : List V} {ds : List PyData} {j : Nat} {x : V}, TkAll H xs ds → xs[j]? = some x → ∃ d, ds[j]? = some d ∧ Tk H x d
  | _, _, _, _, .nil, h => by simp at h
  | _, _, 0, _, .cons (d := d) a _, h => by
    cases (Option.some.inj h)
    exact ⟨d, rfl, a⟩
  | _, _, j + 1, _, .cons _ t, h => t.get h
theorem TkAll.append {H : Hp} : ∀ {xs ys : List V} {ds es : List PyData}, TkAll H xs ds → TkAll H ys es → TkAll H (xs ++ ys) (ds ++ es)
  | _, _, _, _, .nil, t => t
  | _, _, _, _, .cons a r, t => .cons a (r.append t)
theorem TkAll.ints {H : Hp} : ∀ ns : List Int, TkAll H (ns.map V.int) (ns.map PyData.int)
  | [] => .nil
  | n :: r => .cons (.int n) (TkAll.ints r)
theorem Tk.int_inv {H : Hp} {v : V} {i : Int} (h : Tk H v (.int i)) : v = .int i := by cases h; rfl
theorem Tk.tup_inv {H : Hp} {v : V} {ds : List PyData} (h : Tk H v (.tuple ds)) : ∃ a xs, v = .ref a ∧ H a = some (.tup xs) ∧ TkAll H xs ds := by
  cases h with
  | tup h t => exact ⟨_, _, rfl, h, t⟩
theorem Tk.lst_inv {H : Hp} {v : V} {ds : List PyData} (h : Tk H v (.list ds)) : ∃ a xs, v = .ref a ∧ H a = some (.lst xs) ∧ TkAll H xs ds := by
  cases h with
  | lst h t => exact ⟨_, _, rfl, h, t⟩
theorem TkAll.int_inv {H : Hp} : ∀ {vs : List V} {ns : List Int}, TkAll H vs (ns.map PyData.int) → vs = ns.map V.int
  | _, [], .nil => rfl
  | _, n :: r, .cons h t => by rw [List.map_cons, h.int_inv, t.int_inv]
/-- heaps without one place -/
def hd1 (p : Addr) (H : Hp) : Hp := fun b => if b = p then none else H b
theorem hd1_le {p : Addr} {H : Hp} : Same (hd1 p H) H := fun b o e => by
  unfold hd1 at e
  by_cases h : b = p
  · rw [if_pos h] at e; cases e
  · rw [if_neg h] at e; exact e
theorem hd1_same {p : Addr} {H H' : Hp} (s : Same H H') : Same (hd1 p H) (hd1 p H') := fun b o e => by
  unfold hd1 at e ⊢
  by_cases h : b = p
  · rw [if_pos h] at e; cases e
  · rw [if_neg h] at e ⊢; exact s _ _ e
theorem hd1_upd {p : Addr} {H : Hp} {o : HO} : Same (hd1 p H) (hd1 p (upd H p o)) := fun b x e => by
  unfold hd1 at e ⊢
  by_cases h : b = p
  · rw [if_pos h] at e; cases e
  · rw [if_neg h] at e ⊢; rw [upd_ne h]; exact e
theorem hd1_at {p b : Addr} {H : Hp} (h : b ≠ p) : hd1 p H b = H b := if_neg h
theorem hd1_of {p : Addr} {H H' : Hp} (s : Same H H') (n : H p = none) : Same H (hd1 p H') := fun b o e => by
  rw [hd1_at (ne_of_none e n)]
  exact s _ _ e
theorem same_of_hd1 {p : Addr} {H H' : Hp} {o : HO} (s : Same H (hd1 p H')) : Same H (upd H' p o) := fun b x e => by
  have z := s b x e
  unfold hd1 at z
  by_cases h : b = p
  · rw [if_pos h] at z; cases z
  · rw [if_neg h] at z; rw [upd_ne h]; exact z

/-! ### tables and gates -/
def tabOf (bs : List Bool) : Str := ⟨(bs.map fun b => if b = true then 49 else 48).toArray⟩
def plc (ws : List Int) : Int := ws.foldl (fun p w => 2 * p + w) 0
def gateM (bs : List Bool) (ws : List Int) : Int := if bs.getD (plc ws).toNat false = true then 1 else 0
theorem plc_snoc (ws : List Int) (w : Int) : plc (ws ++ [w]) = 2 * plc ws + w := by
  unfold plc
  rw [List.foldl_append]
  rfl
theorem plc_take {ws : List Int} {i : Nat} {u : Int} (h : ws[i]? = some u) : plc (ws.take (i + 1)) = 2 * plc (ws.take i) + u := by
  rw [List.take_add_one, h]
  exact plc_snoc _ _
theorem plc_bd : ∀ (n : Nat) (ws : List Int), ws.length = n → (∀ w ∈ ws, w = 0 ∨ w = 1) → 0 ≤ plc ws ∧ plc ws < 2 ^ n := by
  intro n
  induction n with
  | zero =>
    intro ws h _
    cases List.eq_nil_of_length_eq_zero h
    decide
  | succ n ih =>
    intro ws h hw
    have hne : ws ≠ [] := fun z => by rw [z] at h; cases h
    obtain ⟨r, x, rfl⟩ : ∃ r x, ws = r ++ [x] := ⟨ws.dropLast, ws.getLast hne, (List.dropLast_concat_getLast hne).symm⟩
    have hr := ih r (by rw [List.length_append] at h; simpa using h) fun w h' => hw w (List.mem_append_left _ h')
    have hx := hw x (by simp)
    rw [plc_snoc, Int.pow_succ]
    omega
theorem gate01 (bs : List Bool) (ws : List Int) : gateM bs ws = 0 ∨ gateM bs ws = 1 := by
  unfold gateM
  split
  · exact .inr rfl
  · exact .inl rfl
theorem int_sign (b : Bool) : PySem.intText? ⟨#[if b = true then 49 else 48]⟩ = some (if b = true then 1 else 0) := by
  cases b <;> decide +kernel
def spGate (K : PySem.W.Frag) : Sp := fun vs H Q _ => ∃ (bs : List Bool) (la : Addr) (ws : List Int), vs = [.str (tabOf bs), .ref la] ∧ SqL K H la (ws.map V.int) ∧ (∀ w ∈ ws, w = 0 ∨ w = 1) ∧ bs.length = 2 ^ ws.length ∧ ws.length ≤ 3 ∧ Q (.int (gateM bs ws)) H
theorem gate_read {bs : List Bool} {ws : List Int} (hw : ∀ w ∈ ws, w = 0 ∨ w = 1) (hb : bs.length = 2 ^ ws.length) (h3 : ws.length ≤ 3) : ∃ b : Bool, 0 ≤ plc ws ∧ plc ws < 2 ^ 63 ∧ plc ws < (tabOf bs).length ∧ (tabOf bs).cps[(plc ws).toNat]? = some (if b = true then 49 else 48) ∧ gateM bs ws = if b = true then 1 else 0 := by
  obtain ⟨p0, p1⟩ := plc_bd _ ws rfl hw
  have p8 : plc ws < 8 := by
    have : (2 : Int) ^ ws.length ≤ 8 := by
      have : ws.length = 0 ∨ ws.length = 1 ∨ ws.length = 2 ∨ ws.length = 3 := by omega
      rcases this with h | h | h | h <;> rw [h] <;> decide
    omega
  have hlt : (plc ws).toNat < bs.length := by
    have : ((2 ^ ws.length : Nat) : Int) = (2 : Int) ^ ws.length := by simp
    omega
  refine ⟨bs[(plc ws).toNat], p0, by omega, ?_, ?_, ?_⟩
  · have : (tabOf bs).length = bs.length := by simp [tabOf, Str.length]
    rw [this]
    omega
  · simp [tabOf, List.getElem?_eq_getElem hlt]
  · unfold gateM
    rw [List.getD_eq_getElem?_getD, List.getElem?_eq_getElem hlt]
    rfl

/-! ### walks -/
theorem gx_tup {α : Type} {K : PySem.W.Frag} {a : Addr} {xs : List V} {g : TG} {tt : TT} {te : TE} {vs : List Nat} {σ0 : L2.St} {End : α → Hp → Prop} {Yd : α → V → Hp → (α → Hp → Prop) → Prop} {a0 : α} {H0 : Hp} (Pv : Nat → α → Hp → Prop) (h0 : Pv 0 a0 H0)
    (hl : ∀ i c H, i ≤ xs.length → Pv i c H → SqT K H a xs)
    (hs : ∀ i x c H, xs[i]? = some x → Pv i c H → g x σ0 H fun σ2 H2 => wipe σ2 vs = σ0 ∧ tt σ2 H2 fun b H3 => if b = true then te σ2 H3 fun y H4 => Yd c y H4 (Pv (i + 1)) else Pv (i + 1) c H3) (hd : ∀ c H, Pv xs.length c H → End c H) :
    ∃ W : Nat → Nat → α → Hp → Prop, (∃ m, W 0 m a0 H0) ∧ tGx (Itt K a) g tt te σ0 vs End Yd W := by
  refine ⟨fun i m c H => m = xs.length - i ∧ i ≤ xs.length ∧ Pv i c H, ⟨xs.length, rfl, Nat.zero_le _, h0⟩, ?_⟩
  rintro i m c H ⟨rfl, hi, p⟩
  by_cases hlt : i < xs.length
  · have hx : xs[i]? = some xs[i] := List.getElem?_eq_getElem hlt
    refine .inr ⟨⟨xs, xs[i], hl i c H hi p, hx⟩, Pv (i + 1), fun c' H' p' => ⟨xs.length - (i + 1), by omega, rfl, hlt, p'⟩, fun x H' y => ?_⟩
    obtain ⟨rfl, y⟩ := y
    exact hs i x c _ (y xs (hl i c _ hi p)) p
  · have e : i = xs.length := by omega
    subst e
    exact .inl ⟨⟨xs, hl _ c H hi p, Nat.le_refl _⟩, hd c H p⟩
theorem lc_zipT {K : PySem.W.Frag} {a b : Addr} {xs ys : List V} {g : TG} {tt : TT} {te : TE} {vs : List Nat} {σ : L2.St} {H1 : Hp} {D : Addr} {Qd : Hp → Prop} (el : xs.length = ys.length) (Pv : Nat → Hp → Prop) (h0 : Pv 0 (upd H1 D (.lst []))) (hl : ∀ i H, i ≤ xs.length → Pv i H → SqT K H a xs ∧ SqT K H b ys)
    (hs : ∀ i x y T H, xs[i]? = some x → ys[i]? = some y → H T = none → Pv i H → g (.ref T) (wipe σ vs) (upd H T (.tup [x, y])) fun σ2 H2 => wipe σ2 vs = wipe σ vs ∧ tt σ2 H2 fun b H3 =>
      if b = true then te σ2 H3 fun y H4 => ∃ acc, H4 D = some (.lst acc) ∧ acc.length < sizeLine ∧ Pv (i + 1) (upd H4 D (.lst (acc ++ [y]))) else Pv (i + 1) H3) (hd : ∀ H, Pv xs.length H → Qd H) :
    ∃ W : Nat → Nat → Hp → Prop, (∃ m, W 0 m (upd H1 D (.lst []))) ∧ ∀ i m H, W i m H →
      ((RZ.ItzT K a b).stop i H ∧ Qd H) ∨ ((RZ.ItzT K a b).go i H ∧ ∃ Nx : Hp → Prop, (∀ H', Nx H' → ∃ m', m' < m ∧ W (i + 1) m' H') ∧ ∀ x H', (RZ.ItzT K a b).yld i H x H' → g x (wipe σ vs) H' fun σ2 H2 => wipe σ2 vs = wipe σ vs ∧ tt σ2 H2 fun b H3 =>
        if b = true then te σ2 H3 fun y H4 => ∃ acc, H4 D = some (.lst acc) ∧ acc.length < sizeLine ∧ Nx (upd H4 D (.lst (acc ++ [y]))) else Nx H3) := by
  refine ⟨fun i m H => m = xs.length - i ∧ i ≤ xs.length ∧ Pv i H, ⟨xs.length, by simp, Nat.zero_le _, h0⟩, ?_⟩
  rintro i m H ⟨rfl, hi, p⟩
  obtain ⟨qx, qy⟩ := hl i H hi p
  by_cases hlt : i < xs.length
  · have hx : xs[i]? = some xs[i] := List.getElem?_eq_getElem hlt
    have hy : ys[i]? = some (ys[i]'(by omega)) := List.getElem?_eq_getElem _
    refine .inr ⟨⟨xs, ys, _, _, qx, qy, hx, hy⟩, Pv (i + 1), fun H' p' => ⟨xs.length - (i + 1), by omega, rfl, hlt, p'⟩, fun x H' y => ?_⟩
    obtain ⟨T, x1, y1, rfl, nT, rfl, e1, e2⟩ := y
    exact hs i x1 y1 T H (e1 xs qx) (e2 ys qy) nT p
  · have e : i = xs.length := by omega
    subst e
    exact .inl ⟨⟨xs, ys, qx, qy, .inl (Nat.le_refl _)⟩, hd H p⟩

/-! ### nets, and the words of nets -/
abbrev Gt := List Bool × List Nat
def gD (g : Gt) : PyData := .tuple [.str (tabOf g.1), .tuple ((g.2.map Int.ofNat).map PyData.int)]
def netD (many : Int) (gs : List Gt) : PyData := .tuple [.int many, .tuple (gs.map gD)]
def rowD (r : List Int) : PyData := .tuple (r.map PyData.int)
def chD (a b : List Int) : PyData := .tuple [rowD a, rowD b]
def GtOk (n : Nat) (g : Gt) : Prop := g.1.length = 2 ^ g.2.length ∧ 1 ≤ g.2.length ∧ g.2.length ≤ 3 ∧ ∀ i ∈ g.2, i < n
def NetOk (n : Nat) (gs : List Gt) : Prop := ∀ k g, gs[k]? = some g → GtOk (n + k) g
def Row01 (r : List Int) : Prop := ∀ x ∈ r, x = 0 ∨ x = 1
mutual
theorem Tk.gr {H H' : Hp} (s : Gr H H') : ∀ {v : V} {d : PyData}, Tk H v d → Tk H' v d
  | _, _, .bl b => .bl b
  | _, _, .int i => .int i
  | _, _, .str x => .str x
  | _, _, .lst h t => .lst (s.lst h) (t.gr s)
  | _, _, .tup h t => .tup (s.tup h) (t.gr s)
theorem TkAll.gr {H H' : Hp} (s : Gr H H') : ∀ {vs : List V} {ds : List PyData}, TkAll H vs ds → TkAll H' vs ds
  | _, _, .nil => .nil
  | _, _, .cons h t => .cons (h.gr s) (t.gr s)
end
theorem Tk.row_inv {H : Hp} {v : V} {r : List Int} (h : Tk H v (rowD r)) : ∃ a, v = .ref a ∧ H a = some (.tup (r.map V.int)) := by
  obtain ⟨a, xs, rfl, ha, t⟩ := h.tup_inv
  rw [t.int_inv] at ha
  exact ⟨a, rfl, ha⟩
theorem Tk.ch_inv {H : Hp} {v : V} {a b : List Int} (h : Tk H v (chD a b)) : ∃ c ra rb, v = .ref c ∧ H c = some (.tup [.ref ra, .ref rb]) ∧ H ra = some (.tup (a.map V.int)) ∧ H rb = some (.tup (b.map V.int)) := by
  obtain ⟨c, xs, rfl, hc, t⟩ := h.tup_inv
  cases t with
  | cons h1 t => cases t with
    | cons h2 t =>
      cases t
      obtain ⟨ra, rfl, ha⟩ := h1.row_inv
      obtain ⟨rb, rfl, hb⟩ := h2.row_inv
      exact ⟨c, ra, rb, rfl, hc, ha, hb⟩
theorem Tk.net_inv {H : Hp} {v : V} {m : Int} {gs : List Gt} (h : Tk H v (netD m gs)) : ∃ n g xs, v = .ref n ∧ H n = some (.tup [.int m, .ref g]) ∧ H g = some (.tup xs) ∧ TkAll H xs (gs.map gD) := by
  obtain ⟨n, xs, rfl, hn, t⟩ := h.tup_inv
  cases t with
  | cons h1 t => cases t with
    | cons h2 t =>
      cases t
      cases h1
      obtain ⟨g, ys, rfl, hg, t2⟩ := h2.tup_inv
      exact ⟨n, g, ys, rfl, hn, hg, t2⟩
theorem Tk.gt_inv {H : Hp} {v : V} {g : Gt} (h : Tk H v (gD g)) : ∃ a i, v = .ref a ∧ H a = some (.tup [.str (tabOf g.1), .ref i]) ∧ H i = some (.tup ((g.2.map Int.ofNat).map V.int)) := by
  obtain ⟨a, xs, rfl, ha, t⟩ := h.tup_inv
  cases t with
  | cons h1 t => cases t with
    | cons h2 t =>
      cases t
      cases h1
      obtain ⟨i, rfl, hi⟩ := (show Tk H _ (rowD (g.2.map Int.ofNat)) from h2).row_inv
      exact ⟨a, i, rfl, ha, hi⟩
theorem TkAll.at {H : Hp} {α : Type} {f : α → PyData} {xs : List V} {ds : List α} (t : TkAll H xs (ds.map f)) {j : Nat} {v : V} (h : xs[j]? = some v) : ∃ x, ds[j]? = some x ∧ Tk H v (f x) := by
  obtain ⟨dx, hdx, tx⟩ := t.get h
  rw [List.getElem?_map] at hdx
  cases hz : ds[j]? with
  | none => rw [hz] at hdx; cases hdx
  | some x =>
    rw [hz] at hdx
    cases Option.some.inj hdx
    exact ⟨x, rfl, tx⟩
theorem TkAll.at' {H : Hp} {α : Type} {f : α → PyData} {xs : List V} {ds : List α} (t : TkAll H xs (ds.map f)) {j : Nat} {x : α} (h : ds[j]? = some x) : ∃ v, xs[j]? = some v ∧ Tk H v (f x) := by
  have hl := t.length
  rw [List.length_map] at hl
  have hj := (List.getElem?_eq_some_iff.mp h).1
  obtain ⟨y, hy, ty⟩ := t.at (List.getElem?_eq_getElem (l := xs) (i := j) (by omega))
  cases Option.some.inj (h.symm.trans hy)
  exact ⟨_, List.getElem?_eq_getElem _, ty⟩
theorem grow_upd {H H' : Hp} {p : Addr} {o : HO} (g : Gr H H') (n : H' p = none) : Gr H (upd H' p o) := g.trans (Gr.none n)
/-- no table, no older list: only the list at D is written -/
def GrD (D : Addr) (H H' : Hp) : Prop := Gr H (hd1 D H')
theorem GrD.gr {D : Addr} {H H' : Hp} (g : GrD D H H') : Gr H H' := g.trans (Gr.of hd1_le)
theorem TabG_hd1 {D P : Addr} {H : Hp} (h : GxR.TabG H P) (n : D ≠ P) : GxR.TabG (hd1 D H) P := by
  obtain ⟨ps, e, t⟩ := h
  exact ⟨ps, by rw [hd1_at (Ne.symm n)]; exact e, t⟩
theorem GrD.new {D : Addr} {H : Hp} {o : HO} (n : H D = none) : GrD D H (upd H D o) := Gr.of (hd1_of (same_upd n) n)
theorem hd1_gr {D : Addr} {H H' : Hp} (g : Gr H H') (hD : ∀ P, GxR.TabG H P → D ≠ P) : Gr (hd1 D H) (hd1 D H') := by
  refine ⟨fun b o n e => ?_, fun b t => ?_⟩
  · have hb : b ≠ D := fun z => by
      unfold hd1 at e
      rw [if_pos z] at e; cases e
    rw [hd1_at hb] at e ⊢
    exact g.1 b o n e
  · obtain ⟨ps, e, t⟩ := t
    have e' := hd1_le _ _ e
    exact TabG_hd1 (g.2 b ⟨ps, e', t⟩) (hD b ⟨ps, e', t⟩)
theorem GrD.then {D : Addr} {H H1 H2 : Hp} {xs : List V} (a : GrD D H H1) (hD : H1 D = some (.lst xs)) (b : Gr H1 H2) : GrD D H H2 := a.trans (hd1_gr b fun P ⟨ps, e, _⟩ z => by
  rw [← z, hD] at e
  cases e)
theorem GrD.set {D : Addr} {H H1 : Hp} {o : HO} (a : GrD D H H1) : GrD D H (upd H1 D o) := a.trans (Gr.of hd1_upd)

end Gk

set_option Elab.async false
set_option linter.all false
set_option maxRecDepth 100000
set_option maxHeartbeats 1000000
namespace Gk
open PySem PySem.Spec PyProof.Rows L2
/-! ### zip of two or three texts, tuples, lists -/
namespace ZpG
open PySem PySem.Spec PyProof.Rows L2
inductive ZS where
  | tx (x : PySem.Str)
  | tu (a : Addr)
  | li (a : Addr)
def ZS.val : ZS → V
  | .tx x => .str x
  | .tu a => .ref a
  | .li a => .ref a
def ZS.at (K : PySem.W.Frag) : ZS → Hp → List V → Prop
  | .tx x, _, xs => xs = x.cps.toList.map fun c => V.str ⟨#[c]⟩
  | .tu a, H, xs => SqT K H a xs
  | .li a, H, xs => SqL K H a xs
def ZS.it : ZS → Addr → Nat → Heap → Prop
  | .tx x, it, i, h => ∃ t, h.IsStrIter it (strIterType x) x t i
  | .tu a, it, i, h => h.IsTupleIter it a i
  | .li a, it, i, h => h.IsListIter it a i
def ZS.lt : ZS → Nat → Prop
  | .tx _, _ => True
  | .tu a, n => a < n
  | .li a, n => a < n
def ZS.off : ZS → Addr → Prop
  | .tx _, _ => True
  | .tu a, c => a ≠ c
  | .li a, c => a ≠ c
theorem ne' {a b : Nat} (h : a ≠ b) : @Ne Addr a b := h
theorem ZS.off_of {n c : Nat} (hc : n ≤ c) : ∀ {z : ZS}, z.lt n → z.off c
  | .tx _, _ => trivial
  | .tu _, h => Nat.ne_of_lt (Nat.lt_of_lt_of_le h hc)
  | .li _, h => Nat.ne_of_lt (Nat.lt_of_lt_of_le h hc)
theorem ZS.obj {it : Addr} {i : Nat} {h : Heap} : ∀ {z : ZS}, z.it it i h → ∃ o, h.get? it = some o ∧ ∀ v, o.data ≠ .cell v
  | .tx _, ⟨_, o, e, _, d⟩ => ⟨o, e, fun v q => by rw [d] at q; cases q⟩
  | .tu _, ⟨o, e, _, d⟩ => ⟨o, e, fun v q => by rw [d] at q; cases q⟩
  | .li _, ⟨o, e, _, d⟩ => ⟨o, e, fun v q => by rw [d] at q; cases q⟩
theorem ZS.move {it : Addr} {i : Nat} {h h' : Heap} (k : ∀ o, h.get? it = some o → h'.get? it = some o) : ∀ {z : ZS}, z.it it i h → z.it it i h'
  | .tx _, ⟨t, o, e, r⟩ => ⟨t, o, k o e, r⟩
  | .tu _, ⟨o, e, r⟩ => ⟨o, k o e, r⟩
  | .li _, ⟨o, e, r⟩ => ⟨o, k o e, r⟩
section
variable {X : Cx} {pins : List (Addr × Obj)} {σ : L2.St} {H : Hp} {s : Shared}
theorem ZS.inj (I : Inv X pins σ H s) {z : ZS} {xs ys : List V} (h1 : z.at X.K H xs) (h2 : z.at X.K H ys) : xs = ys := by
  cases z with
  | tx x =>
    have e1 : xs = _ := h1
    have e2 : ys = _ := h2
    rw [e1, e2]
  | tu a => exact I.tuple_inj h1 h2
  | li a => exact I.list_inj h1 h2
theorem ZS.draws {A : Around} {it : Addr} {i : Nat} {xs : List V} (z : ZS) (I : Inv X pins σ H s) (hq : z.at X.K H xs) (hh : A.handled = none) (off : z.off it) (st : z.it it i s.heap) :
    ∃ (fp : List Addr) (P : Nat → Value → Prop) (St : Nat → Heap → Prop), Draws X.prog X.w A it fp xs.length P St ∧ it ∈ fp ∧ (∀ c, c ∈ fp → c = it ∨ ¬ z.off c) ∧ St i s.heap ∧ (∀ j h, St j h → z.it it j h) ∧ ∀ j v, P j v → ∃ x, xs[j]? = some x ∧ RelV x v := by
  cases z with
  | tx x =>
    obtain ⟨t, st⟩ := st
    have e : xs = x.cps.toList.map fun c => V.str ⟨#[c]⟩ := hq
    have el : xs.length = x.cps.size := by rw [e, List.length_map, Array.length_toList]
    refine ⟨[it], fun i v => ∃ c u, x.cps[i]? = some c ∧ v = .str ⟨#[c]⟩ u, fun i h => h.IsStrIter it (strIterType x) x t i, ?_, List.mem_cons_self, fun c hc => .inl (List.mem_singleton.mp hc), st, fun j h q => ⟨t, q⟩, fun j v p => ?_⟩
    · rw [el]
      exact Draws.text hh it x t
    · obtain ⟨c, u, hc, rfl⟩ := p
      refine ⟨.str ⟨#[c]⟩, ?_, ⟨u, rfl⟩⟩
      rw [e, List.getElem?_map, Array.getElem?_toList, hc]
      rfl
  | tu a =>
    obtain ⟨its, rv, p, _⟩ := I.tuple hq
    have hl := rv.length
    refine ⟨[it, a], fun i v => its.toArray[i]? = some v, fun i h => h.IsTupleIter it a i ∧ h.IsTuple a its.toArray, ?_, List.mem_cons_self, fun c hc => ?_, ⟨st, p⟩, fun j h q => q.1, fun j v q => ?_⟩
    · rw [hl, ← List.size_toArray]
      exact Draws.tuple hh it a off its.toArray
    · rcases List.mem_cons.mp hc with e | e
      · exact .inl e
      · refine .inr fun q => ?_
        rw [List.mem_singleton.mp e] at q
        exact q rfl
    · have q : its[j]? = some v := by simpa using q
      have hj := (List.getElem?_eq_some_iff.mp q).1
      have hx : xs[j]? = some (xs[j]'(by omega)) := List.getElem?_eq_getElem _
      obtain ⟨u, hu, ru⟩ := rv.get hx
      rw [q] at hu
      cases Option.some.inj hu
      exact ⟨_, hx, ru⟩
  | li a =>
    obtain ⟨its, rv, p, _⟩ := I.list hq
    have hl := rv.length
    refine ⟨[it, a], fun i v => its.toArray[i]? = some v, fun i h => h.IsListIter it a i ∧ h.IsList a its.toArray, ?_, List.mem_cons_self, fun c hc => ?_, ⟨st, p.isList⟩, fun j h q => q.1, fun j v q => ?_⟩
    · rw [hl, ← List.size_toArray]
      exact Draws.list hh it a off its.toArray
    · rcases List.mem_cons.mp hc with e | e
      · exact .inl e
      · refine .inr fun q => ?_
        rw [List.mem_singleton.mp e] at q
        exact q rfl
    · have q : its[j]? = some v := by simpa using q
      have hj := (List.getElem?_eq_some_iff.mp q).1
      have hx : xs[j]? = some (xs[j]'(by omega)) := List.getElem?_eq_getElem _
      obtain ⟨u, hu, ru⟩ := rv.get hx
      rw [q] at hu
      cases Option.some.inj hu
      exact ⟨_, hx, ru⟩
theorem ZS.begins {v : Value} {xs : List V} (z : ZS) (I : Inv X pins σ H s) (hq : z.at X.K H xs) (r : RelV z.val v) : ∃ o Hh, Begins v o Hh ∧ Hh s.heap ∧ (∀ it h, h.get? it = some o → z.it it 0 h) ∧ z.lt s.heap.objs.size := by
  cases z with
  | tx x =>
    obtain ⟨t, rfl⟩ := (show ∃ t, v = Value.str x t from r)
    exact ⟨_, _, begins_text x t, trivial, fun it h e => ⟨t, _, e, rfl, rfl⟩, trivial⟩
  | tu a =>
    cases (show v = Value.ref a from r)
    obtain ⟨its, rv, p, _⟩ := I.tuple hq
    obtain ⟨o1, ho1, _⟩ := id p
    exact ⟨_, _, begins_tuple a its.toArray, p, fun it h e => ⟨_, e, rfl, rfl⟩, Heap.lt_size ho1⟩
  | li a =>
    cases (show v = Value.ref a from r)
    obtain ⟨its, rv, p, _⟩ := I.list hq
    exact ⟨_, _, begins_list a its.toArray, p.isList, fun it h e => ⟨_, e, rfl, rfl⟩, p.lt⟩
end
def Itz2 (K : PySem.W.Frag) (z1 z2 : ZS) : It :=
  ⟨fun i H => ∃ (xs1 xs2 : List V) (x1 x2 : V), z1.at K H xs1 ∧ z2.at K H xs2 ∧ xs1[i]? = some x1 ∧ xs2[i]? = some x2,
    fun i H v H' => ∃ T x1 x2, v = .ref T ∧ H T = none ∧ H' = upd H T (.tup [x1, x2]) ∧ (∀ xs, z1.at K H xs → xs[i]? = some x1) ∧ (∀ xs, z2.at K H xs → xs[i]? = some x2),
    fun i H => ∃ xs1 xs2 : List V, z1.at K H xs1 ∧ z2.at K H xs2 ∧ i ≤ xs1.length ∧ i ≤ xs2.length ∧ (i = xs1.length ∨ i = xs2.length)⟩
theorem turn_zip2 {P : Program} {w : World} {K : PySem.W.Frag} {elts : List Expr} {kk : Nat} {tpos : Pos} {z1 z2 : ZS} {n : Nat} (l1 : z1.lt n) (l2 : z2.lt n) :
    Turn P w K (.Tuple elts kk tpos) (Itz2 K z1 z2) [n + 4, n + 2, n + 3, n, n + 1] (n + 4) (fun i h => IsZip h (n + 4) (n + 2) (n + 3) .none ∧ IsTupOf2 h (n + 2) (.ref (n)) (.ref (n + 1)) ∧ (∃ x1 x2, IsTupOf2 h (n + 3) x1 x2) ∧ z1.it (n) i h ∧ z2.it (n + 1) i h) where
  mem := List.mem_cons_self
  obj := fun i h st c hc => by
    obtain ⟨hz, hTI, ⟨x1, x2, hTO⟩, st1, st2⟩ := st
    have e' : c = n + 4 ∨ c = n + 2 ∨ c = n + 3 ∨ c = n ∨ c = n + 1 := by simpa using hc
    rcases e' with q | q | q | q | q
    · rw [q]; exact ⟨_, hz, fun v q => nomatch q⟩
    · rw [q]; exact ⟨_, hTI, fun v q => nomatch q⟩
    · rw [q]; exact ⟨_, hTO, fun v q => nomatch q⟩
    · rw [q]; exact ZS.obj (z := z1) st1
    · rw [q]; exact ZS.obj (z := z2) st2
  keep := fun i h h' st k => by
    obtain ⟨hz, hTI, ⟨x1, x2, hTO⟩, st1, st2⟩ := st
    exact ⟨k _ (by simp) _ hz, k _ (by simp) _ hTI, ⟨x1, x2, k _ (by simp) _ hTO⟩, ZS.move (z := z1) (fun o q => k _ (by simp) o q) st1, ZS.move (z := z2) (fun o q => k _ (by simp) o q) st2⟩
  item := by
    intro X hP hw hK hc i pins s σ H E I hf st hg
    subst hP hw hK
    obtain ⟨hz, hTI, ⟨y1, y2, hTO⟩, st1, st2⟩ := st
    obtain ⟨xs1, xs2, x1, x2, q1, q2, h1, h2⟩ := hg
    have hh : X.A.in1.handled = none := I.ok.hd hc
    obtain ⟨fp1, P1, St1, D1, m1, f1, s1, b1, p1⟩ := z1.draws (A := X.A.in1) I q1 hh (ZS.off_of (by omega) l1) st1
    have nf1 : ∀ c, n ≤ c → c ≠ n → c ∉ fp1 := fun c h1 h2 h3 => by
      rcases f1 c h3 with e | e
      · exact h2 e
      · exact e (ZS.off_of h1 l1)
    obtain ⟨fp2, P2, St2, D2, m2, f2, s2, b2, p2⟩ := z2.draws (A := X.A.in1) I q2 hh (ZS.off_of (by omega) l2) st2
    have nf2 : ∀ c, n ≤ c → c ≠ n + 1 → c ∉ fp2 := fun c h1 h2 h3 => by
      rcases f2 c h3 with e | e
      · exact h2 e
      · exact e (ZS.off_of h1 l2)
    have t1 : i < xs1.length := (List.getElem?_eq_some_iff.mp h1).1
    have t2 : i < xs2.length := (List.getElem?_eq_some_iff.mp h2).1
    have hzl : n + 4 < s.heap.objs.size := Heap.lt_size hz
    have S : ZipSep2 (n + 4) (n + 2) (n + 3) (n) (n + 1) fp1 fp2 := { TIz := (ne' (a := n + 2) (b := n + 4) (by omega)), TOz := (ne' (a := n + 3) (b := n + 4) (by omega)), TITO := (ne' (a := n + 2) (b := n + 3) (by omega)), TIi1 := (ne' (a := n + 2) (b := n) (by omega)), mem1 := m1, zf1 := nf1 (n + 4) (by omega) (ne' (a := n + 4) (b := n) (by omega)), Tf1 := nf1 (n + 3) (by omega) (ne' (a := n + 3) (b := n) (by omega)), TIi2 := (ne' (a := n + 2) (b := n + 1) (by omega)), mem2 := m2, zf2 := nf2 (n + 4) (by omega) (ne' (a := n + 4) (b := n + 1) (by omega)), Tf2 := nf2 (n + 3) (by omega) (ne' (a := n + 3) (b := n + 1) (by omega)), sep1_2 := nf2 (n) (by omega) (ne' (a := n) (b := n + 1) (by omega)), sep2_1 := nf1 (n + 1) (by omega) (ne' (a := n + 1) (b := n) (by omega)) }
    refine wpAny_pyNext_zipD2_item S D1 D2 hz hTI hTO s1 s2 t1 t2 fun u1 u2 h' tk g1 g2 z' TO' w1 w2 hT hsz hk => ?_
    refine ⟨_, rfl, wpAny_letOwnedTupleGo_zip (s := { s with heap := h', toks := tk }) z' fun h'' z'' sb => ?_⟩
    obtain ⟨x1', e1, ru1⟩ := p1 i u1 g1
    rw [h1] at e1
    cases Option.some.inj e1
    obtain ⟨x2', e2, ru2⟩ := p2 i u2 g2
    rw [h2] at e2
    cases Option.some.inj e2
    have hT2 : h''.get? s.heap.objs.size = some { cls := .type "tuple", data := .seq #[u1, u2] } := (sb.2 _ (Nat.ne_of_gt hzl)).trans hT
    have new : ObjOk X.prog X.w (upd H s.heap.objs.size (.tup [x1, x2])) h'' s.heap.objs.size (.tup [x1, x2]) :=
      ⟨by show 2 ≤ sizeLine; decide, [u1, u2], .cons ru1 (.cons ru2 (.nil)), ⟨_, hT2, rfl, _, rfl⟩⟩
    have out5 : ∀ c, c ∉ [n + 4, n + 2, n + 3, n, n + 1] → c ≠ n + 4 ∧ c ≠ n + 3 ∧ c ≠ n ∧ c ≠ n + 1 := fun c hb => ⟨fun q' => hb (by simp [q']), fun q' => hb (by simp [q']), fun q' => hb (by simp [q']), fun q' => hb (by simp [q'])⟩
    have I1 : Inv X pins σ (upd H s.heap.objs.size (.tup [x1, x2])) { s with heap := h'', toks := tk } :=
      I.turnedNew (t' := tk) (ch := [n + 4, n + 2, n + 3, n, n + 1]) (fun c o hb q => by
        obtain ⟨a1, a2, b1', b2'⟩ := out5 c hb
        exact (sb.2 c a1).trans (hk c o a1 a2 b1' b2' q)) hf (Nat.le_refl _) new
    refine ⟨.ref s.heap.objs.size, _, I1, rfl, ⟨_, x1, x2, rfl, I.hok.fresh (Nat.le_refl _), rfl, fun l hl => by rw [ZS.inj I hl q1]; exact h1, fun l hl => by rw [ZS.inj I hl q2]; exact h2⟩, ⟨z'', ?_, ⟨u1, u2, ?_⟩, ?_, ?_⟩, fun c hcm => ?_⟩
    · exact (sb.2 (n + 2) (ne' (a := n + 2) (b := n + 4) (by omega))).trans (hk (n + 2) _ (ne' (a := n + 2) (b := n + 4) (by omega)) (ne' (a := n + 2) (b := n + 3) (by omega)) (ne' (a := n + 2) (b := n) (by omega)) (ne' (a := n + 2) (b := n + 1) (by omega)) hTI)
    · exact (sb.2 (n + 3) (ne' (a := n + 3) (b := n + 4) (by omega))).trans TO'
    · exact ZS.move (z := z1) (fun o q => (sb.2 (n) (ne' (a := n) (b := n + 4) (by omega))).trans q) (b1 _ _ w1)
    · exact ZS.move (z := z2) (fun o q => (sb.2 (n + 1) (ne' (a := n + 1) (b := n + 4) (by omega))).trans q) (b2 _ _ w2)
    · have hlt : c < s.heap.objs.size := by
        have e' : c = n + 4 ∨ c = n + 2 ∨ c = n + 3 ∨ c = n ∨ c = n + 1 := by simpa using hcm
        rcases e' with q | q | q | q | q
        · rw [q]; exact (show (n + 4 : Nat) < s.heap.objs.size by omega)
        · rw [q]; exact (show (n + 2 : Nat) < s.heap.objs.size by omega)
        · rw [q]; exact (show (n + 3 : Nat) < s.heap.objs.size by omega)
        · rw [q]; exact (show (n : Nat) < s.heap.objs.size by omega)
        · rw [q]; exact (show (n + 1 : Nat) < s.heap.objs.size by omega)
      rw [upd_ne (Nat.ne_of_lt hlt)]
      exact (hf c hcm).1
  done := by
    intro X hP hw hK hc i pins s σ H E I hf st hg
    subst hP hw hK
    obtain ⟨hz, hTI, ⟨y1, y2, hTO⟩, st1, st2⟩ := st
    obtain ⟨xs1, xs2, q1, q2, t1, t2, hend⟩ := hg
    have hh : X.A.in1.handled = none := I.ok.hd hc
    obtain ⟨fp1, P1, St1, D1, m1, f1, s1, b1, p1⟩ := z1.draws (A := X.A.in1) I q1 hh (ZS.off_of (by omega) l1) st1
    have nf1 : ∀ c, n ≤ c → c ≠ n → c ∉ fp1 := fun c h1 h2 h3 => by
      rcases f1 c h3 with e | e
      · exact h2 e
      · exact e (ZS.off_of h1 l1)
    obtain ⟨fp2, P2, St2, D2, m2, f2, s2, b2, p2⟩ := z2.draws (A := X.A.in1) I q2 hh (ZS.off_of (by omega) l2) st2
    have nf2 : ∀ c, n ≤ c → c ≠ n + 1 → c ∉ fp2 := fun c h1 h2 h3 => by
      rcases f2 c h3 with e | e
      · exact h2 e
      · exact e (ZS.off_of h1 l2)
    have S : ZipSep2 (n + 4) (n + 2) (n + 3) (n) (n + 1) fp1 fp2 := { TIz := (ne' (a := n + 2) (b := n + 4) (by omega)), TOz := (ne' (a := n + 3) (b := n + 4) (by omega)), TITO := (ne' (a := n + 2) (b := n + 3) (by omega)), TIi1 := (ne' (a := n + 2) (b := n) (by omega)), mem1 := m1, zf1 := nf1 (n + 4) (by omega) (ne' (a := n + 4) (b := n) (by omega)), Tf1 := nf1 (n + 3) (by omega) (ne' (a := n + 3) (b := n) (by omega)), TIi2 := (ne' (a := n + 2) (b := n + 1) (by omega)), mem2 := m2, zf2 := nf2 (n + 4) (by omega) (ne' (a := n + 4) (b := n + 1) (by omega)), Tf2 := nf2 (n + 3) (by omega) (ne' (a := n + 3) (b := n + 1) (by omega)), sep1_2 := nf2 (n) (by omega) (ne' (a := n) (b := n + 1) (by omega)), sep2_1 := nf1 (n + 1) (by omega) (ne' (a := n + 1) (b := n) (by omega)) }
    exact wpAny_pyNext_zipD2_end S D1 D2 hz hTI hTO s1 s2 t1 t2 hend fun h' tk hk => ⟨rfl, I.turnedL (t' := tk) (ch := [n + 4, n + 2, n + 3, n, n + 1]) (fun c o hb q =>
      hk c o (fun q' => hb (by simp [q'])) (fun q' => hb (by simp [q'])) (fun q' => hb (by simp [q'])) (fun q' => hb (by simp [q'])) q) hf⟩
  self := fun A i s Q E st h => wpAny_pyIter_zip st.1 h
def iZip2 (K : PySem.W.Frag) (ta : TA) : TI := fun σ H R => ta σ H fun vs H1 => ∃ (z1 z2 : ZS) (xs1 xs2 : List V), vs = [z1.val, z2.val] ∧ z1.at K H1 xs1 ∧ z2.at K H1 xs2 ∧ R (Itz2 K z1 z2) H1
theorem pi_zip2 {X : Cx} {e e2 : Expr} {ta : TA} {p pos tpos : Pos} {elts : List Expr} {kk : Nat} (hg : Gl X "zip") (hm : X.mg "zip" = none) (ha : PA X [e, e2] ta)
    (hs : starEach [e, e2] X.env = (false, eval e X.env) :: starEach [e2] X.env := by rfl) (hpl : (backTo pos (starEach [e2] X.env)).any (·.1) = false := by rfl) :
    PI X (.Tuple elts kk tpos) (.Call (.Name "zip" p) [e, e2] [] pos) (iZip2 X.K ta) := by
  refine ⟨fun pins s σ H R I h => ?_⟩
  refine Call_ (ld_blt I hg hm PyProof.Rows.boot_zip (PyProof.Rows.callWith_type1 (thn (ha.run pos pins s σ H _ I h) fun us s1 ⟨vs, H1, I1, r1, q1⟩ => ?_) hs hpl))
  obtain ⟨z1, z2, xs1, xs2, ex, q1, q2, q⟩ := q1
  subst ex
  cases r1 with
  | cons r1 rr =>
    cases rr with
    | cons r2 rr =>
      cases rr
      obtain ⟨o1, G1, B1, h1, i1, l1⟩ := z1.begins I1 q1 r1
      obtain ⟨o2, G2, B2, h2, i2, l2⟩ := z2.begins I1 q2 r2
      have fresh5 : ∀ c, c ∈ [s1.heap.objs.size + 4, s1.heap.objs.size + 2, s1.heap.objs.size + 3, s1.heap.objs.size, s1.heap.objs.size + 1] → FpOk X pins H1 c := fun c hcm => by
        have e' : c = s1.heap.objs.size + 4 ∨ c = s1.heap.objs.size + 2 ∨ c = s1.heap.objs.size + 3 ∨ c = s1.heap.objs.size ∨ c = s1.heap.objs.size + 1 := by simpa using hcm
        have hle : s1.heap.objs.size ≤ c := by omega
        exact I1.fpOk hle (I1.hok.fresh hle)
      refine zip_begins2 B1 B2 h1 h2 fun h' hz hTI hTO g1 g2 hsz hk => wpAny_pyIter_zip hz ?_
      have I2 : Inv X pins σ H1 { s1 with heap := h' } := I1.kept (t' := s1.toks) hk
      exact ⟨s1.heap.objs.size + 4, [s1.heap.objs.size + 4, s1.heap.objs.size + 2, s1.heap.objs.size + 3, s1.heap.objs.size, s1.heap.objs.size + 1], _, _, H1, rfl, I2, turn_zip2 l1 l2, ⟨hz, hTI, ⟨_, _, hTO⟩, i1 _ _ g1, i2 _ _ g2⟩, fresh5, q⟩
theorem for_zip2 {K : PySem.W.Frag} {z1 z2 : ZS} {xs1 xs2 : List V} {n : Nat} {g : TG} {tb : TS} {D : Ends} {σ : L2.St} {H : Hp} (n1 : xs1.length = n) (n2 : xs2.length = n) (Pv : Nat → L2.St → Hp → Prop) (h0 : Pv 0 σ H) (hl : ∀ i σ H, i ≤ n → Pv i σ H → z1.at K H xs1 ∧ z2.at K H xs2)
    (hs : ∀ (i : Nat) (x1 x2 : V) (T : Addr) (σ : L2.St) (H : Hp), xs1[i]? = some x1 → xs2[i]? = some x2 → H T = none → Pv i σ H → g (.ref T) σ (upd H T (.tup [x1, x2])) fun σ2 H2 => tb { D with nx := Pv (i + 1), ct := Pv (i + 1), bk := D.nx } σ2 H2) (hd : ∀ σ H, Pv n σ H → D.nx σ H) :
    ∃ W : Nat → Nat → L2.St → Hp → Prop, (∃ m, W 0 m σ H) ∧ ∀ i m σ H, W i m σ H →
      ((Itz2 K z1 z2).stop i H ∧ D.nx σ H) ∨ ((Itz2 K z1 z2).go i H ∧ ∃ N : L2.St → Hp → Prop, (∀ σ' H', N σ' H' → ∃ m', m' < m ∧ W (i + 1) m' σ' H') ∧ ∀ v H', (Itz2 K z1 z2).yld i H v H' → g v σ H' fun σ2 H2 => tb { D with nx := N, ct := N, bk := D.nx } σ2 H2) := by
  refine ⟨fun i m σ H => m = n - i ∧ i ≤ n ∧ Pv i σ H, ⟨n, rfl, Nat.zero_le _, h0⟩, ?_⟩
  rintro i m σ H ⟨rfl, hi, p⟩
  obtain ⟨q1, q2⟩ := hl i σ H hi p
  by_cases hlt : i < n
  · have e1 : xs1[i]? = some (xs1[i]'(by omega)) := List.getElem?_eq_getElem _
    have e2 : xs2[i]? = some (xs2[i]'(by omega)) := List.getElem?_eq_getElem _
    refine .inr ⟨⟨xs1, xs2, _, _, q1, q2, e1, e2⟩, Pv (i + 1), fun σ' H' p' => ⟨n - (i + 1), by omega, rfl, hlt, p'⟩, fun v H' y => ?_⟩
    obtain ⟨T, y1, y2, rfl, hT, rfl, f1, f2⟩ := y
    exact hs i y1 y2 T σ H (f1 xs1 q1) (f2 xs2 q2) hT p
  · have e : i = n := by omega
    subst e
    exact .inl ⟨⟨xs1, xs2, q1, q2, by omega, by omega, .inl (by omega)⟩, hd σ H p⟩
theorem lc_zip2 {K : PySem.W.Frag} {z1 z2 : ZS} {xs1 xs2 : List V} {n : Nat} {g : TG} {tt : TT} {te : TE} {vs : List Nat} {σ : L2.St} {H1 : Hp} {D : Addr} {Qd : Hp → Prop} (n1 : xs1.length = n) (n2 : xs2.length = n) (Pv : Nat → Hp → Prop) (h0 : Pv 0 (upd H1 D (.lst []))) (hl : ∀ i H, i ≤ n → Pv i H → z1.at K H xs1 ∧ z2.at K H xs2)
    (hs : ∀ (i : Nat) (x1 x2 : V) (T : Addr) (H : Hp), xs1[i]? = some x1 → xs2[i]? = some x2 → H T = none → Pv i H → g (.ref T) (wipe σ vs) (upd H T (.tup [x1, x2])) fun σ2 H2 => wipe σ2 vs = wipe σ vs ∧ tt σ2 H2 fun b H3 =>
      if b = true then te σ2 H3 fun y H4 => ∃ acc, H4 D = some (.lst acc) ∧ acc.length < sizeLine ∧ Pv (i + 1) (upd H4 D (.lst (acc ++ [y]))) else Pv (i + 1) H3) (hd : ∀ H, Pv n H → Qd H) :
    ∃ W : Nat → Nat → Hp → Prop, (∃ m, W 0 m (upd H1 D (.lst []))) ∧ ∀ i m H, W i m H →
      ((Itz2 K z1 z2).stop i H ∧ Qd H) ∨ ((Itz2 K z1 z2).go i H ∧ ∃ Nx : Hp → Prop, (∀ H', Nx H' → ∃ m', m' < m ∧ W (i + 1) m' H') ∧ ∀ x H', (Itz2 K z1 z2).yld i H x H' → g x (wipe σ vs) H' fun σ2 H2 => wipe σ2 vs = wipe σ vs ∧ tt σ2 H2 fun b H3 =>
        if b = true then te σ2 H3 fun y H4 => ∃ acc, H4 D = some (.lst acc) ∧ acc.length < sizeLine ∧ Nx (upd H4 D (.lst (acc ++ [y]))) else Nx H3) := by
  refine ⟨fun i m H => m = n - i ∧ i ≤ n ∧ Pv i H, ⟨n, by simp, Nat.zero_le _, h0⟩, ?_⟩
  rintro i m H ⟨rfl, hi, p⟩
  obtain ⟨q1, q2⟩ := hl i H hi p
  by_cases hlt : i < n
  · have e1 : xs1[i]? = some (xs1[i]'(by omega)) := List.getElem?_eq_getElem _
    have e2 : xs2[i]? = some (xs2[i]'(by omega)) := List.getElem?_eq_getElem _
    refine .inr ⟨⟨xs1, xs2, _, _, q1, q2, e1, e2⟩, Pv (i + 1), fun H' p' => ⟨n - (i + 1), by omega, rfl, hlt, p'⟩, fun v H' y => ?_⟩
    obtain ⟨T, y1, y2, rfl, hT, rfl, f1, f2⟩ := y
    exact hs i y1 y2 T H (f1 xs1 q1) (f2 xs2 q2) hT p
  · have e : i = n := by omega
    subst e
    exact .inl ⟨⟨xs1, xs2, q1, q2, by omega, by omega, .inl (by omega)⟩, hd H p⟩
theorem gx_zip2 {α : Type} {K : PySem.W.Frag} {z1 z2 : ZS} {xs1 xs2 : List V} {n : Nat} {g : TG} {tt : TT} {te : TE} {vs : List Nat} {σ0 : L2.St} {End : α → Hp → Prop} {Yd : α → V → Hp → (α → Hp → Prop) → Prop} {a0 : α} {H0 : Hp} (n1 : xs1.length = n) (n2 : xs2.length = n) (Pv : Nat → α → Hp → Prop) (h0 : Pv 0 a0 H0) (hl : ∀ i c H, i ≤ n → Pv i c H → z1.at K H xs1 ∧ z2.at K H xs2)
    (hs : ∀ (i : Nat) (x1 x2 : V) (T : Addr) (c : α) (H : Hp), xs1[i]? = some x1 → xs2[i]? = some x2 → H T = none → Pv i c H → g (.ref T) σ0 (upd H T (.tup [x1, x2])) fun σ2 H2 => wipe σ2 vs = σ0 ∧ tt σ2 H2 fun b H3 => if b = true then te σ2 H3 fun y H4 => Yd c y H4 (Pv (i + 1)) else Pv (i + 1) c H3) (hd : ∀ c H, Pv n c H → End c H) :
    ∃ W : Nat → Nat → α → Hp → Prop, (∃ m, W 0 m a0 H0) ∧ tGx (Itz2 K z1 z2) g tt te σ0 vs End Yd W := by
  refine ⟨fun i m c H => m = n - i ∧ i ≤ n ∧ Pv i c H, ⟨n, rfl, Nat.zero_le _, h0⟩, ?_⟩
  rintro i m c H ⟨rfl, hi, p⟩
  obtain ⟨q1, q2⟩ := hl i c H hi p
  by_cases hlt : i < n
  · have e1 : xs1[i]? = some (xs1[i]'(by omega)) := List.getElem?_eq_getElem _
    have e2 : xs2[i]? = some (xs2[i]'(by omega)) := List.getElem?_eq_getElem _
    refine .inr ⟨⟨xs1, xs2, _, _, q1, q2, e1, e2⟩, Pv (i + 1), fun c' H' p' => ⟨n - (i + 1), by omega, rfl, hlt, p'⟩, fun v H' y => ?_⟩
    obtain ⟨T, y1, y2, rfl, hT, rfl, f1, f2⟩ := y
    exact hs i y1 y2 T c H (f1 xs1 q1) (f2 xs2 q2) hT p
  · have e : i = n := by omega
    subst e
    exact .inl ⟨⟨xs1, xs2, q1, q2, by omega, by omega, .inl (by omega)⟩, hd c H p⟩
def Itz3 (K : PySem.W.Frag) (z1 z2 z3 : ZS) : It :=
  ⟨fun i H => ∃ (xs1 xs2 xs3 : List V) (x1 x2 x3 : V), z1.at K H xs1 ∧ z2.at K H xs2 ∧ z3.at K H xs3 ∧ xs1[i]? = some x1 ∧ xs2[i]? = some x2 ∧ xs3[i]? = some x3,
    fun i H v H' => ∃ T x1 x2 x3, v = .ref T ∧ H T = none ∧ H' = upd H T (.tup [x1, x2, x3]) ∧ (∀ xs, z1.at K H xs → xs[i]? = some x1) ∧ (∀ xs, z2.at K H xs → xs[i]? = some x2) ∧ (∀ xs, z3.at K H xs → xs[i]? = some x3),
    fun i H => ∃ xs1 xs2 xs3 : List V, z1.at K H xs1 ∧ z2.at K H xs2 ∧ z3.at K H xs3 ∧ i ≤ xs1.length ∧ i ≤ xs2.length ∧ i ≤ xs3.length ∧ (i = xs1.length ∨ i = xs2.length ∨ i = xs3.length)⟩
theorem turn_zip3 {P : Program} {w : World} {K : PySem.W.Frag} {elts : List Expr} {kk : Nat} {tpos : Pos} {z1 z2 z3 : ZS} {n : Nat} (l1 : z1.lt n) (l2 : z2.lt n) (l3 : z3.lt n) :
    Turn P w K (.Tuple elts kk tpos) (Itz3 K z1 z2 z3) [n + 5, n + 3, n + 4, n, n + 1, n + 2] (n + 5) (fun i h => IsZip h (n + 5) (n + 3) (n + 4) .none ∧ IsTupOf3 h (n + 3) (.ref (n)) (.ref (n + 1)) (.ref (n + 2)) ∧ (∃ x1 x2 x3, IsTupOf3 h (n + 4) x1 x2 x3) ∧ z1.it (n) i h ∧ z2.it (n + 1) i h ∧ z3.it (n + 2) i h) where
  mem := List.mem_cons_self
  obj := fun i h st c hc => by
    obtain ⟨hz, hTI, ⟨x1, x2, x3, hTO⟩, st1, st2, st3⟩ := st
    have e' : c = n + 5 ∨ c = n + 3 ∨ c = n + 4 ∨ c = n ∨ c = n + 1 ∨ c = n + 2 := by simpa using hc
    rcases e' with q | q | q | q | q | q
    · rw [q]; exact ⟨_, hz, fun v q => nomatch q⟩
    · rw [q]; exact ⟨_, hTI, fun v q => nomatch q⟩
    · rw [q]; exact ⟨_, hTO, fun v q => nomatch q⟩
    · rw [q]; exact ZS.obj (z := z1) st1
    · rw [q]; exact ZS.obj (z := z2) st2
    · rw [q]; exact ZS.obj (z := z3) st3
  keep := fun i h h' st k => by
    obtain ⟨hz, hTI, ⟨x1, x2, x3, hTO⟩, st1, st2, st3⟩ := st
    exact ⟨k _ (by simp) _ hz, k _ (by simp) _ hTI, ⟨x1, x2, x3, k _ (by simp) _ hTO⟩, ZS.move (z := z1) (fun o q => k _ (by simp) o q) st1, ZS.move (z := z2) (fun o q => k _ (by simp) o q) st2, ZS.move (z := z3) (fun o q => k _ (by simp) o q) st3⟩
  item := by
    intro X hP hw hK hc i pins s σ H E I hf st hg
    subst hP hw hK
    obtain ⟨hz, hTI, ⟨y1, y2, y3, hTO⟩, st1, st2, st3⟩ := st
    obtain ⟨xs1, xs2, xs3, x1, x2, x3, q1, q2, q3, h1, h2, h3⟩ := hg
    have hh : X.A.in1.handled = none := I.ok.hd hc
    obtain ⟨fp1, P1, St1, D1, m1, f1, s1, b1, p1⟩ := z1.draws (A := X.A.in1) I q1 hh (ZS.off_of (by omega) l1) st1
    have nf1 : ∀ c, n ≤ c → c ≠ n → c ∉ fp1 := fun c h1 h2 h3 => by
      rcases f1 c h3 with e | e
      · exact h2 e
      · exact e (ZS.off_of h1 l1)
    obtain ⟨fp2, P2, St2, D2, m2, f2, s2, b2, p2⟩ := z2.draws (A := X.A.in1) I q2 hh (ZS.off_of (by omega) l2) st2
    have nf2 : ∀ c, n ≤ c → c ≠ n + 1 → c ∉ fp2 := fun c h1 h2 h3 => by
      rcases f2 c h3 with e | e
      · exact h2 e
      · exact e (ZS.off_of h1 l2)
    obtain ⟨fp3, P3, St3, D3, m3, f3, s3, b3, p3⟩ := z3.draws (A := X.A.in1) I q3 hh (ZS.off_of (by omega) l3) st3
    have nf3 : ∀ c, n ≤ c → c ≠ n + 2 → c ∉ fp3 := fun c h1 h2 h3 => by
      rcases f3 c h3 with e | e
      · exact h2 e
      · exact e (ZS.off_of h1 l3)
    have t1 : i < xs1.length := (List.getElem?_eq_some_iff.mp h1).1
    have t2 : i < xs2.length := (List.getElem?_eq_some_iff.mp h2).1
    have t3 : i < xs3.length := (List.getElem?_eq_some_iff.mp h3).1
    have hzl : n + 5 < s.heap.objs.size := Heap.lt_size hz
    have S : ZipSep3 (n + 5) (n + 3) (n + 4) (n) (n + 1) (n + 2) fp1 fp2 fp3 := { TIz := (ne' (a := n + 3) (b := n + 5) (by omega)), TOz := (ne' (a := n + 4) (b := n + 5) (by omega)), TITO := (ne' (a := n + 3) (b := n + 4) (by omega)), TIi1 := (ne' (a := n + 3) (b := n) (by omega)), mem1 := m1, zf1 := nf1 (n + 5) (by omega) (ne' (a := n + 5) (b := n) (by omega)), Tf1 := nf1 (n + 4) (by omega) (ne' (a := n + 4) (b := n) (by omega)), TIi2 := (ne' (a := n + 3) (b := n + 1) (by omega)), mem2 := m2, zf2 := nf2 (n + 5) (by omega) (ne' (a := n + 5) (b := n + 1) (by omega)), Tf2 := nf2 (n + 4) (by omega) (ne' (a := n + 4) (b := n + 1) (by omega)), TIi3 := (ne' (a := n + 3) (b := n + 2) (by omega)), mem3 := m3, zf3 := nf3 (n + 5) (by omega) (ne' (a := n + 5) (b := n + 2) (by omega)), Tf3 := nf3 (n + 4) (by omega) (ne' (a := n + 4) (b := n + 2) (by omega)), sep1_2 := nf2 (n) (by omega) (ne' (a := n) (b := n + 1) (by omega)), sep1_3 := nf3 (n) (by omega) (ne' (a := n) (b := n + 2) (by omega)), sep2_1 := nf1 (n + 1) (by omega) (ne' (a := n + 1) (b := n) (by omega)), sep2_3 := nf3 (n + 1) (by omega) (ne' (a := n + 1) (b := n + 2) (by omega)), sep3_1 := nf1 (n + 2) (by omega) (ne' (a := n + 2) (b := n) (by omega)), sep3_2 := nf2 (n + 2) (by omega) (ne' (a := n + 2) (b := n + 1) (by omega)) }
    refine wpAny_pyNext_zipD3_item S D1 D2 D3 hz hTI hTO s1 s2 s3 t1 t2 t3 fun u1 u2 u3 h' tk g1 g2 g3 z' TO' w1 w2 w3 hT hsz hk => ?_
    refine ⟨_, rfl, wpAny_letOwnedTupleGo_zip (s := { s with heap := h', toks := tk }) z' fun h'' z'' sb => ?_⟩
    obtain ⟨x1', e1, ru1⟩ := p1 i u1 g1
    rw [h1] at e1
    cases Option.some.inj e1
    obtain ⟨x2', e2, ru2⟩ := p2 i u2 g2
    rw [h2] at e2
    cases Option.some.inj e2
    obtain ⟨x3', e3, ru3⟩ := p3 i u3 g3
    rw [h3] at e3
    cases Option.some.inj e3
    have hT2 : h''.get? s.heap.objs.size = some { cls := .type "tuple", data := .seq #[u1, u2, u3] } := (sb.2 _ (Nat.ne_of_gt hzl)).trans hT
    have new : ObjOk X.prog X.w (upd H s.heap.objs.size (.tup [x1, x2, x3])) h'' s.heap.objs.size (.tup [x1, x2, x3]) :=
      ⟨by show 3 ≤ sizeLine; decide, [u1, u2, u3], .cons ru1 (.cons ru2 (.cons ru3 (.nil))), ⟨_, hT2, rfl, _, rfl⟩⟩
    have out5 : ∀ c, c ∉ [n + 5, n + 3, n + 4, n, n + 1, n + 2] → c ≠ n + 5 ∧ c ≠ n + 4 ∧ c ≠ n ∧ c ≠ n + 1 ∧ c ≠ n + 2 := fun c hb => ⟨fun q' => hb (by simp [q']), fun q' => hb (by simp [q']), fun q' => hb (by simp [q']), fun q' => hb (by simp [q']), fun q' => hb (by simp [q'])⟩
    have I1 : Inv X pins σ (upd H s.heap.objs.size (.tup [x1, x2, x3])) { s with heap := h'', toks := tk } :=
      I.turnedNew (t' := tk) (ch := [n + 5, n + 3, n + 4, n, n + 1, n + 2]) (fun c o hb q => by
        obtain ⟨a1, a2, b1', b2', b3'⟩ := out5 c hb
        exact (sb.2 c a1).trans (hk c o a1 a2 b1' b2' b3' q)) hf (Nat.le_refl _) new
    refine ⟨.ref s.heap.objs.size, _, I1, rfl, ⟨_, x1, x2, x3, rfl, I.hok.fresh (Nat.le_refl _), rfl, fun l hl => by rw [ZS.inj I hl q1]; exact h1, fun l hl => by rw [ZS.inj I hl q2]; exact h2, fun l hl => by rw [ZS.inj I hl q3]; exact h3⟩, ⟨z'', ?_, ⟨u1, u2, u3, ?_⟩, ?_, ?_, ?_⟩, fun c hcm => ?_⟩
    · exact (sb.2 (n + 3) (ne' (a := n + 3) (b := n + 5) (by omega))).trans (hk (n + 3) _ (ne' (a := n + 3) (b := n + 5) (by omega)) (ne' (a := n + 3) (b := n + 4) (by omega)) (ne' (a := n + 3) (b := n) (by omega)) (ne' (a := n + 3) (b := n + 1) (by omega)) (ne' (a := n + 3) (b := n + 2) (by omega)) hTI)
    · exact (sb.2 (n + 4) (ne' (a := n + 4) (b := n + 5) (by omega))).trans TO'
    · exact ZS.move (z := z1) (fun o q => (sb.2 (n) (ne' (a := n) (b := n + 5) (by omega))).trans q) (b1 _ _ w1)
    · exact ZS.move (z := z2) (fun o q => (sb.2 (n + 1) (ne' (a := n + 1) (b := n + 5) (by omega))).trans q) (b2 _ _ w2)
    · exact ZS.move (z := z3) (fun o q => (sb.2 (n + 2) (ne' (a := n + 2) (b := n + 5) (by omega))).trans q) (b3 _ _ w3)
    · have hlt : c < s.heap.objs.size := by
        have e' : c = n + 5 ∨ c = n + 3 ∨ c = n + 4 ∨ c = n ∨ c = n + 1 ∨ c = n + 2 := by simpa using hcm
        rcases e' with q | q | q | q | q | q
        · rw [q]; exact (show (n + 5 : Nat) < s.heap.objs.size by omega)
        · rw [q]; exact (show (n + 3 : Nat) < s.heap.objs.size by omega)
        · rw [q]; exact (show (n + 4 : Nat) < s.heap.objs.size by omega)
        · rw [q]; exact (show (n : Nat) < s.heap.objs.size by omega)
        · rw [q]; exact (show (n + 1 : Nat) < s.heap.objs.size by omega)
        · rw [q]; exact (show (n + 2 : Nat) < s.heap.objs.size by omega)
      rw [upd_ne (Nat.ne_of_lt hlt)]
      exact (hf c hcm).1
  done := by
    intro X hP hw hK hc i pins s σ H E I hf st hg
    subst hP hw hK
    obtain ⟨hz, hTI, ⟨y1, y2, y3, hTO⟩, st1, st2, st3⟩ := st
    obtain ⟨xs1, xs2, xs3, q1, q2, q3, t1, t2, t3, hend⟩ := hg
    have hh : X.A.in1.handled = none := I.ok.hd hc
    obtain ⟨fp1, P1, St1, D1, m1, f1, s1, b1, p1⟩ := z1.draws (A := X.A.in1) I q1 hh (ZS.off_of (by omega) l1) st1
    have nf1 : ∀ c, n ≤ c → c ≠ n → c ∉ fp1 := fun c h1 h2 h3 => by
      rcases f1 c h3 with e | e
      · exact h2 e
      · exact e (ZS.off_of h1 l1)
    obtain ⟨fp2, P2, St2, D2, m2, f2, s2, b2, p2⟩ := z2.draws (A := X.A.in1) I q2 hh (ZS.off_of (by omega) l2) st2
    have nf2 : ∀ c, n ≤ c → c ≠ n + 1 → c ∉ fp2 := fun c h1 h2 h3 => by
      rcases f2 c h3 with e | e
      · exact h2 e
      · exact e (ZS.off_of h1 l2)
    obtain ⟨fp3, P3, St3, D3, m3, f3, s3, b3, p3⟩ := z3.draws (A := X.A.in1) I q3 hh (ZS.off_of (by omega) l3) st3
    have nf3 : ∀ c, n ≤ c → c ≠ n + 2 → c ∉ fp3 := fun c h1 h2 h3 => by
      rcases f3 c h3 with e | e
      · exact h2 e
      · exact e (ZS.off_of h1 l3)
    have S : ZipSep3 (n + 5) (n + 3) (n + 4) (n) (n + 1) (n + 2) fp1 fp2 fp3 := { TIz := (ne' (a := n + 3) (b := n + 5) (by omega)), TOz := (ne' (a := n + 4) (b := n + 5) (by omega)), TITO := (ne' (a := n + 3) (b := n + 4) (by omega)), TIi1 := (ne' (a := n + 3) (b := n) (by omega)), mem1 := m1, zf1 := nf1 (n + 5) (by omega) (ne' (a := n + 5) (b := n) (by omega)), Tf1 := nf1 (n + 4) (by omega) (ne' (a := n + 4) (b := n) (by omega)), TIi2 := (ne' (a := n + 3) (b := n + 1) (by omega)), mem2 := m2, zf2 := nf2 (n + 5) (by omega) (ne' (a := n + 5) (b := n + 1) (by omega)), Tf2 := nf2 (n + 4) (by omega) (ne' (a := n + 4) (b := n + 1) (by omega)), TIi3 := (ne' (a := n + 3) (b := n + 2) (by omega)), mem3 := m3, zf3 := nf3 (n + 5) (by omega) (ne' (a := n + 5) (b := n + 2) (by omega)), Tf3 := nf3 (n + 4) (by omega) (ne' (a := n + 4) (b := n + 2) (by omega)), sep1_2 := nf2 (n) (by omega) (ne' (a := n) (b := n + 1) (by omega)), sep1_3 := nf3 (n) (by omega) (ne' (a := n) (b := n + 2) (by omega)), sep2_1 := nf1 (n + 1) (by omega) (ne' (a := n + 1) (b := n) (by omega)), sep2_3 := nf3 (n + 1) (by omega) (ne' (a := n + 1) (b := n + 2) (by omega)), sep3_1 := nf1 (n + 2) (by omega) (ne' (a := n + 2) (b := n) (by omega)), sep3_2 := nf2 (n + 2) (by omega) (ne' (a := n + 2) (b := n + 1) (by omega)) }
    exact wpAny_pyNext_zipD3_end S D1 D2 D3 hz hTI hTO s1 s2 s3 t1 t2 t3 hend fun h' tk hk => ⟨rfl, I.turnedL (t' := tk) (ch := [n + 5, n + 3, n + 4, n, n + 1, n + 2]) (fun c o hb q =>
      hk c o (fun q' => hb (by simp [q'])) (fun q' => hb (by simp [q'])) (fun q' => hb (by simp [q'])) (fun q' => hb (by simp [q'])) (fun q' => hb (by simp [q'])) q) hf⟩
  self := fun A i s Q E st h => wpAny_pyIter_zip st.1 h
def iZip3 (K : PySem.W.Frag) (ta : TA) : TI := fun σ H R => ta σ H fun vs H1 => ∃ (z1 z2 z3 : ZS) (xs1 xs2 xs3 : List V), vs = [z1.val, z2.val, z3.val] ∧ z1.at K H1 xs1 ∧ z2.at K H1 xs2 ∧ z3.at K H1 xs3 ∧ R (Itz3 K z1 z2 z3) H1
theorem pi_zip3 {X : Cx} {e e2 e3 : Expr} {ta : TA} {p pos tpos : Pos} {elts : List Expr} {kk : Nat} (hg : Gl X "zip") (hm : X.mg "zip" = none) (ha : PA X [e, e2, e3] ta)
    (hs : starEach [e, e2, e3] X.env = (false, eval e X.env) :: starEach [e2, e3] X.env := by rfl) (hpl : (backTo pos (starEach [e2, e3] X.env)).any (·.1) = false := by rfl) :
    PI X (.Tuple elts kk tpos) (.Call (.Name "zip" p) [e, e2, e3] [] pos) (iZip3 X.K ta) := by
  refine ⟨fun pins s σ H R I h => ?_⟩
  refine Call_ (ld_blt I hg hm PyProof.Rows.boot_zip (PyProof.Rows.callWith_type1 (thn (ha.run pos pins s σ H _ I h) fun us s1 ⟨vs, H1, I1, r1, q1⟩ => ?_) hs hpl))
  obtain ⟨z1, z2, z3, xs1, xs2, xs3, ex, q1, q2, q3, q⟩ := q1
  subst ex
  cases r1 with
  | cons r1 rr =>
    cases rr with
    | cons r2 rr =>
      cases rr with
      | cons r3 rr =>
        cases rr
        obtain ⟨o1, G1, B1, h1, i1, l1⟩ := z1.begins I1 q1 r1
        obtain ⟨o2, G2, B2, h2, i2, l2⟩ := z2.begins I1 q2 r2
        obtain ⟨o3, G3, B3, h3, i3, l3⟩ := z3.begins I1 q3 r3
        have fresh5 : ∀ c, c ∈ [s1.heap.objs.size + 5, s1.heap.objs.size + 3, s1.heap.objs.size + 4, s1.heap.objs.size, s1.heap.objs.size + 1, s1.heap.objs.size + 2] → FpOk X pins H1 c := fun c hcm => by
          have e' : c = s1.heap.objs.size + 5 ∨ c = s1.heap.objs.size + 3 ∨ c = s1.heap.objs.size + 4 ∨ c = s1.heap.objs.size ∨ c = s1.heap.objs.size + 1 ∨ c = s1.heap.objs.size + 2 := by simpa using hcm
          have hle : s1.heap.objs.size ≤ c := by omega
          exact I1.fpOk hle (I1.hok.fresh hle)
        refine zip_begins3 B1 B2 B3 h1 h2 h3 fun h' hz hTI hTO g1 g2 g3 hsz hk => wpAny_pyIter_zip hz ?_
        have I2 : Inv X pins σ H1 { s1 with heap := h' } := I1.kept (t' := s1.toks) hk
        exact ⟨s1.heap.objs.size + 5, [s1.heap.objs.size + 5, s1.heap.objs.size + 3, s1.heap.objs.size + 4, s1.heap.objs.size, s1.heap.objs.size + 1, s1.heap.objs.size + 2], _, _, H1, rfl, I2, turn_zip3 l1 l2 l3, ⟨hz, hTI, ⟨_, _, _, hTO⟩, i1 _ _ g1, i2 _ _ g2, i3 _ _ g3⟩, fresh5, q⟩
theorem for_zip3 {K : PySem.W.Frag} {z1 z2 z3 : ZS} {xs1 xs2 xs3 : List V} {n : Nat} {g : TG} {tb : TS} {D : Ends} {σ : L2.St} {H : Hp} (n1 : xs1.length = n) (n2 : xs2.length = n) (n3 : xs3.length = n) (Pv : Nat → L2.St → Hp → Prop) (h0 : Pv 0 σ H) (hl : ∀ i σ H, i ≤ n → Pv i σ H → z1.at K H xs1 ∧ z2.at K H xs2 ∧ z3.at K H xs3)
    (hs : ∀ (i : Nat) (x1 x2 x3 : V) (T : Addr) (σ : L2.St) (H : Hp), xs1[i]? = some x1 → xs2[i]? = some x2 → xs3[i]? = some x3 → H T = none → Pv i σ H → g (.ref T) σ (upd H T (.tup [x1, x2, x3])) fun σ2 H2 => tb { D with nx := Pv (i + 1), ct := Pv (i + 1), bk := D.nx } σ2 H2) (hd : ∀ σ H, Pv n σ H → D.nx σ H) :
    ∃ W : Nat → Nat → L2.St → Hp → Prop, (∃ m, W 0 m σ H) ∧ ∀ i m σ H, W i m σ H →
      ((Itz3 K z1 z2 z3).stop i H ∧ D.nx σ H) ∨ ((Itz3 K z1 z2 z3).go i H ∧ ∃ N : L2.St → Hp → Prop, (∀ σ' H', N σ' H' → ∃ m', m' < m ∧ W (i + 1) m' σ' H') ∧ ∀ v H', (Itz3 K z1 z2 z3).yld i H v H' → g v σ H' fun σ2 H2 => tb { D with nx := N, ct := N, bk := D.nx } σ2 H2) := by
  refine ⟨fun i m σ H => m = n - i ∧ i ≤ n ∧ Pv i σ H, ⟨n, rfl, Nat.zero_le _, h0⟩, ?_⟩
  rintro i m σ H ⟨rfl, hi, p⟩
  obtain ⟨q1, q2, q3⟩ := hl i σ H hi p
  by_cases hlt : i < n
  · have e1 : xs1[i]? = some (xs1[i]'(by omega)) := List.getElem?_eq_getElem _
    have e2 : xs2[i]? = some (xs2[i]'(by omega)) := List.getElem?_eq_getElem _
    have e3 : xs3[i]? = some (xs3[i]'(by omega)) := List.getElem?_eq_getElem _
    refine .inr ⟨⟨xs1, xs2, xs3, _, _, _, q1, q2, q3, e1, e2, e3⟩, Pv (i + 1), fun σ' H' p' => ⟨n - (i + 1), by omega, rfl, hlt, p'⟩, fun v H' y => ?_⟩
    obtain ⟨T, y1, y2, y3, rfl, hT, rfl, f1, f2, f3⟩ := y
    exact hs i y1 y2 y3 T σ H (f1 xs1 q1) (f2 xs2 q2) (f3 xs3 q3) hT p
  · have e : i = n := by omega
    subst e
    exact .inl ⟨⟨xs1, xs2, xs3, q1, q2, q3, by omega, by omega, by omega, .inl (by omega)⟩, hd σ H p⟩
theorem lc_zip3 {K : PySem.W.Frag} {z1 z2 z3 : ZS} {xs1 xs2 xs3 : List V} {n : Nat} {g : TG} {tt : TT} {te : TE} {vs : List Nat} {σ : L2.St} {H1 : Hp} {D : Addr} {Qd : Hp → Prop} (n1 : xs1.length = n) (n2 : xs2.length = n) (n3 : xs3.length = n) (Pv : Nat → Hp → Prop) (h0 : Pv 0 (upd H1 D (.lst []))) (hl : ∀ i H, i ≤ n → Pv i H → z1.at K H xs1 ∧ z2.at K H xs2 ∧ z3.at K H xs3)
    (hs : ∀ (i : Nat) (x1 x2 x3 : V) (T : Addr) (H : Hp), xs1[i]? = some x1 → xs2[i]? = some x2 → xs3[i]? = some x3 → H T = none → Pv i H → g (.ref T) (wipe σ vs) (upd H T (.tup [x1, x2, x3])) fun σ2 H2 => wipe σ2 vs = wipe σ vs ∧ tt σ2 H2 fun b H3 =>
      if b = true then te σ2 H3 fun y H4 => ∃ acc, H4 D = some (.lst acc) ∧ acc.length < sizeLine ∧ Pv (i + 1) (upd H4 D (.lst (acc ++ [y]))) else Pv (i + 1) H3) (hd : ∀ H, Pv n H → Qd H) :
    ∃ W : Nat → Nat → Hp → Prop, (∃ m, W 0 m (upd H1 D (.lst []))) ∧ ∀ i m H, W i m H →
      ((Itz3 K z1 z2 z3).stop i H ∧ Qd H) ∨ ((Itz3 K z1 z2 z3).go i H ∧ ∃ Nx : Hp → Prop, (∀ H', Nx H' → ∃ m', m' < m ∧ W (i + 1) m' H') ∧ ∀ x H', (Itz3 K z1 z2 z3).yld i H x H' → g x (wipe σ vs) H' fun σ2 H2 => wipe σ2 vs = wipe σ vs ∧ tt σ2 H2 fun b H3 =>
        if b = true then te σ2 H3 fun y H4 => ∃ acc, H4 D = some (.lst acc) ∧ acc.length < sizeLine ∧ Nx (upd H4 D (.lst (acc ++ [y]))) else Nx H3) := by
  refine ⟨fun i m H => m = n - i ∧ i ≤ n ∧ Pv i H, ⟨n, by simp, Nat.zero_le _, h0⟩, ?_⟩
  rintro i m H ⟨rfl, hi, p⟩
  obtain ⟨q1, q2, q3⟩ := hl i H hi p
  by_cases hlt : i < n
  · have e1 : xs1[i]? = some (xs1[i]'(by omega)) := List.getElem?_eq_getElem _
    have e2 : xs2[i]? = some (xs2[i]'(by omega)) := List.getElem?_eq_getElem _
    have e3 : xs3[i]? = some (xs3[i]'(by omega)) := List.getElem?_eq_getElem _
    refine .inr ⟨⟨xs1, xs2, xs3, _, _, _, q1, q2, q3, e1, e2, e3⟩, Pv (i + 1), fun H' p' => ⟨n - (i + 1), by omega, rfl, hlt, p'⟩, fun v H' y => ?_⟩
    obtain ⟨T, y1, y2, y3, rfl, hT, rfl, f1, f2, f3⟩ := y
    exact hs i y1 y2 y3 T H (f1 xs1 q1) (f2 xs2 q2) (f3 xs3 q3) hT p
  · have e : i = n := by omega
    subst e
    exact .inl ⟨⟨xs1, xs2, xs3, q1, q2, q3, by omega, by omega, by omega, .inl (by omega)⟩, hd H p⟩
theorem gx_zip3 {α : Type} {K : PySem.W.Frag} {z1 z2 z3 : ZS} {xs1 xs2 xs3 : List V} {n : Nat} {g : TG} {tt : TT} {te : TE} {vs : List Nat} {σ0 : L2.St} {End : α → Hp → Prop} {Yd : α → V → Hp → (α → Hp → Prop) → Prop} {a0 : α} {H0 : Hp} (n1 : xs1.length = n) (n2 : xs2.length = n) (n3 : xs3.length = n) (Pv : Nat → α → Hp → Prop) (h0 : Pv 0 a0 H0) (hl : ∀ i c H, i ≤ n → Pv i c H → z1.at K H xs1 ∧ z2.at K H xs2 ∧ z3.at K H xs3)
    (hs : ∀ (i : Nat) (x1 x2 x3 : V) (T : Addr) (c : α) (H : Hp), xs1[i]? = some x1 → xs2[i]? = some x2 → xs3[i]? = some x3 → H T = none → Pv i c H → g (.ref T) σ0 (upd H T (.tup [x1, x2, x3])) fun σ2 H2 => wipe σ2 vs = σ0 ∧ tt σ2 H2 fun b H3 => if b = true then te σ2 H3 fun y H4 => Yd c y H4 (Pv (i + 1)) else Pv (i + 1) c H3) (hd : ∀ c H, Pv n c H → End c H) :
    ∃ W : Nat → Nat → α → Hp → Prop, (∃ m, W 0 m a0 H0) ∧ tGx (Itz3 K z1 z2 z3) g tt te σ0 vs End Yd W := by
  refine ⟨fun i m c H => m = n - i ∧ i ≤ n ∧ Pv i c H, ⟨n, rfl, Nat.zero_le _, h0⟩, ?_⟩
  rintro i m c H ⟨rfl, hi, p⟩
  obtain ⟨q1, q2, q3⟩ := hl i c H hi p
  by_cases hlt : i < n
  · have e1 : xs1[i]? = some (xs1[i]'(by omega)) := List.getElem?_eq_getElem _
    have e2 : xs2[i]? = some (xs2[i]'(by omega)) := List.getElem?_eq_getElem _
    have e3 : xs3[i]? = some (xs3[i]'(by omega)) := List.getElem?_eq_getElem _
    refine .inr ⟨⟨xs1, xs2, xs3, _, _, _, q1, q2, q3, e1, e2, e3⟩, Pv (i + 1), fun c' H' p' => ⟨n - (i + 1), by omega, rfl, hlt, p'⟩, fun v H' y => ?_⟩
    obtain ⟨T, y1, y2, y3, rfl, hT, rfl, f1, f2, f3⟩ := y
    exact hs i y1 y2 y3 T c H (f1 xs1 q1) (f2 xs2 q2) (f3 xs3 q3) hT p
  · have e : i = n := by omega
    subst e
    exact .inl ⟨⟨xs1, xs2, xs3, q1, q2, q3, by omega, by omega, by omega, .inl (by omega)⟩, hd c H p⟩
end ZpG

/-! ### sum(elt for tg in iter ..), of ints -/
namespace GxS
open PySem PySem.Spec PyProof.Rows L2
section
variable {X : Cx} {A A' : Around} {s_0 : Shared} {H_0 : Hp} {cenv : Env} {fp : List Addr} {tn : Nat → Heap → Prop} {ga S : Addr} {gn n : Nat} {go : Obj}
def ACs (ga : Addr) (go : Obj) (S : Addr) (a : Int) (cp : List (Addr × Obj)) : Prop := ∃ (t : Tok) (c : Nat), cp = [(ga, go), (S, lstObj #[.int a t] c)]
def YdS (a : Int) (y : V) (H : Hp) (Nx : Int → Hp → Prop) : Prop := ∃ i : Int, y = .int i ∧ InLong i ∧ InLong (a + i) ∧ Nx (a + i) H
theorem lst_one {a a' : Int} {t t' : Tok} {c c' : Nat} (h : some (lstObj #[Value.int a t] c) = some (lstObj #[Value.int a' t'] c')) : a' = a := by
  have h1 := congrArg Obj.data (Option.some.inj h)
  have h2 : #[Value.int a t] = #[Value.int a' t'] := by
    have h1 : (lstObj #[Value.int a t] c).data = (lstObj #[Value.int a' t'] c').data := h1
    unfold lstObj at h1
    injection h1
  have h3 : [Value.int a t] = [Value.int a' t'] := congrArg Array.toList h2
  have h4 := (List.cons.inj h3).1
  injection h4 with h5 _
  exact h5.symm
theorem sum_gx {R : Result → Shared → Prop} {End : Int → Hp → Prop} (hh : A.handled = none) (hroom : A.depth < recursionLimit) (hG : GenObj go gn) (hSa : S ≠ ga) (far : (gblk X A' s_0 H_0 cenv fp).s_0.heap.objs.size ≤ S) (hSc : ∀ x c, cenv.cells.lookup x = some c → c ≠ S)
    (keep : ∀ i h h', tn i h → (∀ b ∈ fp, ∀ o, h.get? b = some o → h'.get? b = some o) → tn i h') (hSf : ∀ b ∈ fp, b ≠ S)
    (yes : ∀ (σ : L2.St) (H : Hp) (a : Int) (t : Tok) (cp : List (Addr × Obj)) (s1 : Shared), Inv (gblk X A' s_0 H_0 cenv fp) cp σ H s1 → End a H → R (.ok (.ret (.int a t))) s1) :
    ∀ (n : Nat) (s : Shared) (a : Int) (t : Tok) (c : Nat), s.heap.NoLimit → s.heap.get? ga = some go → s.heap.get? S = some (lstObj #[.int a t] c) → (∃ gs, s.gens[gn]? = some gs ∧ gs.Goes (model X.prog X.w) A.in1.in1 (RG (gblk X A' s_0 H_0 cenv fp) (ACs ga go S) End)
      (YG (gblk X A' s_0 H_0 cenv fp) fp tn (ACs ga go S) YdS) n (.send .none) (s.setGen gn .running)) →
      codeAny (model X.prog X.w) A (.builtin "sum.loop" ⟨[.ref ga, .ref S, rawInt 0, rawInt 0], []⟩) R s := by
  intro n
  induction n using Nat.strongRecOn with
  | ind n ih =>
    rintro s a t c hl e hS ⟨gs, hgs, hgo⟩
    refine codeAny_builtin F.entry_sum_loop ?_
    rw [Around.under_plainId F.plain_sum_loop _]
    show wpAny _ A.in1 (seqItems? (.ref S) >>= _) _ _ s
    refine wpAny_bind (wpAny_seqItems hS rfl ?_)
    show wpAny _ A.in1 (tryCatch (pyNext (.ref ga)) _ >>= _) _ _ s
    refine wpAny_bind (wpAny_tryCatch (next_gx2 (A := A.in1) hh hroom hl hG e hgs hgo (fun a' x σ H i cp Nx v s1 gs' r hac tie I st hy at_ kap => ?_) fun a' σ H cp s1 hac tie I q => ?_))
    · obtain ⟨t', c', rfl⟩ := hac
      have e1 := tie (S, lstObj #[.int a' t'] c') (List.mem_cons_of_mem _ List.mem_cons_self)
      rw [hS] at e1
      obtain rfl := lst_one e1
      obtain ⟨j, rfl, ⟨f1, f2⟩, ⟨f3, f4⟩, nx⟩ := hy
      obtain ⟨tk, rfl⟩ := (show ∃ t, v = Value.int j t from r)
      have pS := I.pin (S, lstObj #[.int a' t'] c') (List.mem_append_right _ (List.mem_cons_of_mem _ List.mem_cons_self))
      have I0 : Inv (gblk X A' s_0 H_0 cenv fp) [(ga, go)] σ H s1 := I.pins_of fun p hp => I.pin p (List.mem_append_right _ (by rw [List.mem_singleton.mp hp]; exact List.mem_cons_self))
      have I1 := I0.turned (t' := s1.toks + 1) (h' := s1.heap.update S (Obj.mapSeq (fun _ => #[Value.int (a' + j) s1.toks]))) (it := S) (fun b o hb q => (Heap.get?_update_other _ _ (Ne.symm hb)).trans q) pS.2.1 pS.2.2.1 (.inr far) hSc (fun p hp => by rw [List.mem_singleton.mp (show p ∈ [(ga, go)] by simpa using hp)]; exact Ne.symm hSa)
      have e2 := Heap.get?_update_self (Obj.mapSeq (fun _ => #[Value.int (a' + j) s1.toks])) pS.1 rfl
      have pG := I1.pin (ga, go) (List.mem_append_right _ List.mem_cons_self)
      have hc : ((decide (-(2 ^ 63) ≤ j) && decide (j < 2 ^ 63)) && (decide (-(2 ^ 63) ≤ a' + j) && decide (a' + j < 2 ^ 63))) = true := by
        simp only [Bool.and_eq_true, decide_eq_true_eq]
        exact ⟨⟨f1, f2⟩, f3, f4⟩
      show wpAny _ A.in1 (if (_ : Bool) = true then (mkInt (a' + j) >>= _) else _) _ _ _
      split
      · refine wpAny_bind (wpAny_mkInt ?_)
        show wpAny _ A.in1 (updateSeq S (fun _ => #[Value.int (a' + j) s1.toks]) >>= _) _ _ _
        refine wpAny_bind ?_
        obtain ⟨m, hm, z⟩ := kap (a' + j) [(ga, go), (S, _)] (({ s1 with toks := s1.toks + 1, heap := s1.heap.update S (Obj.mapSeq (fun _ => #[Value.int (a' + j) s1.toks])) } : Shared).setGen gn .running) nx ⟨_, _, rfl⟩ (inv_moved (I1.pins_of fun p hp => by
          rcases List.mem_cons.mp hp with z | z
          · rw [z]; exact pG
          · rw [List.mem_singleton.mp z]; exact ⟨e2, pS.2.1, pS.2.2.1, pS.2.2.2.1, fun v q => by cases q⟩) rfl (allBare_setGen (s := { s1 with toks := s1.toks + 1, heap := s1.heap.update S (Obj.mapSeq (fun _ => #[Value.int (a' + j) s1.toks])) }) I1.bare rfl) fun _ _ q => q) (keep _ _ _ st fun b hb o q => (Heap.get?_update_other _ _ (Ne.symm (hSf b hb))).trans q)
        refine wpAny_updateSeq pS.1 rfl (wpAny_pure ⟨plainId_quiet F.plain_sum_loop _, ih m (by omega) _ (a' + j) s1.toks _ I1.nolimit pG.1 e2 ⟨gs', at_, z⟩⟩)
      · rename_i hneg
        exact absurd hc hneg
    · obtain ⟨t', c', rfl⟩ := hac
      have e1 := tie (S, lstObj #[.int a' t'] c') (List.mem_cons_of_mem _ List.mem_cons_self)
      rw [hS] at e1
      obtain rfl := lst_one e1
      exact wpAny_pure (yes σ H a' t _ s1 I q)
end
section
variable {X : Cx}
def tSumX (P : Addr) (wi : TI) (g : TG) (tt : TT) (te : TE) (vs : List Nat) : TE := fun σ H Q => wi σ H fun J H1 => GxR.TabG H1 P ∧ ∀ H2, GxR.Tabbed P H1 H2 → ∃ W : Nat → Nat → Int → Hp → Prop, (∃ m, W 0 m 0 H2) ∧
  tGx J g tt te (wipe σ vs) vs (fun a H => Q (.int a) H) YdS W
theorem pe_sumX {c P : Addr} {elt tg iter : Expr} {ifs : List Expr} {p pos gpos : Pos} {scope : Scope} {own : List (Str × Nat)} {wi : TI} {g : TG} {tt : TT} {te : TE} {k : Nat}
    (hr : Room (k + 1) X.A) (hc : X.calm = true) (hN : X.N.Nodup) (hgl : Gl X "sum") (hm : X.mg "sum" = none) (hb : bootBuiltins "sum" = some (.builtin "sum")) (TB : GxR.TabB X.base X.mg c P) (hcode : X.env.code = .ref c)
    (hco : scope.isCoroutine = false) (hdot : scope.names.lookup (".0" : Str) = some NameKind.local) (nocell : ∀ y ∈ scope.names, y.2 ≠ .cell) (ok : BlkOk X.N X.env.scope scope own) (hi : PI X tg iter wi)
    (hg : ∀ (A' : Around) (s : Shared) (H : Hp) (C : Addr) (cl : List (Str × Addr)) (code : Value) (fp : List Addr), Room k A' → A'.guards = X.A.guards → PG (gblk X A' s H (genEnv scope cl C code builtinsNs X.env) fp) tg g)
    (ht : ∀ (A' : Around) (s : Shared) (H : Hp) (C : Addr) (cl : List (Str × Addr)) (code : Value) (fp : List Addr), Room k A' → A'.guards = X.A.guards → PTs (gblk X A' s H (genEnv scope cl C code builtinsNs X.env) fp) ifs tt)
    (he : ∀ (A' : Around) (s : Shared) (H : Hp) (C : Addr) (cl : List (Str × Addr)) (code : Value) (fp : List Addr), Room k A' → A'.guards = X.A.guards → PE (gblk X A' s H (genEnv scope cl C code builtinsNs X.env) fp) elt te)
    (hs : ∀ v, genFold iter X.env v = pure v)
    (hst : starEach [.GeneratorExp elt [⟨tg, iter, ifs, 0⟩] scope gpos] X.env = (false, eval (.GeneratorExp elt [⟨tg, iter, ifs, 0⟩] scope gpos) X.env) :: starEach [] X.env := by rfl) :
    PE X (.Call (.Name "sum" p) [.GeneratorExp elt [⟨tg, iter, ifs, 0⟩] scope gpos] [] pos) (tSumX P wi g tt te (own.map (·.2))) := by
  refine ⟨fun pins s σ H Q I h => ?_⟩
  refine wpAny_Call_Name_kw (ld_blt I hgl hm hb ?_)
  refine PyProof.Rows.callWith_builtin1 ?_ hst (by rfl)
  rw [hst]
  show wpAny _ _ (spliced ((false, eval (.GeneratorExp elt [⟨tg, iter, ifs, 0⟩] scope gpos) X.env) :: backTo pos (starEach [] X.env))) _ _ s
  refine Calls.spliced_cons (gx_make (A := X.A.in1.in1) hr ⟨rfl, rfl, rfl, rfl, (by show X.A.units + 1 + 1 ≤ _; omega)⟩ hc hN TB hcode hco hdot nocell ok hi hg ht he hs I h fun J H1 H2 u s5 hR hT hG => ?_)
  obtain ⟨A', s_0, H_0, cenv, fp, ga, gn, go, tn, gs, rfl, hGO, hgs, hbare, I5, st5, nf, hlt, keep, back, goes⟩ := hG
  obtain ⟨W, ⟨m, w0⟩, turn⟩ := hR H2 hT
  refine Calls.spliced_nil ?_
  have pin5 := (I5.pin (ga, go) (List.mem_append_right _ List.mem_cons_self)).1
  have glt : ga < s5.heap.objs.size := Heap.lt_size pin5
  have hSI : s5.heap.objs.size ≠ ga := Nat.ne_of_gt glt
  refine call_function_tree F.kind_sum F.plain_sum F.entry_sum (F.args_sum1 _) ?_
  unfold Builtin.«sum»
  simp only [List.length_cons, List.length_nil]
  rw [if_neg (by decide)]
  refine wpAny_bind (wpAny_of_eq (show Builtin.Builtins.bindParams "sum" ["start"] 0 { } = pure [none] from rfl) ?_)
  refine wpAny_bind (wpAny_pyIter_gen (hGO.isGen pin5) ?_)
  refine wpAny_bind (wpAny_mkInt ?_)
  refine wpAny_bind (wpAny_pure ?_)
  simp only [List.forIn_cons, List.forIn_nil]
  refine wpAny_bind (wpAny_bind (wpAny_bind (wpAny_isInstance (T := "int") (b := false) (typeIs_int _ _ _) PySem.sub_int_str ?_)))
  simp only [Bool.false_eq_true, if_false]
  refine wpAny_pure (wpAny_bind (wpAny_bind (wpAny_isInstance (T := "int") (b := false) (typeIs_int _ _ _) PySem.sub_int_bytes ?_)))
  simp only [Bool.false_eq_true, if_false]
  refine wpAny_pure (wpAny_bind (wpAny_bind (wpAny_isInstance (T := "int") (b := false) (typeIs_int _ _ _) PySem.sub_int_bytearray ?_)))
  simp only [Bool.false_eq_true, if_false]
  refine wpAny_pure (wpAny_pure ?_)
  refine wpAny_bind (wpAny_newObj_type ?_)
  have k1 : ∀ b o, s5.heap.get? b = some o → (s5.heap.push { cls := .type "list", data := .seq [Value.int 0 s5.toks].toArray }).get? b = some o := fun b o e => Heap.get?_push_of_some _ e
  have hS₁ : (s5.heap.push { cls := .type "list", data := .seq [Value.int 0 s5.toks].toArray }).get? s5.heap.objs.size = some (lstObj #[.int 0 s5.toks] 0) := Heap.get?_push_size _ rfl
  have fS : FpOk (gblk X A' s_0 H_0 cenv fp) [(ga, go)] H2 s5.heap.objs.size := I5.fpOk (Nat.le_refl _) (I5.hok.fresh (Nat.le_refl _))
  have hfS : ∀ b ∈ fp, b ≠ s5.heap.objs.size := fun b hb => Nat.ne_of_lt (Nat.lt_trans (hlt b hb) glt)
  have I6 := inv_moved (s' := { s5 with toks := s5.toks + 1, heap := s5.heap.push { cls := .type "list", data := .seq [Value.int 0 s5.toks].toArray } }) I5 rfl I5.bare k1
  refine wpAny_pure ⟨plainId_quiet F.plain_sum_loop _, sum_gx (A' := A') (s_0 := s_0) (H_0 := H_0) (cenv := cenv) (fp := fp) (tn := tn) (go := go) (gn := gn) (End := fun a H => Q (.int a) H) hr.hd hr.depth hGO hSI (Nat.le_trans I5.sz (Nat.le_refl _)) fS.2.2.2.2.1 keep hfS
    (fun σ' H' a t cp s1 I1 q => ⟨.int a, H', back _ _ _ _ I1, ⟨t, rfl⟩, q⟩) (m + 1) _ 0 s5.toks 0 I6.nolimit (k1 _ _ pin5) hS₁ ⟨gs, hgs, ?_⟩⟩
  refine goes Int (ACs ga go s5.heap.objs.size) _ YdS W m (m + 1) 0 [(ga, go), (s5.heap.objs.size, lstObj #[.int 0 s5.toks] 0)] _ turn w0 (Nat.lt_succ_self _) (fun a cp hac p hp b hb z => ?_) ⟨_, _, rfl⟩
    (inv_moved (I6.pins_of fun p hp => ?_) rfl (allBare_setGen (s := { s5 with toks := s5.toks + 1, heap := _ }) I5.bare rfl) fun _ _ q => q) (keep _ _ _ st5 fun b hb o q => k1 b o q)
  · obtain ⟨t, c, rfl⟩ := hac
    rcases List.mem_cons.mp hp with e | e
    · rw [e] at z
      exact absurd (hlt b hb) (by rw [← z]; exact Nat.lt_irrefl _)
    · rw [List.mem_singleton.mp e] at z
      exact hfS b hb z.symm
  · rcases List.mem_cons.mp hp with e | e
    · rw [e]
      exact I6.pin (ga, go) (List.mem_append_right _ List.mem_cons_self)
    · rw [List.mem_singleton.mp e]
      exact ⟨hS₁, fS.1, fS.2.1, fS.2.2.1, fun v q => by cases q⟩
end
end GxS

end Gk

set_option Elab.async false
set_option linter.all false
set_option maxRecDepth 100000
set_option maxHeartbeats 1000000
namespace Gk
open PySem PySem.Spec PyProof.Rows L2
/-! ### data of tuples alone: no list that is written can harm it -/
mutual
def noL : PyData → Bool
  | .list _ => false
  | .tuple ds => noLs ds
  | _ => true
def noLs : List PyData → Bool
  | [] => true
  | d :: r => noL d && noLs r
end
def Ts (H H' : Hp) : Prop := ∀ b xs, H b = some (HO.tup xs) → H' b = some (.tup xs)
theorem Ts.refl {H : Hp} : Ts H H := fun _ _ e => e
theorem Ts.trans {H H1 H2 : Hp} (a : Ts H H1) (b : Ts H1 H2) : Ts H H2 := fun c xs e => b c xs (a c xs e)
theorem Ts.same {H H' : Hp} (s : Same H H') : Ts H H' := fun b xs e => s _ _ e
theorem Ts.gr {H H' : Hp} (s : Gr H H') : Ts H H' := fun b xs e => s.tup e
theorem Ts.new {H : Hp} {p : Addr} {o : HO} (h : H p = none) : Ts H (upd H p o) := Ts.same (same_upd h)
theorem Ts.set {H : Hp} {p : Addr} {xs ys : List V} (h : H p = some (.lst xs)) : Ts H (upd H p (.lst ys)) := fun b zs e => by
  rw [upd_ne (ne_of e h (by intro z; cases z))]
  exact e
mutual
theorem Tk.ts {H H' : Hp} (s : Ts H H') : ∀ {v : V} {d : PyData}, Tk H v d → noL d = true → Tk H' v d
  | _, _, .bl b, _ => .bl b
  | _, _, .int i, _ => .int i
  | _, _, .str x, _ => .str x
  | _, _, .lst h t, n => by cases n
  | _, _, .tup h t, n => .tup (s _ _ h) (t.ts s n)
theorem TkAll.ts {H H' : Hp} (s : Ts H H') : ∀ {vs : List V} {ds : List PyData}, TkAll H vs ds → noLs ds = true → TkAll H' vs ds
  | _, _, .nil, _ => .nil
  | _, _, .cons (d := d) (ds := ds) h t, n => by
    have n' : noL d = true ∧ noLs ds = true := Bool.and_eq_true_iff.mp n
    exact .cons (h.ts s n'.1) (t.ts s n'.2)
end
theorem noLs_map {α : Type} {f : α → PyData} (h : ∀ x, noL (f x) = true) : ∀ l : List α, noLs (l.map f) = true
  | [] => rfl
  | x :: r => by
    show (noL (f x) && noLs (r.map f)) = true
    rw [h x, noLs_map h r]
    rfl
theorem noL_row (r : List Int) : noL (rowD r) = true := noLs_map (fun _ => rfl) r
theorem noL_gate (g : Gt) : noL (gD g) = true := by
  show (true && (noLs ((g.2.map Int.ofNat).map PyData.int) && true)) = true
  rw [noLs_map (fun _ => rfl)]
  rfl
theorem noL_gates (gs : List Gt) : noLs (gs.map gD) = true := noLs_map noL_gate gs
theorem noL_net (m : Int) (gs : List Gt) : noL (netD m gs) = true := by
  show (true && (noLs (gs.map gD) && true)) = true
  rw [noL_gates]
  rfl
theorem noL_ch (a b : List Int) : noL (chD a b) = true := by
  show (noL (rowD a) && (noL (rowD b) && true)) = true
  rw [noL_row, noL_row]
  rfl

/-! ### slices and sums of tuples: what is told stands in a heap that has grown -/
theorem cut_all {xs : List V} {lo hi : Option Int} (h : HT.sIx xs.length 0 lo = 0 ∧ HT.sIx xs.length xs.length hi = xs.length) : cutV xs lo hi = xs := by
  unfold cutV
  rw [h.1, h.2, List.drop_zero, Nat.sub_zero, List.take_length]
theorem same_refl {H : Hp} : Same H H := fun _ _ e => e
theorem slA {K : PySem.W.Frag} {a : Addr} {xs : List V} {lo hi : Option Int} {H : Hp} {Q : VK} (h : H a = some (.tup xs)) (q : ∀ p H', Same H H' → H' p = some (.tup (cutV xs lo hi)) → Q (.ref p) H') : rSlA K (.ref a) lo hi H Q :=
  ⟨a, xs, rfl, SqT.of h, fun w => q a H same_refl (by rw [cut_all w]; exact h), fun _ p np => q p _ (same_upd np) upd_same⟩
theorem slAn {K : PySem.W.Frag} {a : Addr} {xs : List V} {lo : Option Int} {H : Hp} {Q : VK} {σ : L2.St} (h : H a = some (.tup xs)) (q : ∀ p H', Same H H' → H' p = some (.tup (cutV xs lo none)) → Q (.ref p) H') : tNoPart σ H (fun u H3 => rSlA K (.ref a) lo u H3 Q) := slA h q
theorem catA {K : PySem.W.Frag} {a b : Addr} {xs ys : List V} {H : Hp} {Q : VK} (ha : H a = some (.tup xs)) (hb : H b = some (.tup ys)) (hl : xs.length + ys.length ≤ sizeLine) (q : ∀ p H', Same H H' → H' p = some (.tup (xs ++ ys)) → Q (.ref p) H') : rCatA K (.ref a) (.ref b) H Q :=
  ⟨a, b, xs, ys, rfl, rfl, SqT.of ha, SqT.of hb, hl, fun e => q b H same_refl (by rw [e]; exact hb), fun _ e => q a H same_refl (by rw [e, List.append_nil]; exact ha), fun _ _ p np => q p _ (same_upd np) upd_same⟩
theorem cut_to {xs : List V} {k : Nat} : cutV xs none (some (k : Int)) = xs.take k := by
  unfold cutV
  rw [HT.sIx_none, HT.sIx_nat, List.drop_zero, Nat.sub_zero]
  apply List.ext_getElem?
  intro i
  rw [List.getElem?_take, List.getElem?_take]
  by_cases h : i < k
  · rw [if_pos h]
    by_cases h2 : i < xs.length
    · rw [if_pos (by omega)]
    · rw [List.getElem?_eq_none (by omega)]
      split <;> rfl
  · rw [if_neg h, if_neg (by omega)]
theorem cut_from {xs : List V} {k : Nat} : cutV xs (some (k : Int)) none = xs.drop k := by
  unfold cutV
  rw [HT.sIx_none, HT.sIx_nat]
  by_cases h : k ≤ xs.length
  · rw [Nat.min_eq_left h]
    exact List.take_of_length_le (by rw [List.length_drop]; exact Nat.le_refl _)
  · rw [Nat.min_eq_right (by omega), Nat.sub_self, List.take_zero, List.drop_eq_nil_of_le (by omega)]
theorem TkAll.take {H : Hp} : ∀ {xs : List V} {ds : List PyData} (k : Nat), TkAll H xs ds → TkAll H (xs.take k) (ds.take k)
  | _, _, 0, _ => by rw [List.take_zero, List.take_zero]; exact .nil
  | _, _, _ + 1, .nil => .nil
  | _, _, k + 1, .cons a t => .cons a (t.take k)
theorem TkAll.drop {H : Hp} : ∀ {xs : List V} {ds : List PyData} (k : Nat), TkAll H xs ds → TkAll H (xs.drop k) (ds.drop k)
  | _, _, 0, t => t
  | _, _, _ + 1, .nil => .nil
  | _, _, k + 1, .cons _ t => t.drop k
theorem set_put {α : Type} {l : List α} {i : Nat} {x : α} (h : i < l.length) : (l.take i ++ [x]) ++ l.drop (i + 1) = l.set i x := by
  rw [List.set_eq_take_append_cons_drop, if_pos h, List.append_assoc]
  rfl
def rJoinK (K : PySem.W.Frag) : V → List V → Hp → VK → Prop := fun x xs H Q => ∃ a p, ∃ ys : List Str, x = .str a ∧ xs = [.ref p] ∧ (SqL K H p (ys.map V.str) ∨ SqT K H p (ys.map V.str)) ∧ (ys.map (·.length)).sum + ys.length * a.length ≤ 16777216 ∧ Q (.str (Txt.join a ys)) H

/-! ### walks over texts -/
theorem lc_str {z : Str} {g : TG} {tt : TT} {te : TE} {vs : List Nat} {σ : L2.St} {H1 : Hp} {D : Addr} {Qd : Hp → Prop} (Pv : Nat → Hp → Prop) (h0 : Pv 0 (upd H1 D (.lst [])))
    (hs : ∀ i x H, z.cps[i]? = some x → Pv i H → g (.str ⟨#[x]⟩) (wipe σ vs) H fun σ2 H2 => wipe σ2 vs = wipe σ vs ∧ tt σ2 H2 fun b H3 =>
      if b = true then te σ2 H3 fun y H4 => ∃ acc, H4 D = some (.lst acc) ∧ acc.length < sizeLine ∧ Pv (i + 1) (upd H4 D (.lst (acc ++ [y]))) else Pv (i + 1) H3) (hd : ∀ H, Pv z.cps.size H → Qd H) :
    ∃ W : Nat → Nat → Hp → Prop, (∃ m, W 0 m (upd H1 D (.lst []))) ∧ ∀ i m H, W i m H →
      ((Its z).stop i H ∧ Qd H) ∨ ((Its z).go i H ∧ ∃ Nx : Hp → Prop, (∀ H', Nx H' → ∃ m', m' < m ∧ W (i + 1) m' H') ∧ ∀ x H', (Its z).yld i H x H' → g x (wipe σ vs) H' fun σ2 H2 => wipe σ2 vs = wipe σ vs ∧ tt σ2 H2 fun b H3 =>
        if b = true then te σ2 H3 fun y H4 => ∃ acc, H4 D = some (.lst acc) ∧ acc.length < sizeLine ∧ Nx (upd H4 D (.lst (acc ++ [y]))) else Nx H3) := by
  refine ⟨fun i m H => m = z.cps.size - i ∧ i ≤ z.cps.size ∧ Pv i H, ⟨z.cps.size, by simp, Nat.zero_le _, h0⟩, ?_⟩
  rintro i m H ⟨rfl, hi, p⟩
  by_cases hlt : i < z.cps.size
  · refine .inr ⟨hlt, Pv (i + 1), fun H' p' => ⟨z.cps.size - (i + 1), by omega, rfl, hlt, p'⟩, fun x H' y => ?_⟩
    obtain ⟨rfl, ch, hc, rfl⟩ := y
    exact hs i ch _ hc p
  · have e : i = z.cps.size := by omega
    subst e
    exact .inl ⟨Nat.le_refl _, hd H p⟩
theorem for_str {z : Str} {g : TG} {tb : TS} {D : Ends} {σ : L2.St} {H : Hp} (Pv : Nat → L2.St → Hp → Prop) (h0 : Pv 0 σ H)
    (hs : ∀ i x σ H, z.cps[i]? = some x → Pv i σ H → g (.str ⟨#[x]⟩) σ H fun σ2 H2 => tb { D with nx := Pv (i + 1), ct := Pv (i + 1), bk := D.nx } σ2 H2) (hd : ∀ σ H, Pv z.cps.size σ H → D.nx σ H) :
    ∃ W : Nat → Nat → L2.St → Hp → Prop, (∃ m, W 0 m σ H) ∧ ∀ i m σ H, W i m σ H →
      ((Its z).stop i H ∧ D.nx σ H) ∨ ((Its z).go i H ∧ ∃ N : L2.St → Hp → Prop, (∀ σ' H', N σ' H' → ∃ m', m' < m ∧ W (i + 1) m' σ' H') ∧ ∀ x H', (Its z).yld i H x H' → g x σ H' fun σ2 H2 => tb { D with nx := N, ct := N, bk := D.nx } σ2 H2) := by
  refine ⟨fun i m σ H => m = z.cps.size - i ∧ i ≤ z.cps.size ∧ Pv i σ H, ⟨z.cps.size, by simp, Nat.zero_le _, h0⟩, ?_⟩
  rintro i m σ H ⟨rfl, hi, p⟩
  by_cases hlt : i < z.cps.size
  · refine .inr ⟨hlt, Pv (i + 1), fun σ' H' p' => ⟨z.cps.size - (i + 1), by omega, rfl, hlt, p'⟩, fun x H' y => ?_⟩
    obtain ⟨rfl, ch, hc, rfl⟩ := y
    exact hs i ch σ _ hc p
  · have e : i = z.cps.size := by omega
    subst e
    exact .inl ⟨Nat.le_refl _, hd σ H p⟩
theorem S_at {p : List Nat} {i x : Nat} (h : (SX.S p).cps[i]? = some x) : p[i]? = some x := by
  have : (SX.S p).cps = p.toArray := rfl
  rw [this, List.getElem?_toArray] at h
  exact h
theorem S_size (p : List Nat) : (SX.S p).cps.size = p.length := by
  show p.toArray.size = _
  simp

section
variable {P : Program} {w : World} {K : PySem.W.Frag} {mg : Str → Option Value} {base : Heap}
/-! ### the deck of k34 to k41: cells from ahead, a number, a count -/
theorem p63 : (0 : Int) < 2147483563 := by decide
def DeckD (H : Hp) (d l : Addr) (n : Int) : Prop := d ≠ l ∧ ∃ (cs : List Int) (y z : Int), H d = some (.lst [.ref l, .int y, .int z]) ∧ H l = some (.lst (cs.map V.int)) ∧ cs.length ≤ 63 ∧ 0 ≤ z ∧ z ≤ n
theorem DeckD.mono {H : Hp} {d l : Addr} {n m : Int} (D : DeckD H d l n) (h : n ≤ m) : DeckD H d l m := by
  obtain ⟨ne, cs, z, y, h1, h2, h3, h4, h5⟩ := D
  exact ⟨ne, cs, z, y, h1, h2, h3, h4, Int.le_trans h5 h⟩
theorem DeckD.same {H H' : Hp} {d l : Addr} {n : Int} (D : DeckD H d l n) (s : Same H H') : DeckD H' d l n := by
  obtain ⟨ne, cs, z, y, hd, hl, r⟩ := D
  exact ⟨ne, cs, z, y, s _ _ hd, s _ _ hl, r⟩
theorem DeckD.gr {H H' : Hp} {d l : Addr} {n : Int} (D : DeckD H d l n) (s : Gr H H') : DeckD H' d l n := by
  obtain ⟨ne, cs, z, y, hd, hl, r⟩ := D
  exact ⟨ne, cs, z, y, s.lst hd, s.lst hl, r⟩
theorem DeckD.upd {H : Hp} {d l p : Addr} {n : Int} {o : HO} (D : DeckD H d l n) (h1 : p ≠ d) (h2 : p ≠ l) : DeckD (upd H p o) d l n := by
  obtain ⟨ne, cs, z, y, hd, hl, r⟩ := D
  exact ⟨ne, cs, z, y, by rw [upd_ne h1.symm]; exact hd, by rw [upd_ne h2.symm]; exact hl, r⟩
theorem DeckD.off {H : Hp} {d l p : Addr} {n : Int} (D : DeckD H d l n) (h : H p = none) : p ≠ d ∧ p ≠ l := by
  obtain ⟨ne, cs, z, y, hd, hl, r⟩ := D
  exact ⟨(ne_of_none hd h).symm, (ne_of_none hl h).symm⟩
theorem Ts.frD {H H' : Hp} {d l : Addr} {n : Int} (D : DeckD H d l n) (f : Fr d l H H') : Ts H H' := fun b xs e => by
  obtain ⟨ne, cs, z, y, hd, hl, r⟩ := D
  exact f b _ (ne_of e hd (by intro z; cases z)) (ne_of e hl (by intro z; cases z)) e
theorem tab_frD {H H' : Hp} {d l P : Addr} {n : Int} (D : DeckD H d l n) (f : Fr d l H H') (t : GxR.TabG H P) : GxR.TabG H' P := by
  obtain ⟨ps, e, tr⟩ := t
  obtain ⟨ne, cs, z, y, hd, hl, r⟩ := D
  exact ⟨ps, f _ _ (ne_of e hd (by intro z; cases z)) (ne_of e hl (by intro z; cases z)) e, tr⟩
theorem none_of_frD {d l p : Addr} {H H' : Hp} {n : Int} (f : Fr d l H H') (D : DeckD H' d l n) (h : H' p = none) : H p = none := by
  have o := D.off h
  cases z : H p with
  | none => rfl
  | some u => rw [f _ _ o.1 o.2 z] at h; cases h
theorem cut63 {ns : List Int} (h : ns.length ≤ 63) : cutV (ns.map V.int) none (some 63) = ns.map V.int := by
  unfold cutV
  have e : HT.sIx (ns.map V.int).length (ns.map V.int).length (some 63) = min 63 (ns.map V.int).length := HT.sIx_nat _ _ 63
  rw [HT.sIx_none, e, List.length_map, List.drop_zero]
  apply List.take_of_length_le
  rw [List.length_map]
  omega
theorem sq_same {K : PySem.W.Frag} {H H' : Hp} {a : Addr} {xs : List V} (s : Same H H') (h : SqL K H a xs) : SqL K H' a xs := h.imp (fun r => r.imp (fun e => s _ _ e) (fun ⟨ob, e⟩ => ⟨ob, s _ _ e⟩)) id
def sp_deck (K : PySem.W.Frag) : Sp := fun vs H Q _ => ∃ (a : Addr) (ns : List Int), vs = [.ref a] ∧ SqL K H a (ns.map V.int) ∧ ns.length ≤ 63 ∧ ∀ H' d l, Same H H' → DeckD H' d l 0 → Q (.ref d) H'
theorem ok_deck (T : Tx K mg) : FnOk P w K mg base CX0 1 T.f_deck T.fd_deck ["_law_script"] (sp_deck K) := by
  refine T.F_deck.ok sc_deck (fun vs H Q E h => ?_) (fun cdv A outer s H vs Q E hr h => ?_)
  · obtain ⟨a, ns, rfl, _⟩ := h
    rfl
  · obtain ⟨a, ns, rfl, hS, hlen, q⟩ := h
    refine ⟨_, (pss_one (ps_ret (pe_lst (pa_cons (pe_callTy call_list_of (by rfl) T.m_list (by decide +kernel) (pa_cons (pe_slice sl_list (pv 0) po_none (po_some pe_int)) pa_nil)) (pa_cons (pe_op op_add pe_int (pe_op op_mod (pe_callB (cr_sum rfl) (by rfl) T.m_sum (by decide +kernel) (pa_cons (pe_slice sl_list (pv 0) po_none (po_some pe_int)) pa_nil)) pe_int)) (pa_cons pe_int pa_nil)))))), ?_⟩
    refine ⟨.ref a, rfl, 63, rfl, a, _, rfl, hS, fun c1 n1 => ?_⟩
    rw [cut63 hlen]
    have s1 := same_upd (o := HO.lst (ns.map V.int)) n1
    refine ⟨c1, _, rfl, .inl (SqL.of upd_same), fun l nl => ?_⟩
    have s2 := same_upd (o := HO.lst (ns.map V.int)) nl
    refine ⟨.ref a, rfl, 63, rfl, a, _, rfl, sq_same (s1.trans s2) hS, fun c3 n3 => ?_⟩
    rw [cut63 hlen]
    have s3 := same_upd (o := HO.lst (ns.map V.int)) n3
    refine ⟨c3, ns, rfl, SqL.of upd_same, _, _, rfl, rfl, p29, _, _, rfl, rfl, sl3, fun d nd => ?_⟩
    have s5 := same_upd (o := HO.lst [V.ref l, V.int (48271 + ns.sum % 2147483629), V.int 0]) nd
    have hl4 := s3 _ _ (show (upd (upd H c1 (.lst (ns.map V.int))) l (.lst (ns.map V.int))) l = _ from upd_same)
    exact q _ d l (((s1.trans s2).trans s3).trans s5) ⟨(ne_of_none hl4 nd).symm, ns, _, 0, upd_same, s5 _ _ hl4, hlen, Int.le_refl _, Int.le_refl _⟩
/-! ### a draw -/
theorem at0 (c : Int) (r : List Int) : atI ((c :: r).map V.int) 0 = some (.int c) := by
  rw [List.map_cons]
  exact atI_nat (j := 0) rfl
theorem ixN0 (c : Int) (r : List Int) : ixN ((c :: r).map V.int).length 0 = some 0 := by
  unfold ixN
  rw [if_pos (by decide), if_pos (by rw [List.length_map, List.length_cons]; omega)]
  rfl
theorem ne_list (cs : List Int) : (!PyData.eqv (.list (cs.map PyData.int)) (.list [])) = !cs.isEmpty := by cases cs <;> rfl
def sp_draw (K : PySem.W.Frag) : Sp := fun vs H Q _ => ∃ (d l : Addr) (m n : Int), vs = [.ref d, .int m] ∧ DeckD H d l n ∧ n < 1000000000 ∧ 0 < m ∧ m < 1073741824 ∧ ∀ H' v, DeckD H' d l (n + 1) → Fr d l H H' → 0 ≤ v → v < m → Q (.int v) H'
theorem ok_draw (T : Tx K mg) : FnOk P w K mg base CX0 1 T.f_draw T.fd_draw ["_law_deck_here", "_law_most_here"] (sp_draw K) := by
  refine T.F_draw.ok sc_draw (fun vs H Q E h => ?_) (fun cdv A outer s H vs Q E hr h => ?_)
  · obtain ⟨d, l, m, n, rfl, _⟩ := h
    rfl
  · obtain ⟨d, l, m, n, rfl, D, hn, hm0, hm1, q⟩ := h
    obtain ⟨ne, cs, y, z, hd, hl, hcs, hz0, hz1⟩ := D
    refine ⟨_, (pss_cons (ps_set (i := 2) sc_draw.nd rfl (by first | exact .inl rfl | exact .inr rfl) (pe_ix ix_list (pv 0) pe_int (fun _ _ => rfl))) (pss_cons (ps_if (pt_cut (pw_and (pt_cmpR (op_neD hr.units) (pv 2) (pe_lst pa_nil) (nomark _)) (pw_and1 (pt_cmpR op_ge (pe_ix ix_list (pv 2) pe_int (fun _ _ => rfl)) (pe_op op_pow pe_int pe_int) (nomark _)))).pt) (pss_cons (ps_set (i := 3) sc_draw.nd rfl (by first | exact .inl rfl | exact .inr rfl) (pe_op op_mod (pe_ix ix_list (pv 2) pe_int (fun _ _ => rfl)) (pv 1))) (pss_cons (ps_asg (pe_op op_fdiv (pe_ix ix_list (pv 2) pe_int (fun _ _ => rfl)) (pv 1)) (pg_sub (pv 2) pe_int set_list)) (pss_one (ps_ret (pv 3))))) pss_nil) (pss_cons (ps_asg (pe_op op_add (pe_ix ix_list (pv 0) pe_int (fun _ _ => rfl)) pe_int) (pg_sub (pv 0) pe_int set_list)) (pss_cons (ps_set (i := 4) sc_draw.nd rfl (by first | exact .inl rfl | exact .inr rfl) (pe_ix ix_list (pv 0) pe_int (fun _ _ => rfl))) (C8.pss_cut (ps_if (pt_cmpR (op_neD hr.units) (pv 2) (pe_lst pa_nil) (nomark _)) (pss_one (ps_set (i := 4) sc_draw.nd rfl (by first | exact .inl rfl | exact .inr rfl) (pe_op op_add (pv 4) (pe_bm PySem.F.plainAttrs_list PySem.F.slot_list_pop PySem.F.type_list_pop mt_popAt (pv 2) (pa_cons pe_int pa_nil))))) pss_nil) (pss_cons (ps_set (i := 5) sc_draw.nd rfl (by first | exact .inl rfl | exact .inr rfl) (pe_op op_mod (pe_op op_add (pe_op op_add (pe_op op_mul (pe_op op_mod (pv 4) pe_int) pe_int) (pe_op op_mul pe_int (pe_ix ix_list (pv 0) pe_int (fun _ _ => rfl)))) pe_int) pe_int)) (pss_cons (ps_set (i := 5) sc_draw.nd rfl (by first | exact .inl rfl | exact .inr rfl) (pe_op op_mod (pe_op op_add (pe_op op_add (pe_op op_mul (pv 5) (pv 5)) (pe_op op_mul pe_int (pv 5))) (pe_ix ix_list (pv 0) pe_int (fun _ _ => rfl))) pe_int)) (pss_cons (ps_asg (pv 5) (pg_sub (pv 0) pe_int set_list)) (pss_one (ps_ret (pe_op op_mod (pe_op op_fdiv (pe_op op_mod (pe_op op_mul (pv 5) (pe_op op_add (pv 5) pe_int)) pe_int) pe_int) (pv 1)))))))))))), ?_⟩
    refine ⟨.ref d, rfl, d, _, 0, .ref l, rfl, rfl, SqL.of hd, rfl, ?_⟩
    refine ⟨fun b H' => Fr d l H H' ∧ H' d = some (.lst [.ref l, .int y, .int z]) ∧ H' l = some (.lst (cs.map V.int)) ∧ (b = true → ∃ c r, cs = c :: r), ?_, ?_⟩
    · refine ⟨.ref l, rfl, Nat.zero_le _, fun p np => ?_⟩
      have fr2 : Fr d l H (upd H p (.lst [])) := Fr.new np
      have hd2 : (upd H p (.lst [])) d = some (.lst [.ref l, .int y, .int z]) := same_upd np _ _ hd
      have hl2 : (upd H p (.lst [])) l = some (.lst (cs.map V.int)) := same_upd np _ _ hl
      refine ⟨.list (cs.map .int), .list [], .lst (SqL.of hl2) (dpInts cs), .lst (SqL.of upd_same) .nil, shInts cs, rfl, _, rfl, ?_⟩
      rw [ne_list]
      cases cs with
      | nil => exact iteF ⟨fr2, hd2, hl2, fun e => by cases e⟩
      | cons c r =>
        refine iteT ?_
        refine ⟨.ref l, rfl, l, _, 0, .int c, rfl, rfl, SqL.of hl2, at0 _ _, _, _, rfl, rfl, ⟨by decide, by decide, by decide⟩, _, _, rfl, rfl, _, rfl, ?_⟩
        exact ⟨fr2, hd2, hl2, fun _ => ⟨c, r, rfl⟩⟩
    · rintro b H1 ⟨fr1, hd1, hl1, hb⟩
      cases b with
      | true =>
        obtain ⟨c, r, rfl⟩ := hb rfl
        refine iteT ?_
        refine ⟨.ref l, rfl, l, _, 0, .int c, rfl, rfl, SqL.of hl1, at0 _ _, .int m, rfl, _, _, rfl, rfl, hm0, ?_⟩
        refine ⟨.ref l, rfl, l, _, 0, .int c, rfl, rfl, SqL.of hl1, at0 _ _, .int m, rfl, _, _, rfl, rfl, ⟨hm0, hm1⟩, .ref l, rfl, l, _, 0, 0, rfl, rfl, hl1, ixN0 _ _, ?_⟩
        refine ⟨.int (c % m), rfl, ?_⟩
        exact q _ _ ⟨ne, c / m :: r, y, z, by rw [upd_ne ne]; exact hd1, upd_same, hcs, hz0, by omega⟩ (fr1.trans Fr.l) (Int.emod_nonneg _ (by omega)) (Int.emod_lt_of_pos _ hm0)
      | false =>
        refine iteF ?_
        refine ⟨.ref d, rfl, d, _, 2, .int z, rfl, rfl, SqL.of hd1, rfl, z, 1, rfl, rfl, .ref d, rfl, d, _, 2, 2, rfl, rfl, hd1, rfl, ?_⟩
        have hd2 : (upd H1 d (.lst [.ref l, .int y, .int (z + 1)])) d = some (.lst [.ref l, .int y, .int (z + 1)]) := upd_same
        have hl2 : (upd H1 d (.lst [.ref l, .int y, .int (z + 1)])) l = some (.lst (cs.map V.int)) := by rw [upd_ne ne.symm]; exact hl1
        have fr2 : Fr d l H (upd H1 d (.lst [.ref l, .int y, .int (z + 1)])) := fr1.trans Fr.d
        have hz2 : 0 ≤ z + 1 := by omega
        have hz3 : z + 1 ≤ n + 1 := by omega
        have hz4 : z + 1 < 2000000000 := by omega
        show tSeq _ _ _ _ (upd H1 d (.lst [.ref l, .int y, .int (z + 1)]))
        revert hd2 hl2 fr2 hz2 hz3 hz4
        generalize upd H1 d (.lst [.ref l, .int y, .int (z + 1)]) = H2
        generalize z + 1 = z'
        intro hd2 hl2 fr2 hz2 hz3 hz4
        refine ⟨.ref d, rfl, d, _, 1, .int y, rfl, rfl, SqL.of hd2, rfl, ?_⟩
        refine ⟨fun σ H' => ∃ (x : Int) (cs : List Int), σ = [some (.ref d), some (.int m), some (.ref l), none, some (.int x), none] ∧ cs.length ≤ 63 ∧ H' d = some (.lst [.ref l, .int y, .int z']) ∧ H' l = some (.lst (cs.map V.int)) ∧ Fr d l H H', ?_, ?_⟩
        · refine ⟨.ref l, rfl, Nat.zero_le _, fun p np => ?_⟩
          have fr3 : Fr d l H (upd H2 p (.lst [])) := fr2.trans (Fr.new np)
          have hd3 : (upd H2 p (.lst [])) d = some (.lst [.ref l, .int y, .int z']) := same_upd np _ _ hd2
          have hl3 : (upd H2 p (.lst [])) l = some (.lst (cs.map V.int)) := same_upd np _ _ hl2
          refine ⟨.list (cs.map .int), .list [], .lst (SqL.of hl3) (dpInts cs), .lst (SqL.of upd_same) .nil, shInts cs, rfl, _, rfl, ?_⟩
          rw [ne_list]
          revert fr3 hd3 hl3
          generalize upd H2 p (.lst []) = H3
          intro fr3 hd3 hl3
          cases cs with
          | nil => exact iteF ⟨y, [], rfl, hcs, hd3, hl3, fr3⟩
          | cons c r =>
            refine iteT ?_
            have hr63 : r.length + 1 ≤ 63 := hcs
            refine ⟨.int y, rfl, .ref l, rfl, .inl ⟨rfl, _, SqL.of hl3⟩, l, _, 0, 0, .int c, rfl, rfl, hl3, by decide, by decide, seqIx0 _ _, rfl, _, _, rfl, rfl, ?_⟩
            exact ⟨_, r, rfl, by omega, by rw [upd_ne ne]; exact hd3, upd_same, fr3.trans Fr.l⟩
        · rintro σ H3 ⟨x, cs3, rfl, hcs3, hd3, hl3, fr3⟩
          have u0 := Int.emod_nonneg x (show (2147483629 : Int) ≠ 0 by decide)
          have u1 := Int.emod_lt_of_pos x (show (0 : Int) < 2147483629 by decide)
          refine ⟨.int x, rfl, _, _, rfl, rfl, p29, x % 2147483629, 48271, rfl, rfl, .inl ⟨by omega, by omega⟩, .ref d, rfl, d, _, 2, .int z', rfl, rfl, SqL.of hd3, rfl, 69621, z', rfl, rfl, .inl ⟨by decide, by decide⟩, _, _, rfl, rfl, _, _, rfl, rfl, _, _, rfl, rfl, p47, ?_⟩
          dsimp only
          have v0 := Int.emod_nonneg (x % 2147483629 * 48271 + 69621 * z' + 7919) (show (2147483647 : Int) ≠ 0 by decide)
          have v1 := Int.emod_lt_of_pos (x % 2147483629 * 48271 + 69621 * z' + 7919) (show (0 : Int) < 2147483647 by decide)
          revert v0 v1
          generalize (x % 2147483629 * 48271 + 69621 * z' + 7919) % 2147483647 = v
          intro v0 v1
          refine ⟨.int v, rfl, .int v, rfl, v, v, rfl, rfl, .inl ⟨by omega, by omega⟩, .int v, rfl, 39373, v, rfl, rfl, .inl ⟨by decide, by decide⟩, _, _, rfl, rfl, .ref d, rfl, d, _, 2, .int z', rfl, rfl, SqL.of hd3, rfl, _, _, rfl, rfl, _, _, rfl, rfl, p87, ?_⟩
          dsimp only
          have t0 := Int.emod_nonneg (v * v + 39373 * v + z') (show (2147483587 : Int) ≠ 0 by decide)
          have t1 := Int.emod_lt_of_pos (v * v + 39373 * v + z') (show (0 : Int) < 2147483587 by decide)
          revert t0 t1
          generalize (v * v + 39373 * v + z') % 2147483587 = t
          intro t0 t1
          refine ⟨.int t, rfl, .ref d, rfl, d, _, 1, 1, rfl, rfl, hd3, rfl, ?_⟩
          refine ⟨.int t, rfl, .int t, rfl, _, _, rfl, rfl, t, t + 16807, rfl, rfl, .inl ⟨by omega, by omega⟩, _, _, rfl, rfl, p63, _, _, rfl, rfl, ⟨by decide, by decide⟩, .int m, rfl, _, _, rfl, rfl, hm0, ?_⟩
          exact q _ _ ⟨ne, cs3, t, z', upd_same, by rw [upd_ne ne.symm]; exact hl3, hcs3, hz2, hz3⟩ (fr3.trans Fr.d) (Int.emod_nonneg _ (by omega)) (Int.emod_lt_of_pos _ hm0)

/-! ### how many, rows -/
theorem at2i (b : Bool) (i j : Int) : atI [V.int i, .int j] (if b = true then 1 else 0) = some (.int (if b = true then j else i)) := by cases b <;> rfl
theorem Fr.upd {d l p : Addr} {H H' : Hp} {o : HO} (f : Fr d l H H') (h : H p = none) : Fr d l H (upd H' p o) := fun b u h1 h2 e => by
  rw [upd_ne (ne_of_none e h)]
  exact f b u h1 h2 e
def sp_many (K : PySem.W.Frag) : Sp := fun vs H Q _ => ∃ (d l : Addr) (n : Int), vs = [.ref d] ∧ DeckD H d l n ∧ n < 900000 ∧ ∀ (m : Nat) (H' : Hp), DeckD H' d l (n + 2) → Fr d l H H' → 1 ≤ m → m ≤ 6 → Q (.int m) H'
theorem ok_many (T : Tx K mg) : FnOk P w K mg base CX0 2 T.f_many T.fd_many ["_law_deck_here"] (sp_many K) := by
  refine T.F_many.ok sc_many (fun vs H Q E h => ?_) (fun cdv A outer s H vs Q E hr h => ?_)
  · obtain ⟨d, l, n, rfl, _⟩ := h
    rfl
  · obtain ⟨d, l, n, rfl, D, hn, q⟩ := h
    refine ⟨_, (pss_cons (ps_set (i := 1) sc_many.nd rfl (by first | exact .inl rfl | exact .inr rfl) (pe_call (ok_draw T) (hr.mono (by decide)) (by rfl) T.g_draw T.F_draw.kp T.b_draw .nil pass0 (pa_cons (pv 0) (pa_cons pe_int pa_nil)))) (pss_cons (ps_if (pt_cmpR op_gt (pv 1) pe_int (nomark _)) (pss_one (ps_ret pe_int)) pss_nil) (pss_one (ps_ret (pe_op op_add (pe_ix ix_list (pe_lst (pa_cons pe_int (pa_cons pe_int pa_nil))) (pe_callTy call_int1 (by rfl) T.m_int (by decide +kernel) (pa_cons (pe_cmpR op_gt (pv 1) pe_int (nomark _)) pa_nil)) (fun _ _ => rfl)) (pe_call (ok_draw T) (hr.mono (by decide)) (by rfl) T.g_draw T.F_draw.kp T.b_draw .nil pass0 (pa_cons (pv 0) (pa_cons (pe_ix ix_list (pe_lst (pa_cons pe_int (pa_cons pe_int pa_nil))) (pe_callTy call_int1 (by rfl) T.m_int (by decide +kernel) (pa_cons (pe_cmpR op_gt (pv 1) pe_int (nomark _)) pa_nil)) (fun _ _ => rfl)) pa_nil)))))))), ?_⟩
    refine ⟨.ref d, rfl, d, l, 8, _, rfl, D, by omega, by decide, by decide, fun H1 x D1 fr1 x0 x1 => ?_⟩
    refine ⟨.int x, rfl, _, _, rfl, rfl, _, rfl, ite2 (fun _ => ?_) (fun _ => ?_)⟩
    · exact q 6 H1 (D1.mono (by omega)) fr1 (by decide) (by decide)
    · refine ⟨sl2, fun p np => ⟨.int x, rfl, _, _, rfl, rfl, .inr ⟨_, rfl, p, _, _, _, rfl, rfl, SqL.of upd_same, at2i _ _ _, .ref d, rfl, sl2, fun p2 np2 => ⟨.int x, rfl, _, _, rfl, rfl, .inr ⟨_, rfl, p2, _, _, _, rfl, rfl, SqL.of upd_same, at2i _ _ _, ?_⟩⟩⟩⟩⟩
      generalize decide (x > 2) = b
      have s1 := same_upd (o := HO.lst [V.int 1, V.int 3]) np
      have s2 := same_upd (o := HO.lst [V.int 4, V.int 3]) np2
      refine ⟨d, l, _, _, rfl, (D1.same s1).same s2, by omega, by cases b <;> decide, by cases b <;> decide, fun H3 y D3 fr3 y0 y1 => ⟨_, _, rfl, rfl, ?_⟩⟩
      obtain ⟨k, rfl⟩ := Int.eq_ofNat_of_zero_le y0
      have e : ((if b = true then 3 else 1 : Int) + (k : Int)) = (((if b = true then 3 else 1) + k : Nat) : Int) := by cases b <;> rfl
      show Q (.int ((if b = true then 3 else 1 : Int) + (k : Int))) H3
      rw [e]
      refine q _ H3 (D3.mono (by omega)) (fr1.trans ((Fr.of s1).trans ((Fr.of s2).trans fr3))) ?_ ?_
      · cases b
        · show 1 ≤ 1 + k; omega
        · show 1 ≤ 3 + k; omega
      · cases b
        · have : (k : Int) < 4 := y1
          show 1 + k ≤ 6; omega
        · have : (k : Int) < 3 := y1
          show 3 + k ≤ 6; omega
def sp_row (K : PySem.W.Frag) : Sp := fun vs H Q _ => ∃ (d l : Addr) (n : Int) (m : Nat), vs = [.ref d, .int m] ∧ DeckD H d l n ∧ n < 900000 ∧ m ≤ 6 ∧ ∀ (p : Addr) (bs : List Int) (H' : Hp), DeckD H' d l (n + m) → Fr d l H H' → bs.length = m → (∀ b ∈ bs, b = 0 ∨ b = 1) → H' p = some (.tup (bs.map V.int)) → Q (.ref p) H'
theorem ok_row (T : Tx K mg) : FnOk P w K mg base CX0 2 T.f_row T.fd_row ["_law_deck_here", "_law_many_here"] (sp_row K) := by
  refine T.F_row.ok sc_row (fun vs H Q E h => ?_) (fun cdv A outer s H vs Q E hr h => ?_)
  · obtain ⟨d, l, n, m, rfl, _⟩ := h
    rfl
  · obtain ⟨d, l, n, m, rfl, D, hn, hm, q⟩ := h
    refine ⟨_, (pss_one (ps_ret (pe_callTy call_tuple_of (by rfl) T.m_tuple (by decide +kernel) (pa_cons (pe_lc (own := [("_law_k", 2)]) (by rfl) sc_row.nd (pi_range1 (by rfl) T.m_range (pa_cons (pv 1) pa_nil)) (blkOk_by (own := [("_law_k", 2)]) (N := ["_law_deck_here", "_law_many_here", "_law_k"]) (sc := defScope s_row) (by decide +kernel)) (fun _ _ _ _ _ => (pg_name (i := 2) sc_row.nd rfl (by first | exact .inl rfl | exact .inr rfl))) (fun _ _ _ _ _ => pts_nil) (fun _ _ _ _ _ => (pe_call (ok_draw T) (hr.mono (by decide)) (by rfl) T.g_draw T.F_draw.kp T.b_draw .nil pass0 (pa_cons (pv 0) (pa_cons pe_int pa_nil))))) pa_nil)))), ?_⟩
    refine ⟨.int m, rfl, m, rfl, by omega, by omega, fun I nI => ?_⟩
    have oI := D.off nI
    refine lc_range (lo := 0) (n := (m : Int).toNat) (fun j H' => DeckD H' d l (n + j) ∧ Fr d l H H' ∧ ∃ bs : List Int, H' I = some (.lst (bs.map V.int)) ∧ bs.length = j ∧ ∀ b ∈ bs, b = 0 ∨ b = 1)
      ⟨(D.same (same_upd nI)).mono (by omega), Fr.new nI, [], upd_same, rfl, fun x hx => by cases hx⟩ ?_ ?_
    · rintro j H2 hj ⟨D2, fr2, bs, hI, lb, okb⟩
      have hj' : j < m := by simpa using hj
      refine ⟨rfl, .ref d, rfl, d, l, 2, _, rfl, D2, by omega, by decide, by decide, fun H3 x D3 fr3 x0 x1 => ?_⟩
      have hI3 := fr3 _ _ oI.1 oI.2 hI
      refine ⟨_, hI3, ?_, (D3.upd oI.1 oI.2).mono (by push_cast; omega), Fr.upd (fr2.trans fr3) nI, bs ++ [x], ?_, by rw [List.length_append, lb]; rfl, fun y hy => ?_⟩
      · rw [List.length_map, lb]
        exact Nat.lt_of_lt_of_le (show j < 64 by omega) (by decide)
      · rw [upd_same, List.map_append]
        rfl
      · rcases List.mem_append.mp hy with z | z
        · exact okb y z
        · rw [List.mem_singleton.mp z]; omega
    · rintro H2 ⟨D2, fr2, bs, hI, lb, okb⟩
      have lb' : bs.length = m := by rw [lb]; simp
      refine ⟨I, _, rfl, .inl ⟨SqL.of hI, fun ti nti => ?_⟩⟩
      have s2 := same_upd (o := HO.tup (bs.map V.int)) nti
      exact q ti bs _ ((D2.same s2).mono (by simp)) (fr2.trans (Fr.of s2)) lb' okb upd_same

/-! ### products -/
def one (c : Nat) : Str := SX.S [c]
theorem one_len (c : Nat) : (one c).length = 1 := rfl
theorem joinL_nil : ∀ l : List (List Nat), TL.joinL [] l = l.flatten
  | [] => rfl
  | [p] => by simp [TL.joinL]
  | p :: q :: r => by
    show p ++ ([] ++ TL.joinL [] (q :: r)) = _
    rw [joinL_nil (q :: r)]
    rfl
theorem join_one (cs : List Nat) : Txt.join (Str.ofString "") (cs.map one) = SX.S cs := by
  have e : cs.map one = (cs.map fun c => [c]).map SX.S := by rw [List.map_map]; rfl
  have z : Str.ofString "" = SX.S [] := by decide +kernel
  rw [e, z, SX.join_S, joinL_nil]
  have : (cs.map fun c => [c]).flatten = cs := by
    clear e z
    induction cs with
    | nil => rfl
    | cons b r ih => rw [List.map_cons, List.flatten_cons, ih]; rfl
  rw [this]
theorem ones_sum (cs : List Nat) : ((cs.map one).map (·.length)).sum = cs.length := by
  induction cs with
  | nil => rfl
  | cons b r ih =>
    rw [List.map_cons, List.map_cons, List.sum_cons, ih, List.length_cons, one_len]
    omega
theorem join_fit {cs : List Nat} (h : cs.length ≤ 64) : ((cs.map one).map (·.length)).sum + (cs.map one).length * (Str.ofString "").length ≤ 16777216 := by
  rw [ones_sum]
  show cs.length + (cs.map one).length * 0 ≤ _
  omega
def SgOk (c : Nat) : Prop := c = 45 ∨ c = 48 ∨ c = 49
def ProdOk (m : Nat) (p : List Nat) : Prop := p.length = m ∧ ∀ c ∈ p, SgOk c
theorem dash_S : Str.ofString "-" = one 45 := by decide +kernel
theorem s8_S : Str.ofString "01-01---" = SX.S [48, 49, 45, 48, 49, 45, 45, 45] := by decide +kernel
theorem it8 : ∀ k : Nat, k < 8 → ∃ c, (SX.S [48, 49, 45, 48, 49, 45, 45, 45]).cps[k]? = some c ∧ SgOk c := by
  intro k h
  rcases k with _ | _ | _ | _ | _ | _ | _ | _ | k
  · exact ⟨48, rfl, .inr (.inl rfl)⟩
  · exact ⟨49, rfl, .inr (.inr rfl)⟩
  · exact ⟨45, rfl, .inl rfl⟩
  · exact ⟨48, rfl, .inr (.inl rfl)⟩
  · exact ⟨49, rfl, .inr (.inr rfl)⟩
  · exact ⟨45, rfl, .inl rfl⟩
  · exact ⟨45, rfl, .inl rfl⟩
  · exact ⟨45, rfl, .inl rfl⟩
  · omega
theorem at6 {x : Int} (h0 : 0 ≤ x) (h1 : x < 6) : ∃ v : Int, atI [V.int 6, .int 4, .int 3, .int 8, .int 8, .int 5] x = some (.int v) ∧ 0 < v ∧ v ≤ 8 := by
  obtain ⟨k, rfl⟩ := Int.eq_ofNat_of_zero_le h0
  have hk : k < 6 := by omega
  rcases k with _ | _ | _ | _ | _ | _ | k
  · exact ⟨6, rfl, by decide, by decide⟩
  · exact ⟨4, rfl, by decide, by decide⟩
  · exact ⟨3, rfl, by decide, by decide⟩
  · exact ⟨8, rfl, by decide, by decide⟩
  · exact ⟨8, rfl, by decide, by decide⟩
  · exact ⟨5, rfl, by decide, by decide⟩
  · omega
theorem mul_dash {m : Nat} (h1 : 1 ≤ m) (h6 : m ≤ 6) : Txt.mul (one 45) (m : Int) = SX.S (List.replicate m 45) := by
  rcases m with _ | _ | _ | _ | _ | _ | _ | m
  · omega
  all_goals first | decide +kernel | omega
def wS (b : Int) : Nat := if b = 1 then 49 else 48
theorem str01 {b : Int} (h : b = 0 ∨ b = 1) : (toString b : Str) = one (wS b) := by
  rcases h with rfl | rfl <;> decide +kernel
def rRepS : V → V → Hp → VK → Prop := fun x y H Q => ∃ (z : Str) (n : Int), x = .str z ∧ y = .int n ∧ z.length ≤ 16 ∧ 0 ≤ n ∧ n ≤ 1048576 ∧ Q (.str (Txt.mul z n)) H
theorem op_repS {X : Cx} : OpR X (binaryOp .Mult) rRepS := by
  intro pins s σ H x y v u Q I rx ry h
  obtain ⟨i, j, rfl, rfl, h1, h2, h3, q⟩ := h
  obtain ⟨t, rfl⟩ := rx
  obtain ⟨t', rfl⟩ := ry
  exact SB.mul (mulOk_of 16 1048576 h1 h3 (by omega) (by decide) (by decide)) fun t' tk => ⟨.str _, H, I.tok _, ⟨_, rfl⟩, q⟩
def sp_product (K : PySem.W.Frag) : Sp := fun vs H Q _ => ∃ (d l : Addr) (n : Int) (m : Nat), vs = [.ref d, .int m] ∧ DeckD H d l n ∧ n < 800000 ∧ 1 ≤ m ∧ m ≤ 6 ∧ ∀ (p : List Nat) (H' : Hp), DeckD H' d l (n + 8) → Fr d l H H' → ProdOk m p → Q (.str (SX.S p)) H'
theorem ok_product (T : Tx K mg) : FnOk P w K mg base CX0 3 T.f_product T.fd_product ["_law_deck_here", "_law_many_here"] (sp_product K) := by
  refine T.F_product.ok sc_product (fun vs H Q E h => ?_) (fun cdv A outer s H vs Q E hr h => ?_)
  · obtain ⟨d, l, n, m, rfl, _⟩ := h
    rfl
  · obtain ⟨d, l, n, m, rfl, D, hn, m1, m6, q⟩ := h
    refine ⟨_, (pss_cons (ps_set (i := 2) sc_product.nd rfl (by first | exact .inl rfl | exact .inr rfl) (pe_call (ok_draw T) (hr.mono (by decide)) (by rfl) T.g_draw T.F_draw.kp T.b_draw .nil pass0 (pa_cons (pv 0) (pa_cons pe_int pa_nil)))) (pss_cons (ps_if (pt_cmpR op_eq (pv 2) pe_int (nomark _)) (pss_one (ps_ret (pe_join pe_str (pe_lc (own := [("_law_worth", 4)]) (by rfl) sc_product.nd (pi_tup (pe_call (ok_row T) (hr.mono (by decide)) (by rfl) T.g_row T.F_row.kp T.b_row .nil pass0 (pa_cons (pv 0) (pa_cons (pv 1) pa_nil)))) (blkOk_by (own := [("_law_worth", 4)]) (N := ["_law_deck_here", "_law_many_here", "_law_way", "_law_k", "_law_worth"]) (sc := defScope s_product) (by decide +kernel)) (fun _ _ _ _ _ => (pg_name (i := 4) sc_product.nd rfl (by first | exact .inl rfl | exact .inr rfl))) (fun _ _ _ _ _ => pts_nil) (fun _ _ _ _ _ => (pe_callTy call_str_int (by rfl) T.m_str (by decide +kernel) (pa_cons (pv 4) pa_nil))))))) pss_nil) (pss_cons (ps_if (pt_cut (pw_and (pt_cmpR op_eq (pv 2) pe_int (nomark _)) (pw_and1 (pt_cmpR op_eq (pe_call (ok_draw T) (hr.mono (by decide)) (by rfl) T.g_draw T.F_draw.kp T.b_draw .nil pass0 (pa_cons (pv 0) (pa_cons pe_int pa_nil))) pe_int (nomark _)))).pt) (pss_one (ps_ret (pe_op op_repS pe_str (pv 1)))) pss_nil) (pss_one (ps_ret (pe_join pe_str (pe_lc (own := [("_law_k", 3)]) (by rfl) sc_product.nd (pi_range1 (by rfl) T.m_range (pa_cons (pv 1) pa_nil)) (blkOk_by (own := [("_law_k", 3)]) (N := ["_law_deck_here", "_law_many_here", "_law_way", "_law_k", "_law_worth"]) (sc := defScope s_product) (by decide +kernel)) (fun _ _ _ _ _ => (pg_name (i := 3) sc_product.nd rfl (by first | exact .inl rfl | exact .inr rfl))) (fun _ _ _ _ _ => pts_nil) (fun _ _ _ _ _ => (pe_item_str pe_str (pe_call (ok_draw T) (hr.mono (by decide)) (by rfl) T.g_draw T.F_draw.kp T.b_draw .nil pass0 (pa_cons (pv 0) (pa_cons (pe_ix (show IxR _ (rIxL K) from ix_list) (pe_lst (pa_cons pe_int (pa_cons pe_int (pa_cons pe_int (pa_cons pe_int (pa_cons pe_int (pa_cons pe_int pa_nil))))))) (pv 2) (fun _ _ => rfl)) pa_nil))) (fun _ _ => rfl)))))))))), ?_⟩
    refine ⟨.ref d, rfl, d, l, 6, _, rfl, D, by omega, by decide, by decide, fun H1 x D1 fr1 x0 x1 => ?_⟩
    refine ⟨.int x, rfl, rfl, _, rfl, ite2 (fun _ => ?_) (fun _ => ?_)⟩
    · refine ⟨⟨_, rfl⟩, .ref d, rfl, .int m, rfl, d, l, _, m, rfl, D1, by omega, m6, fun p bs H2 D2 fr2 lb okb hp => ?_⟩
      refine ⟨p, rfl, ⟨_, SqT.of hp⟩, fun L nL => ?_⟩
      have oL := D2.off nL
      have npL : p ≠ L := ne_of_none hp nL
      refine lc_tup (K := K) (a := p) (xs := bs.map V.int) (fun j H' => DeckD H' d l (n + 7) ∧ Fr d l H H' ∧ H' p = some (.tup (bs.map V.int)) ∧ H' L = some (.lst ((((bs.take j).map wS).map one).map V.str)))
        ⟨(D2.same (same_upd nL)).mono (by omega), (fr1.trans fr2).trans (Fr.new nL), same_upd nL _ _ hp, upd_same⟩ (fun j H' _ z => SqT.of z.2.2.1) ?_ ?_
      · rintro j v H3 hv ⟨D3, fr3, hp3, hL⟩
        obtain ⟨b, hb, rfl⟩ : ∃ b, bs[j]? = some b ∧ v = V.int b := by
          rw [List.getElem?_map] at hv
          cases hz : bs[j]? with
          | none => rw [hz] at hv; cases hv
          | some u => rw [hz] at hv; exact ⟨u, rfl, (Option.some.inj hv).symm⟩
        have hb01 := okb b (List.mem_of_getElem? hb)
        refine ⟨rfl, .int b, rfl, b, rfl, by rcases hb01 with rfl | rfl <;> decide, ?_⟩
        rw [str01 hb01]
        refine ⟨_, hL, ?_, D3.upd oL.1 oL.2, ?_, by rw [upd_ne npL]; exact hp3, ?_⟩
        · rw [List.length_map, List.length_map, List.length_map, List.length_take]
          exact Nat.lt_of_lt_of_le (show _ < 64 by omega) (by decide)
        · intro b' u h1 h2 e
          by_cases z : b' = L
          · subst z
            have h0 := (fr1.trans fr2) _ _ h1 h2 e
            rw [nL] at h0; cases h0
          · rw [upd_ne z]; exact fr3 _ _ h1 h2 e
        · rw [upd_same, List.take_add_one, hb]
          simp
      · rintro H3 ⟨D3, fr3, hp3, hL⟩
        rw [List.length_map, List.take_length] at hL
        refine ⟨Str.ofString "", L, (bs.map wS).map one, rfl, rfl, .inl (SqL.of hL), join_fit (by rw [List.length_map]; omega), ?_⟩
        rw [join_one]
        refine q _ H3 (D3.mono (by omega)) fr3 ⟨by rw [List.length_map, lb], fun c hc => ?_⟩
        obtain ⟨b, hb, rfl⟩ := List.mem_map.mp hc
        rcases okb b hb with rfl | rfl
        · exact .inr (.inl rfl)
        · exact .inr (.inr rfl)
    · refine ⟨fun _ H' => DeckD H' d l (n + 2) ∧ Fr d l H H', ?_, ?_⟩
      · refine ⟨.int x, rfl, rfl, _, rfl, ite2 (fun _ => ?_) (fun _ => ⟨D1.mono (by omega), fr1⟩)⟩
        refine ⟨.ref d, rfl, d, l, 4, _, rfl, D1, by omega, by decide, by decide, fun H2 y D2 fr2 y0 y1 => ⟨rfl, _, rfl, D2.mono (by omega), fr1.trans fr2⟩⟩
      · rintro b H2 ⟨D2, fr2⟩
        refine ite2 (fun _ => ?_) (fun _ => ?_)
        · refine ⟨.int m, rfl, _, _, rfl, rfl, (by rw [dash_S]; decide), by omega, by omega, ?_⟩
          rw [dash_S, mul_dash m1 m6]
          exact q _ H2 (D2.mono (by omega)) fr2 ⟨List.length_replicate, fun c hc => .inl (List.mem_replicate.mp hc).2⟩
        · refine ⟨⟨_, rfl⟩, .int m, rfl, m, rfl, by omega, by omega, fun L nL => ?_⟩
          have oL := D2.off nL
          have nL0 : H L = none := none_of_frD fr2 D2 nL
          refine lc_range (lo := 0) (n := (m : Int).toNat) (fun j H' => DeckD H' d l (n + 2 + j) ∧ Fr d l H H' ∧ ∃ cs : List Nat, cs.length = j ∧ (∀ c ∈ cs, SgOk c) ∧ H' L = some (.lst ((cs.map one).map V.str)))
            ⟨(D2.same (same_upd nL)).mono (by omega), fr2.trans (Fr.new nL), [], rfl, (fun c hc => by cases hc), upd_same⟩ ?_ ?_
          · rintro j H3 hj ⟨D3, fr3, cs, lc, okc, hL⟩
            have hj' : j < m := by simpa using hj
            refine ⟨rfl, .ref d, rfl, show 6 ≤ sizeLine by decide, fun q6 n6 => ?_⟩
            have s6 := same_upd (o := HO.lst [V.int 6, .int 4, .int 3, .int 8, .int 8, .int 5]) n6
            have hL6 := s6 _ _ hL
            obtain ⟨v, ev, v0, v8⟩ := at6 x0 x1
            refine ⟨.int x, rfl, q6, _, _, .int v, rfl, rfl, SqL.of upd_same, ev, d, l, v, _, rfl, D3.same s6, by omega, v0, by omega, fun H7 y D7 fr7 y0 y1 => ?_⟩
            have hL7 := fr7 _ _ oL.1 oL.2 hL6
            obtain ⟨c, hc, okc'⟩ := it8 y.toNat (by omega)
            refine ⟨Str.ofString "01-01---", y, c, rfl, rfl, y0, by omega, by rw [s8_S, SX.S_len]; show y < 8; omega, by rw [s8_S]; exact hc, _, hL7, ?_, (D7.upd oL.1 oL.2).mono (by push_cast; omega), Fr.upd ((fr3.trans (Fr.of s6)).trans fr7) nL0, cs ++ [c], by rw [List.length_append, lc]; rfl, fun z hz => ?_, ?_⟩
            · rw [List.length_map, List.length_map, lc]
              exact Nat.lt_of_lt_of_le (show j < 64 by omega) (by decide)
            · rcases List.mem_append.mp hz with z1 | z1
              · exact okc z z1
              · rw [List.mem_singleton.mp z1]; exact okc'
            · rw [upd_same, List.map_append, List.map_append]
              rfl
          · rintro H3 ⟨D3, fr3, cs, lc, okc, hL⟩
            have lc' : cs.length = m := by rw [lc]; simp
            refine ⟨Str.ofString "", L, cs.map one, rfl, rfl, .inl (SqL.of hL), join_fit (by omega), ?_⟩
            rw [join_one]
            exact q _ H3 (D3.mono (by have : ((m : Int).toNat : Int) ≤ 6 := by omega
                                      omega)) fr3 ⟨lc', okc⟩

end
end Gk

set_option Elab.async false
set_option linter.all false
set_option maxRecDepth 100000
set_option maxHeartbeats 1000000
namespace Gk
open PySem PySem.Spec PyProof.Rows L2
theorem str_dec (x y : Str) : decide (V.str x = V.str y) = decide (x = y) := by
  by_cases z : x = y
  · rw [decide_eq_true z, decide_eq_true (by rw [z])]
  · rw [decide_eq_false z, decide_eq_false (fun k => z (V.str.inj k))]
theorem one_inj {a b : Nat} : decide (one a = one b) = decide (a = b) := by
  by_cases z : a = b
  · rw [decide_eq_true z, decide_eq_true (by rw [z])]
  · rw [decide_eq_false z, decide_eq_false (fun k => z (by have := SX.S_inj k; simpa using this))]
section
variable {P : Program} {w : World} {K : PySem.W.Frag} {mg : Str → Option Value} {base : Heap}
/-! ### products: the program's own -/
def Row01' (r : List Int) : Prop := ∀ x ∈ r, x = 0 ∨ x = 1
def hall (p q : List Nat) : Bool := (p.zip q).all fun z => decide (z.1 = 45) || decide (z.1 = z.2)
def meetM (p q : List Nat) : Bool := (p.zip q).all fun z => decide (z.1 = 45) || decide (z.2 = 45) || decide (z.1 = z.2)
def rowS (r : List Int) : List Nat := r.map wS
def hrow (p : List Nat) (r : List Int) : Bool := hall p (rowS r)
def cubeM (a b : List Int) : List Nat := (a.zip b).map fun z => if z.1 = z.2 then wS z.1 else 45
theorem joinOk_ones (cs : List Nat) (h : cs.length ≤ 64) : JoinOk (Str.ofString "") (cs.map one) = true := by
  have key : ∀ (cs : List Nat) (n : Nat), (cs.map one).foldl (fun a t => a + t.length + (Str.ofString "").length) n = n + cs.length := by
    intro cs
    induction cs with
    | nil => intro n; rfl
    | cons c r ih =>
      intro n
      rw [List.map_cons, List.foldl_cons, ih, List.length_cons]
      show n + 1 + 0 + r.length = n + (r.length + 1)
      omega
  unfold JoinOk
  rw [List.foldl_toArray', key]
  · unfold Builtin.Str.tooLong
    rw [decide_eq_false (show ¬ (0 + cs.length > sizeLine) by rw [sizeLine_eq]; omega)]
    rfl
  · simp
def sp_show_row (T : Tx K mg) : Sp := fun vs H Q _ => ∃ (a : Addr) (r : List Int), vs = [.ref a] ∧ H a = some (.tup (r.map V.int)) ∧ Row01' r ∧ r.length ≤ 6 ∧ Tabs H T.tabs ∧ ∀ H', Gr H H' → Q (.str (SX.S (rowS r))) H'
theorem ok_show_row (T : Tx K mg) (B : Tb base T) : FnOk P w K mg base CX0 2 T.f_show_row T.fd_show_row ["row"] (sp_show_row T) := by
  refine okC T.F_show_row sc_show_row (fun vs H Q E h => ?_) (fun A outer s H vs Q E hr h => ?_)
  · obtain ⟨a, r, rfl, _⟩ := h
    rfl
  · obtain ⟨a, r, rfl, ha, ok, l6, tabs, q⟩ := h
    refine ⟨_, (pss_one (ps_ret (GxJ.pe_joinX (own := [("worth", 1)]) (k := 0) (hr.mono (by decide)) rfl sc_show_row.nd pe_str B.TB_show_row T.cd_show_row rfl rfl (by decide +kernel) (blkOk_by (own := [("worth", 1)]) (N := ["row", "worth"]) (sc := defScope s_show_row) (by decide +kernel)) (pi_tup (pv 0)) (fun _ _ _ _ _ _ _ hr gd => (pg_name (i := 1) sc_show_row.nd rfl (by first | exact .inl rfl | exact .inr rfl))) (fun _ _ _ _ _ _ _ hr gd => pts_nil) (fun _ _ _ _ _ _ _ hr gd => (pe_callTy call_str_int (by rfl) T.m_str (by decide +kernel) (pa_cons (pv 1) pa_nil))) (fun _ => rfl)))), ?_⟩
    have tab : GxR.TabG H T.P_show_row := tabs _ (by simp [Tx.tabs])
    refine ⟨_, rfl, .ref a, rfl, a, rfl, ⟨_, SqT.of ha⟩, tab, fun H2 tb2 => ?_⟩
    have g2 := Gr.tab tab tb2
    refine gx_tup (K := K) (a := a) (xs := r.map V.int) (fun j ys H' => H' = H2 ∧ ys = ((rowS (r.take j)).map one).map V.str) ⟨rfl, rfl⟩ (fun j ys H' _ ⟨e, _⟩ => by rw [e]; exact SqT.of (g2.tup ha)) ?_ ?_
    · rintro j x ys H' hx ⟨rfl, rfl⟩
      obtain ⟨b, hb, rfl⟩ : ∃ b, r[j]? = some b ∧ x = V.int b := by
        rw [List.getElem?_map] at hx
        cases hz : r[j]? with
        | none => rw [hz] at hx; cases hx
        | some u => rw [hz] at hx; exact ⟨u, rfl, (Option.some.inj hx).symm⟩
      have hb01 := ok b (List.mem_of_getElem? hb)
      refine ⟨rfl, .int b, rfl, b, rfl, by rcases hb01 with rfl | rfl <;> decide, ?_⟩
      rw [str01 hb01]
      refine ⟨?_, rfl, ?_⟩
      · unfold rowS
        rw [List.length_map, List.length_map, List.length_map, List.length_take]
        exact Nat.lt_of_lt_of_le (show _ < 64 by omega) (by decide)
      · unfold rowS
        rw [List.take_add_one, hb]
        simp
    · rintro ys H' ⟨rfl, rfl⟩
      rw [List.length_map, List.take_length]
      refine ⟨(rowS r).map one, rfl, joinOk_ones _ (by unfold rowS; rw [List.length_map]; omega), ?_⟩
      rw [join_one]
      exact q _ g2
theorem S_list (p : List Nat) : (SX.S p).cps.toList.map (fun c => V.str ⟨#[c]⟩) = p.map fun c => V.str (one c) := by
  show (p.toArray.toList).map _ = _
  rw [List.toList_toArray]
  rfl
theorem at_tx {H : Hp} (p : List Nat) : (ZpG.ZS.tx (SX.S p)).at K H (p.map fun c => V.str (one c)) := (S_list p).symm
theorem one_at {p : List Nat} {i : Nat} {x : V} (h : (p.map fun c => V.str (one c))[i]? = some x) : ∃ c, p[i]? = some c ∧ x = V.str (one c) := by
  rw [List.getElem?_map] at h
  cases hz : p[i]? with
  | none => rw [hz] at h; cases h
  | some u => rw [hz] at h; exact ⟨u, rfl, (Option.some.inj h).symm⟩
theorem eqV_one (a b : Nat) : eqV (.str (one a)) (.str (one b)) = decide (a = b) := by
  show (one a == one b) = _
  by_cases z : a = b
  · subst z
    simp
  · rw [decide_eq_false z]
    refine beq_eq_false_iff_ne.mpr fun k => z ?_
    have := SX.S_inj k
    simpa using this
theorem zip_take_succ {α β : Type} {p : List α} {q : List β} {i : Nat} {a : α} {b : β} (h1 : p[i]? = some a) (h2 : q[i]? = some b) : (p.zip q).take (i + 1) = (p.zip q).take i ++ [(a, b)] := by
  rw [List.take_add_one]
  have : (p.zip q)[i]? = some (a, b) := by
    rw [List.getElem?_zip_eq_some]
    exact ⟨h1, h2⟩
  rw [this]
  rfl
theorem all_stop {α : Type} {l : List α} {f : α → Bool} {i : Nat} {a : α} (h : l.take (i + 1) = l.take i ++ [a]) (e : f a = false) : l.all f = false := by
  rw [← List.take_append_drop (i + 1) l, List.all_append, h, List.all_append]
  simp [e]
def sp_holds_all (T : Tx K mg) : Sp := fun vs H Q _ => ∃ (p q' : List Nat), vs = [.str (SX.S p), .str (SX.S q')] ∧ p.length = q'.length ∧ Tabs H T.tabs ∧ ∀ H', Gr H H' → Q (.bl (hall p q')) H'
theorem ok_holds_all (T : Tx K mg) (B : Tb base T) : FnOk P w K mg base CX0 2 T.f_holds_all T.fd_holds_all ["product", "other"] (sp_holds_all T) := by
  refine okC T.F_holds_all sc_holds_all (fun vs H Q E h => ?_) (fun A outer s H vs Q E hr h => ?_)
  · obtain ⟨p, q', rfl, _⟩ := h
    rfl
  · obtain ⟨p, q', rfl, hl, tabs, q⟩ := h
    refine ⟨_, (pss_one (ps_ret (pe_allX (own := [("sign", 2), ("held", 3)]) (k := 0) (hr.mono (by decide)) rfl sc_holds_all.nd (by rfl) T.m_all (by decide +kernel) B.TB_holds_all T.cd_holds_all rfl rfl (by decide +kernel) (blkOk_by (own := [("sign", 2), ("held", 3)]) (N := ["product", "other", "sign", "held"]) (sc := defScope s_holds_all) (by decide +kernel)) (ZpG.pi_zip2 (by rfl) T.m_zip (pa_cons (pv 0) (pa_cons (pv 1) pa_nil))) (fun _ _ _ _ _ _ _ hr gd => (show PG _ _ (gTup K 2 _) from pg_tup rfl (pgs_cons (pg_name (i := 2) sc_holds_all.nd rfl (by first | exact .inl rfl | exact .inr rfl)) (pgs_cons (pg_name (i := 3) sc_holds_all.nd rfl (by first | exact .inl rfl | exact .inr rfl)) pgs_nil)))) (fun _ _ _ _ _ _ _ hr gd => pts_nil) (fun _ _ _ _ _ _ _ hr gd => (pe_cmpR (show OpR _ _ (rIn K false) from op_in_seq) (pv 2) (pe_tup (pa_cons pe_str (pa_cons (pv 3) pa_nil))) rfl)) (fun _ => rfl)))), ?_⟩
    have tab : GxR.TabG H T.P_holds_all := tabs _ (by simp [Tx.tabs])
    refine ⟨.str (SX.S p), rfl, .str (SX.S q'), rfl, .tx (SX.S p), .tx (SX.S q'), _, _, rfl, at_tx p, at_tx q', tab, fun H2 tb2 => ?_⟩
    have g2 := Gr.tab tab tb2
    refine ZpG.gx_zip2 (K := K) (n := p.length) (xs1 := p.map fun c => V.str (one c)) (xs2 := q'.map fun c => V.str (one c)) (by rw [List.length_map]) (by rw [List.length_map, hl]) (fun j _ H' => Gr H H' ∧ ((p.zip q').take j).all (fun z => decide (z.1 = 45) || decide (z.1 = z.2)) = true) ⟨g2, rfl⟩ (fun j _ H' _ _ => ⟨at_tx p, at_tx q'⟩) ?_ ?_
    · rintro j x y t _ H' hx hy nt ⟨g, ih⟩
      obtain ⟨a, ha, rfl⟩ := one_at hx
      obtain ⟨b, hb, rfl⟩ := one_at hy
      have g' := g.trans (Gr.none (o := .tup [V.str (one a), V.str (one b)]) nt)
      have ez := zip_take_succ ha hb
      refine ⟨t, _, rfl, SqT.of upd_same, rfl, _, _, rfl, _, _, rfl, rfl, rfl, ?_⟩
      refine ⟨.str (one a), rfl, .str (one b), rfl, sl2, fun u nu => ?_⟩
      have g'' := g'.trans (Gr.none (o := .tup [V.str (Str.ofString "-"), V.str (one b)]) nu)
      refine ⟨u, _, rfl, .inr (SqT.of upd_same), rfl, rfl, ?_⟩
      have ev : (if false = true then !inV (.str (one a)) [V.str (Str.ofString "-"), V.str (one b)] else inV (.str (one a)) [V.str (Str.ofString "-"), V.str (one b)]) = (decide (a = 45) || decide (a = b)) := by
        show (eqV (.str (Str.ofString "-")) (.str (one a)) || (eqV (.str (one b)) (.str (one a)) || false)) = _
        rw [dash_S, eqV_one, eqV_one, Bool.or_false]
        congr 1
        · exact decide_eq_decide.mpr ⟨Eq.symm, Eq.symm⟩
        · exact decide_eq_decide.mpr ⟨Eq.symm, Eq.symm⟩
      refine ⟨_, rfl, ?_⟩
      rw [ev]
      refine ite2 (fun e => ⟨g'', ?_⟩) (fun e => ?_)
      · rw [ez, List.all_append, ih]
        simpa using e
      · have : hall p q' = false := all_stop (f := fun z : Nat × Nat => decide (z.1 = 45) || decide (z.1 = z.2)) ez (Bool.eq_false_iff.mpr e)
        have z := q _ g''
        rw [this] at z
        exact z
    · rintro _ H' ⟨g, ih⟩
      have : (p.zip q').length ≤ p.length := by rw [List.length_zip]; omega
      rw [List.take_of_length_le this] at ih
      have z := q H' g
      unfold hall at z
      rw [ih] at z
      exact z
def sp_meet (T : Tx K mg) : Sp := fun vs H Q _ => ∃ (p q' : List Nat), vs = [.str (SX.S p), .str (SX.S q')] ∧ p.length = q'.length ∧ Tabs H T.tabs ∧ ∀ H', Gr H H' → Q (.bl (meetM p q')) H'
theorem ok_meet (T : Tx K mg) (B : Tb base T) : FnOk P w K mg base CX0 2 T.f_meet T.fd_meet ["product", "other"] (sp_meet T) := by
  refine okC T.F_meet sc_meet (fun vs H Q E h => ?_) (fun A outer s H vs Q E hr h => ?_)
  · obtain ⟨p, q', rfl, _⟩ := h
    rfl
  · obtain ⟨p, q', rfl, hl, tabs, q⟩ := h
    refine ⟨_, (pss_one (ps_ret (pe_allX (own := [("one", 2), ("two", 3)]) (k := 0) (hr.mono (by decide)) rfl sc_meet.nd (by rfl) T.m_all (by decide +kernel) B.TB_meet T.cd_meet rfl rfl (by decide +kernel) (blkOk_by (own := [("one", 2), ("two", 3)]) (N := ["product", "other", "one", "two"]) (sc := defScope s_meet) (by decide +kernel)) (ZpG.pi_zip2 (by rfl) T.m_zip (pa_cons (pv 0) (pa_cons (pv 1) pa_nil))) (fun _ _ _ _ _ _ _ hr gd => (show PG _ _ (gTup K 2 _) from pg_tup rfl (pgs_cons (pg_name (i := 2) sc_meet.nd rfl (by first | exact .inl rfl | exact .inr rfl)) (pgs_cons (pg_name (i := 3) sc_meet.nd rfl (by first | exact .inl rfl | exact .inr rfl)) pgs_nil)))) (fun _ _ _ _ _ _ _ hr gd => pts_nil) (fun _ _ _ _ _ _ _ hr gd => (pe_or (pe_cmpR (show OpR _ _ (rIn K false) from op_in_seq) pe_str (pe_tup (pa_cons (pv 2) (pa_cons (pv 3) pa_nil))) rfl) (pe_one (pe_cmpR op_eq (pv 2) (pv 3) (nomark _))))) (fun _ => rfl)))), ?_⟩
    have tab : GxR.TabG H T.P_meet := tabs _ (by simp [Tx.tabs])
    refine ⟨.str (SX.S p), rfl, .str (SX.S q'), rfl, .tx (SX.S p), .tx (SX.S q'), _, _, rfl, at_tx p, at_tx q', tab, fun H2 tb2 => ?_⟩
    have g2 := Gr.tab tab tb2
    refine ZpG.gx_zip2 (K := K) (n := p.length) (xs1 := p.map fun c => V.str (one c)) (xs2 := q'.map fun c => V.str (one c)) (by rw [List.length_map]) (by rw [List.length_map, hl]) (fun j _ H' => Gr H H' ∧ ((p.zip q').take j).all (fun z => decide (z.1 = 45) || decide (z.2 = 45) || decide (z.1 = z.2)) = true) ⟨g2, rfl⟩ (fun j _ H' _ _ => ⟨at_tx p, at_tx q'⟩) ?_ ?_
    · rintro j x y t _ H' hx hy nt ⟨g, ih⟩
      obtain ⟨a, ha, rfl⟩ := one_at hx
      obtain ⟨b, hb, rfl⟩ := one_at hy
      have g' := g.trans (Gr.none (o := .tup [V.str (one a), V.str (one b)]) nt)
      have ez := zip_take_succ ha hb
      refine ⟨t, _, rfl, SqT.of upd_same, rfl, _, _, rfl, _, _, rfl, rfl, rfl, ?_⟩
      refine ⟨.str (one a), rfl, .str (one b), rfl, sl2, fun u nu => ?_⟩
      have g'' := g'.trans (Gr.none (o := .tup [V.str (one a), V.str (one b)]) nu)
      have fin : ∀ c : Bool, c = (decide (a = 45) || decide (b = 45) || decide (a = b)) → ∃ b_1, V.bl c = V.bl b_1 ∧ if b_1 = true then Gr H (upd (upd H' t (.tup [V.str (one a), V.str (one b)])) u (.tup [V.str (one a), V.str (one b)])) ∧ ((p.zip q').take (j + 1)).all (fun z => decide (z.1 = 45) || decide (z.2 = 45) || decide (z.1 = z.2)) = true else Q (.bl false) (upd (upd H' t (.tup [V.str (one a), V.str (one b)])) u (.tup [V.str (one a), V.str (one b)])) := fun c hc => by
        refine ⟨c, rfl, ?_⟩
        refine ite2 (fun e => ⟨g'', ?_⟩) (fun e => ?_)
        · rw [ez, List.all_append, ih]
          rw [hc] at e
          simpa using e
        · rw [hc] at e
          have : meetM p q' = false := all_stop (f := fun z : Nat × Nat => decide (z.1 = 45) || decide (z.2 = 45) || decide (z.1 = z.2)) ez (Bool.eq_false_iff.mpr e)
          have z := q _ g''
          rw [this] at z
          exact z
      have ev : (if false = true then !inV (.str (Str.ofString "-")) [V.str (one a), V.str (one b)] else inV (.str (Str.ofString "-")) [V.str (one a), V.str (one b)]) = (decide (a = 45) || decide (b = 45)) := by
        show (eqV (.str (one a)) (.str (Str.ofString "-")) || (eqV (.str (one b)) (.str (Str.ofString "-")) || false)) = _
        rw [dash_S, eqV_one, eqV_one, Bool.or_false]
      refine ⟨u, _, rfl, .inr (SqT.of upd_same), rfl, rfl, _, rfl, ?_⟩
      rw [ev]
      refine ite2 (fun e => ?_) (fun e => ?_)
      · refine fin _ ?_
        rw [e]
        rfl
      · refine ⟨.str (one a), rfl, .str (one b), rfl, rfl, fin _ ?_⟩
        rw [Bool.eq_false_iff.mpr e, Bool.false_or, str_dec]
        exact one_inj
    · rintro _ H' ⟨g, ih⟩
      have : (p.zip q').length ≤ p.length := by rw [List.length_zip]; omega
      rw [List.take_of_length_le this] at ih
      have z := q H' g
      unfold meetM at z
      rw [ih] at z
      exact z

end
end Gk

set_option Elab.async false
set_option linter.all false
set_option maxRecDepth 100000
set_option maxHeartbeats 1000000
namespace Gk
open PySem PySem.Spec PyProof.Rows L2
/-! ### enumerate(tuple) -/
theorem draws_tuple {P : Program} {w : World} {A : Around} (hA : A.handled = none) (it a : Addr) (items : Array Value) (hne : a ≠ it) : Draws P w A it [it, a] items.size (fun i v => items[i]? = some v) (fun i h => h.IsTupleIter it a i ∧ h.IsTuple a items) where
  live := fun _ _ st => let ⟨o, ho, _⟩ := st.1; ⟨o, ho⟩
  frame := fun _ _ _ st hk => ⟨st.1.at fun o e => hk it (by simp) o e, by
    obtain ⟨o, ho, r⟩ := st.2
    exact ⟨o, hk a (by simp) o ho, r⟩⟩
  item := fun i s Q E hi st hQ => by
    refine RZ.nextOf_tuple_item st.1 st.2 (x := items[i]) (by simp [hi]) fun h' hit' hs' => ?_
    refine hQ _ h' s.toks (by simp [hi]) ⟨hit', ?_⟩ hs'
    obtain ⟨o, ho, r⟩ := st.2
    exact ⟨o, hs'.extBut a o hne ho, r⟩
  done := fun s Q E st hE => RZ.nextOf_tuple_end hA st.1 st.2 (by simp) hE
open PySem.AutoSeq1 in
set_option maxHeartbeats 1000000 in
theorem meets_enumerate_newT (l : Addr) (items : Array Value) (o : Obj) (hc : o.cls = .type "tuple") (n : Nat) (hd : o.data = .seq items n) :
    Meets (Builtin.«enumerate.__new__» ⟨[.type "enumerate", .ref l], []⟩) (fun _ R s => s.heap.get? l = some o ∧
      R (.ok (.ret (.ref (s.heap.push { cls := .type "tuple_iterator", data := .fields #[.ref l, .int 0 0] }).objs.size)))
        { s with heap := (s.heap.push { cls := .type "tuple_iterator", data := .fields #[.ref l, .int 0 0] }).push { cls := .type "enumerate", data := .fields #[.none, .bool false, .ref s.heap.objs.size, rawInt 0, .none, .none] } }) :=
  .of_wp fun prog w A R s h => by
    obtain ⟨hp, g, d, tk, os⟩ := s; obtain ⟨hl, h⟩ := h
    have hsub := sub_enumerate
    have hL : Heap.IsTuple (Shared.heap ⟨hp, g, d, tk, os⟩) l items := ⟨_, hl, hc, n, hd⟩
    wp_walk using wpAny_loadPart' hl
    refine wpAny_stack_any fun st => wpAny_pure ?_
    split
    · rename_i c _ _ _ _ _
      cases (c == Value.type "enumerate")
      · wp_walk using wpAny_loadPart' hl, wpAny_pyIter_tuple hL
        exact ⟨_, rfl, h⟩
      · wp_walk using wpAny_loadPart' hl, wpAny_pyIter_tuple hL
        exact ⟨_, rfl, h⟩
    · wp_walk using wpAny_loadPart' hl, wpAny_pyIter_tuple hL
      exact ⟨_, rfl, h⟩
theorem call_enumerate_tuple {prog : Program} {w : World} {A : Around} {E : Value → Shared → Prop} {s : Shared} {l : Addr} {items : Array Value} {Q : Value → Shared → Prop} (hL : s.heap.IsTuple l items)
    (h : ∀ h', IsEnum h' (s.heap.objs.size + 1) s.heap.objs.size 0 .none → h'.IsTupleIter s.heap.objs.size l 0 → h'.objs.size = s.heap.objs.size + 2 →
      (∀ b o, s.heap.get? b = some o → h'.get? b = some o) → Q (.ref (s.heap.objs.size + 1)) { s with heap := h' }) :
    wpAny (model prog w) A (call (.type "enumerate") [.ref l]) Q E s := by
  obtain ⟨o, hl, hc, n, hd⟩ := hL
  refine callType_new F.called_enumerate (by decide) (F.typeCall_enumerate_1 _) (F.newCall_enumerate_1 _) (fun obj => F.args_object_init_2 obj _) F.entry_enumerate_new
    (meets_enumerate_newT l items o hc n hd) ⟨hl, ?_⟩
  have hz : (s.heap.push { cls := .type "tuple_iterator", data := .fields #[.ref l, .int 0 0] }).objs.size = s.heap.objs.size + 1 := Heap.size_push ..
  show _ ∧ _
  rw [hz]
  have he : IsEnum ((s.heap.push { cls := .type "tuple_iterator", data := .fields #[.ref l, .int 0 0] }).push
      { cls := .type "enumerate", data := .fields #[.none, .bool false, .ref s.heap.objs.size, rawInt 0, .none, .none] }) (s.heap.objs.size + 1) s.heap.objs.size 0 .none := by
    have := Heap.get?_push_size (s.heap.push { cls := .type "tuple_iterator", data := .fields #[.ref l, .int 0 0] })
      (o := { cls := .type "enumerate", data := .fields #[.none, .bool false, .ref s.heap.objs.size, rawInt 0, .none, .none] }) rfl
    rw [hz] at this; exact this
  refine ⟨⟨_, he, rfl⟩, h _ he ⟨_, Heap.get?_push_of_some _ (Heap.get?_push_size _ rfl), rfl, rfl⟩ (by rw [Heap.size_push, hz]) fun b o x => Heap.get?_push_of_some _ (Heap.get?_push_of_some _ x)⟩
/-- the tuple at a, each item in a new pair -/
def IteT (K : PySem.W.Frag) (a : Addr) : It :=
  ⟨fun i H => ∃ (xs : List V) (x : V), SqT K H a xs ∧ xs[i]? = some x, fun i H v H' => ∃ T x, v = .ref T ∧ H T = none ∧ H' = upd H T (.tup [.int (i : Nat), x]) ∧ ∀ xs, SqT K H a xs → xs[i]? = some x, fun i H => ∃ xs : List V, SqT K H a xs ∧ xs.length = i⟩
theorem turn_enumT {P : Program} {w : World} {K : PySem.W.Frag} {elts : List Expr} {kk : Nat} {tpos : Pos} (a e it : Addr) :
    Turn P w K (.Tuple elts kk tpos) (IteT K a) [e, it] e (fun i h => (∃ old, IsEnum h e it ((i : Nat) : Int) old) ∧ h.IsTupleIter it a i ∧ e ≠ it) where
  mem := by simp
  obj := fun i h st b hb => by
    obtain ⟨⟨old, he⟩, ⟨o, ho, hc, hd⟩, _⟩ := st
    have e' : b = e ∨ b = it := by simpa using hb
    rcases e' with z | z
    · rw [z]; exact ⟨_, he, fun v q => nomatch q⟩
    · rw [z]; exact ⟨o, ho, fun v q => by rw [hd] at q; cases q⟩
  keep := fun i h h' st k => let ⟨⟨old, he⟩, hi, hne⟩ := st; ⟨⟨old, k e (by simp) _ he⟩, hi.at fun o q => k it (by simp) o q, hne⟩
  item := by
    intro X hP hw hK hc i pins s σ H E I hf st hg
    subst hP hw hK
    obtain ⟨⟨old, he⟩, hit, hne⟩ := st
    obtain ⟨xs, x, hq, hx⟩ := hg
    obtain ⟨its, rv, p, hz⟩ := I.tuple hq
    obtain ⟨u, hu, ru⟩ := rv.get hx
    have hel : e < s.heap.objs.size := Heap.lt_size he
    have hil : it < s.heap.objs.size := by obtain ⟨_, q, _⟩ := hit; exact Heap.lt_size q
    have hpt : s.heap.IsTuple a its.toArray := p
    have hai : a ≠ it := fun z => by
      obtain ⟨o1, h1, c1, _⟩ := hpt
      obtain ⟨o2, h2, c2, _⟩ := hit
      rw [z, h2] at h1
      cases h1
      rw [c2] at c1
      exact absurd (Value.type.inj c1) (by decide)
    have hae : e ≠ a := fun z => by
      obtain ⟨o1, h1, c1, _⟩ := hpt
      rw [← z, he] at h1
      cases h1
      exact absurd (Value.type.inj c1) (by decide)
    have hil2 : i < its.toArray.size := by
      rw [List.size_toArray]
      exact (List.getElem?_eq_some_iff.mp hu).1
    refine wpAny_pyNext_enum_itemD (draws_tuple (A := X.A.in1) (I.ok.hd hc) it a its.toArray hai) he ⟨hit, hpt⟩ hil2 hne (by simp only [List.mem_cons, List.not_mem_nil, or_false, not_or]; exact ⟨hne, hae⟩) fun y h' tk hy ho hst hT hsz hk => ?_
    have hyu : y = u := by
      have : its[i]? = some y := by simpa using hy
      rw [hu] at this
      exact (Option.some.inj this).symm
    subst hyu
    have hit' := hst.1
    refine ⟨_, rfl, wpAny_letOwnedTupleGo_enum (s := { s with heap := h', toks := tk + 1 }) ho fun h'' he' sb => ?_⟩
    have hT2 : h''.get? s.heap.objs.size = some { cls := .type "tuple", data := .seq #[.int i tk, y] } := (sb.2 _ (Nat.ne_of_gt hel)).trans hT
    have new : ObjOk X.prog X.w (upd H s.heap.objs.size (.tup [.int (i : Nat), x])) h'' s.heap.objs.size (.tup [.int (i : Nat), x]) :=
      ⟨by show 2 ≤ sizeLine; decide, [.int i tk, y], .cons ⟨_, rfl⟩ (.cons ru .nil), ⟨_, hT2, rfl, _, rfl⟩⟩
    have I1 : Inv X pins σ (upd H s.heap.objs.size (.tup [.int (i : Nat), x])) { s with heap := h'', toks := tk + 1 } :=
      I.turnedNew (ch := [e, it]) (fun b ob hb q => (sb.2 b (fun z => hb (by simp [z]))).trans (hk b ob (fun z => hb (by simp [z])) (fun z => hb (by simp [z])) q)) hf (Nat.le_refl _) new
    refine ⟨.ref s.heap.objs.size, _, I1, rfl, ⟨_, x, rfl, I.hok.fresh (Nat.le_refl _), rfl, fun ys hy => by rw [I.tuple_inj hy hq]; exact hx⟩, ⟨⟨y, ?_⟩, hit'.at fun o q => (sb.2 it (Ne.symm hne)).trans q, hne⟩, fun b hb => ?_⟩
    · have e1 : ((i + 1 : Nat) : Int) = (i : Int) + 1 := by omega
      rw [e1]; exact he'
    · have hb' : b < s.heap.objs.size := by
        have e' : b = e ∨ b = it := by simpa using hb
        rcases e' with z | z
        · rw [z]; exact hel
        · rw [z]; exact hil
      rw [upd_ne (Nat.ne_of_lt hb')]
      exact (hf b hb).1
  done := by
    intro X hP hw hK hc i pins s σ H E I hf st hg
    subst hP hw hK
    obtain ⟨⟨old, he⟩, hit, hne⟩ := st
    obtain ⟨xs, hq, hx⟩ := hg
    obtain ⟨its, rv, p, hz⟩ := I.tuple hq
    obtain ⟨f0, f1, f2, f3, f4, f5⟩ := hf it (by simp)
    have hl := rv.length
    have hpt : s.heap.IsTuple a its.toArray := p
    have hai : a ≠ it := fun z => by
      obtain ⟨o1, h1, c1, _⟩ := hpt
      obtain ⟨o2, h2, c2, _⟩ := hit
      rw [z, h2] at h1
      cases h1
      rw [c2] at c1
      exact absurd (Value.type.inj c1) (by decide)
    have hn : i = its.toArray.size := by rw [List.size_toArray]; omega
    exact wpAny_pyNext_enum_endD (draws_tuple (A := X.A.in1) (I.ok.hd hc) it a its.toArray hai) he (by rw [← hn]; exact ⟨hit, hpt⟩) fun h' eb => ⟨rfl, I.turned (t' := s.toks) (fun b o hb q => eb b o hb q) f0 f1 f3 f4 f5⟩
  self := fun A i s Q E st h => let ⟨⟨_, he⟩, _⟩ := st; wpAny_pyIter_enum he h
def iEnumT (K : PySem.W.Frag) (ta : TA) : TI := fun σ H R => ta σ H fun vs H1 => ∃ a xs, vs = [.ref a] ∧ SqT K H1 a xs ∧ R (IteT K a) H1
theorem pi_enumT {X : Cx} {e : Expr} {ta : TA} {p pos tpos : Pos} {elts : List Expr} {kk : Nat} (hg : Gl X "enumerate") (hm : X.mg "enumerate" = none) (ha : PA X [e] ta) (hs : starEach [e] X.env = [(false, eval e X.env)] := by rfl) :
    PI X (.Tuple elts kk tpos) (.Call (.Name "enumerate" p) [e] [] pos) (iEnumT X.K ta) := by
  refine ⟨fun pins s σ H R I h => ?_⟩
  refine Call_ (ld_blt I hg hm boot_enumerate (PyProof.Rows.callWith_type1 (thn (ha.run pos pins s σ H _ I h) fun us s1 ⟨vs, H1, I1, r1, q1⟩ => ?_) hs rfl))
  obtain ⟨a, xs, ex, hq, q⟩ := q1
  subst ex
  cases r1 with
  | cons r rr =>
    cases rr
    cases r
    obtain ⟨its, rv, p', hz⟩ := I1.tuple hq
    refine call_enumerate_tuple p' fun h' he hit hsz hk => wpAny_pyIter_enum he ?_
    have I2 : Inv X pins σ H1 { s1 with heap := h' } := I1.kept (t' := s1.toks) hk
    refine ⟨s1.heap.objs.size + 1, [s1.heap.objs.size + 1, s1.heap.objs.size], _, _, H1, rfl, I2, turn_enumT a (s1.heap.objs.size + 1) s1.heap.objs.size, ⟨⟨.none, he⟩, hit, Nat.succ_ne_self _⟩, fun b hb => ?_, q⟩
    have e' : b = s1.heap.objs.size + 1 ∨ b = s1.heap.objs.size := by simpa using hb
    have hle : s1.heap.objs.size ≤ b := by
      rcases e' with z | z
      · rw [z]; exact Nat.le_add_right _ _
      · rw [z]; exact Nat.le_refl _
    exact I1.fpOk hle (I1.hok.fresh hle)
theorem gx_enum {α : Type} {K : PySem.W.Frag} {a : Addr} {xs : List V} {g : TG} {tt : TT} {te : TE} {vs : List Nat} {σ0 : L2.St} {End : α → Hp → Prop} {Yd : α → V → Hp → (α → Hp → Prop) → Prop} {a0 : α} {H0 : Hp} (Pv : Nat → α → Hp → Prop) (h0 : Pv 0 a0 H0)
    (hl : ∀ i c H, i ≤ xs.length → Pv i c H → SqT K H a xs)
    (hs : ∀ i x T c H, xs[i]? = some x → H T = none → Pv i c H → g (.ref T) σ0 (upd H T (.tup [.int (i : Nat), x])) fun σ2 H2 => wipe σ2 vs = σ0 ∧ tt σ2 H2 fun b H3 => if b = true then te σ2 H3 fun y H4 => Yd c y H4 (Pv (i + 1)) else Pv (i + 1) c H3) (hd : ∀ c H, Pv xs.length c H → End c H) :
    ∃ W : Nat → Nat → α → Hp → Prop, (∃ m, W 0 m a0 H0) ∧ tGx (IteT K a) g tt te σ0 vs End Yd W := by
  refine ⟨fun i m c H => m = xs.length - i ∧ i ≤ xs.length ∧ Pv i c H, ⟨xs.length, rfl, Nat.zero_le _, h0⟩, ?_⟩
  rintro i m c H ⟨rfl, hi, p⟩
  by_cases hlt : i < xs.length
  · have hx : xs[i]? = some xs[i] := List.getElem?_eq_getElem hlt
    refine .inr ⟨⟨xs, xs[i], hl i c H hi p, hx⟩, Pv (i + 1), fun c' H' p' => ⟨xs.length - (i + 1), by omega, rfl, hlt, p'⟩, fun x H' y => ?_⟩
    obtain ⟨T, x1, rfl, nT, rfl, e1⟩ := y
    exact hs i x1 T c H (e1 xs (hl i c _ hi p)) nT p
  · have e : i = xs.length := by omega
    subst e
    exact .inl ⟨⟨xs, hl _ c H hi p, rfl⟩, hd c H p⟩
theorem gx_str {α : Type} {z : Str} {g : TG} {tt : TT} {te : TE} {vs : List Nat} {σ0 : L2.St} {End : α → Hp → Prop} {Yd : α → V → Hp → (α → Hp → Prop) → Prop} {a0 : α} {H0 : Hp} (Pv : Nat → α → Hp → Prop) (h0 : Pv 0 a0 H0)
    (hs : ∀ i x c H, z.cps[i]? = some x → Pv i c H → g (.str ⟨#[x]⟩) σ0 H fun σ2 H2 => wipe σ2 vs = σ0 ∧ tt σ2 H2 fun b H3 => if b = true then te σ2 H3 fun y H4 => Yd c y H4 (Pv (i + 1)) else Pv (i + 1) c H3) (hd : ∀ c H, Pv z.cps.size c H → End c H) :
    ∃ W : Nat → Nat → α → Hp → Prop, (∃ m, W 0 m a0 H0) ∧ tGx (Its z) g tt te σ0 vs End Yd W := by
  refine ⟨fun i m c H => m = z.cps.size - i ∧ i ≤ z.cps.size ∧ Pv i c H, ⟨z.cps.size, rfl, Nat.zero_le _, h0⟩, ?_⟩
  rintro i m c H ⟨rfl, hi, p⟩
  by_cases hlt : i < z.cps.size
  · refine .inr ⟨hlt, Pv (i + 1), fun c' H' p' => ⟨z.cps.size - (i + 1), by omega, rfl, hlt, p'⟩, fun x H' y => ?_⟩
    obtain ⟨rfl, ch, hc, rfl⟩ := y
    exact hs i ch c _ hc p
  · have e : i = z.cps.size := by omega
    subst e
    exact .inl ⟨Nat.le_refl _, hd c H p⟩

section
variable {P : Program} {w : World} {K : PySem.W.Frag} {mg : Str → Option Value} {base : Heap}
theorem for_enumT {K : PySem.W.Frag} {a : Addr} {xs : List V} {g : TG} {tb : TS} {D : Ends} {σ : L2.St} {H : Hp} (Pv : Nat → L2.St → Hp → Prop) (h0 : Pv 0 σ H) (hl : ∀ i σ H, i ≤ xs.length → Pv i σ H → SqT K H a xs)
    (hs : ∀ (i : Nat) (x : V) (T : Addr) (σ : L2.St) (H : Hp), xs[i]? = some x → H T = none → Pv i σ H → g (.ref T) σ (upd H T (.tup [.int (i : Nat), x])) fun σ2 H2 => tb { D with nx := Pv (i + 1), ct := Pv (i + 1), bk := D.nx } σ2 H2) (hd : ∀ σ H, Pv xs.length σ H → D.nx σ H) :
    ∃ W : Nat → Nat → L2.St → Hp → Prop, (∃ m, W 0 m σ H) ∧ ∀ i m σ H, W i m σ H →
      ((IteT K a).stop i H ∧ D.nx σ H) ∨ ((IteT K a).go i H ∧ ∃ N : L2.St → Hp → Prop, (∀ σ' H', N σ' H' → ∃ m', m' < m ∧ W (i + 1) m' σ' H') ∧ ∀ x H', (IteT K a).yld i H x H' → g x σ H' fun σ2 H2 => tb { D with nx := N, ct := N, bk := D.nx } σ2 H2) := by
  refine ⟨fun i m σ H => m = xs.length - i ∧ i ≤ xs.length ∧ Pv i σ H, ⟨xs.length, rfl, Nat.zero_le _, h0⟩, ?_⟩
  rintro i m σ H ⟨rfl, hi, p⟩
  have q := hl i σ H hi p
  by_cases hlt : i < xs.length
  · have hx : xs[i]? = some xs[i] := List.getElem?_eq_getElem hlt
    refine .inr ⟨⟨xs, xs[i], q, hx⟩, Pv (i + 1), fun σ' H' p' => ⟨xs.length - (i + 1), by omega, rfl, hlt, p'⟩, fun x H' y => ?_⟩
    obtain ⟨T, x1, rfl, nT, rfl, e1⟩ := y
    exact hs i x1 T σ H (e1 xs q) nT p
  · have e : i = xs.length := by omega
    subst e
    exact .inl ⟨⟨xs, q, rfl⟩, hd σ H p⟩
/-! ### covers: the program's own -/
def ChAt (H : Hp) (c : Addr) (a b : List Int) : Prop := ∃ ra rb, H c = some (.tup [.ref ra, .ref rb]) ∧ H ra = some (.tup (a.map V.int)) ∧ H rb = some (.tup (b.map V.int))
theorem ChAt.gr {H H' : Hp} {c : Addr} {a b : List Int} (h : ChAt H c a b) (g : Gr H H') : ChAt H' c a b := by
  obtain ⟨ra, rb, h1, h2, h3⟩ := h
  exact ⟨ra, rb, g.tup h1, g.tup h2, g.tup h3⟩
structure ChOk (m : Nat) (a b : List Int) : Prop where
  la : a.length = m
  lb : b.length = m
  oa : Row01' a
  ob : Row01' b
  m6 : m ≤ 6
def pVs (ps : List (List Nat)) : List V := ps.map fun p => V.str (SX.S p)
def CovAt (H : Hp) (c : Addr) (m : Nat) (ps : List (List Nat)) : Prop := ∃ t, H c = some (.tup [.int m, .ref t]) ∧ H t = some (.tup (pVs ps))
theorem CovAt.gr {H H' : Hp} {c : Addr} {m : Nat} {ps : List (List Nat)} (h : CovAt H c m ps) (g : Gr H H') : CovAt H' c m ps := by
  obtain ⟨t, h1, h2⟩ := h
  exact ⟨t, g.tup h1, g.tup h2⟩
def CovOk (m : Nat) (ps : List (List Nat)) : Prop := ∀ p ∈ ps, ProdOk m p
theorem pV_at {ps : List (List Nat)} {i : Nat} {x : V} (h : (pVs ps)[i]? = some x) : ∃ p, ps[i]? = some p ∧ x = V.str (SX.S p) := by
  unfold pVs at h
  rw [List.getElem?_map] at h
  cases hz : ps[i]? with
  | none => rw [hz] at h; cases h
  | some u => rw [hz] at h; exact ⟨u, rfl, (Option.some.inj h).symm⟩

def sp_holds_row (T : Tx K mg) : Sp := fun vs H Q _ => ∃ (p : List Nat) (a : Addr) (r : List Int), vs = [.str (SX.S p), .ref a] ∧ H a = some (.tup (r.map V.int)) ∧ Row01' r ∧ p.length = r.length ∧ r.length ≤ 6 ∧ Tabs H T.tabs ∧ ∀ H', Gr H H' → Q (.bl (hrow p r)) H'
theorem ok_holds_row (T : Tx K mg) (B : Tb base T) : FnOk P w K mg base CX0 3 T.f_holds_row T.fd_holds_row ["product", "row"] (sp_holds_row T) := by
  refine T.F_holds_row.ok sc_holds_row (fun vs H Q E h => ?_) (fun cdv A outer s H vs Q E hr h => ?_)
  · obtain ⟨p, a, r, rfl, _⟩ := h
    rfl
  · obtain ⟨p, a, r, rfl, ha, ok, hl, l6, tabs, q⟩ := h
    refine ⟨_, (pss_one (ps_ret (pe_call (ok_holds_all T B) (hr.mono (by decide)) (by rfl) T.g_holds_all T.F_holds_all.kp T.b_holds_all .nil pass0 (pa_cons (pv 0) (pa_cons (pe_call (ok_show_row T B) (hr.mono (by decide)) (by rfl) T.g_show_row T.F_show_row.kp T.b_show_row .nil pass0 (pa_cons (pv 1) pa_nil)) pa_nil))))), ?_⟩
    refine ⟨.str (SX.S p), rfl, .ref a, rfl, a, r, rfl, ha, ok, l6, tabs, fun H1 g1 => ?_⟩
    exact ⟨p, rowS r, rfl, by unfold rowS; rw [List.length_map]; exact hl, g1.tabs tabs, fun H2 g2 => q H2 (g1.trans g2)⟩
def sp_cube_of (T : Tx K mg) : Sp := fun vs H Q _ => ∃ (c : Addr) (m : Nat) (a b : List Int), vs = [.ref c] ∧ ChAt H c a b ∧ ChOk m a b ∧ Tabs H T.tabs ∧ ∀ H', Gr H H' → Q (.str (SX.S (cubeM a b))) H'
theorem int_at {r : List Int} {i : Nat} {x : V} (h : (r.map V.int)[i]? = some x) : ∃ b, r[i]? = some b ∧ x = V.int b := by
  rw [List.getElem?_map] at h
  cases hz : r[i]? with
  | none => rw [hz] at h; cases h
  | some u => rw [hz] at h; exact ⟨u, rfl, (Option.some.inj h).symm⟩
theorem int_dec (x y : Int) : decide (V.int x = V.int y) = decide (x = y) := by
  by_cases z : x = y
  · rw [decide_eq_true z, decide_eq_true (by rw [z])]
  · rw [decide_eq_false z, decide_eq_false (fun k => z (V.int.inj k))]
theorem ok_cube_of (T : Tx K mg) (B : Tb base T) : FnOk P w K mg base CX0 2 T.f_cube_of T.fd_cube_of ["change"] (sp_cube_of T) := by
  refine okC T.F_cube_of sc_cube_of (fun vs H Q E h => ?_) (fun A outer s H vs Q E hr h => ?_)
  · obtain ⟨c, m, a, b, rfl, _⟩ := h
    rfl
  · obtain ⟨c, m, a, b, rfl, ⟨ra, rb, hc, ha, hb⟩, ok, tabs, q⟩ := h
    refine ⟨_, (pss_cons (ps_asg (pv 0) (pg_tup rfl (pgs_cons (pg_name (i := 1) sc_cube_of.nd rfl (by first | exact .inl rfl | exact .inr rfl)) (pgs_cons (pg_name (i := 2) sc_cube_of.nd rfl (by first | exact .inl rfl | exact .inr rfl)) pgs_nil)))) (pss_one (ps_ret (GxJ.pe_joinX (own := [("before", 3), ("after", 4)]) (k := 0) (hr.mono (by decide)) rfl sc_cube_of.nd pe_str B.TB_cube_of T.cd_cube_of rfl rfl (by decide +kernel) (blkOk_by (own := [("before", 3), ("after", 4)]) (N := ["change", "a", "b", "before", "after"]) (sc := defScope s_cube_of) (by decide +kernel)) (ZpG.pi_zip2 (by rfl) T.m_zip (pa_cons (pv 1) (pa_cons (pv 2) pa_nil))) (fun _ _ _ _ _ _ _ hr gd => (show PG _ _ (gTup K 2 _) from pg_tup rfl (pgs_cons (pg_name (i := 3) sc_cube_of.nd rfl (by first | exact .inl rfl | exact .inr rfl)) (pgs_cons (pg_name (i := 4) sc_cube_of.nd rfl (by first | exact .inl rfl | exact .inr rfl)) pgs_nil)))) (fun _ _ _ _ _ _ _ hr gd => pts_nil) (fun _ _ _ _ _ _ _ hr gd => (pe_ifExp (pt_cmpR op_eq (pv 3) (pv 4) (nomark _)) (pe_callTy call_str_int (by rfl) T.m_str (by decide +kernel) (pa_cons (pv 3) pa_nil)) pe_str)) (fun _ => rfl))))), ?_⟩
    have tab : GxR.TabG H T.P_cube_of := tabs _ (by simp [Tx.tabs])
    refine ⟨.ref c, rfl, c, _, rfl, SqT.of hc, rfl, _, _, rfl, _, _, rfl, rfl, ?_⟩
    refine ⟨_, rfl, .ref ra, rfl, .ref rb, rfl, .tu ra, .tu rb, _, _, rfl, SqT.of ha, SqT.of hb, tab, fun H2 tb2 => ?_⟩
    have g2 := Gr.tab tab tb2
    have la := ok.la
    have lb := ok.lb
    have m6 := ok.m6
    refine ZpG.gx_zip2 (K := K) (n := m) (xs1 := a.map V.int) (xs2 := b.map V.int) (by rw [List.length_map, la]) (by rw [List.length_map, lb]) (fun j ys H' => Gr H H' ∧ ys = ((((a.zip b).take j).map fun z => if z.1 = z.2 then wS z.1 else 45).map one).map V.str) ⟨g2, rfl⟩ (fun j _ H' _ z => ⟨SqT.of (z.1.tup ha), SqT.of (z.1.tup hb)⟩) ?_ ?_
    · rintro j x y t ys H' hx hy nt ⟨g, rfl⟩
      obtain ⟨u, hu, rfl⟩ := int_at hx
      obtain ⟨v, hv, rfl⟩ := int_at hy
      have u01 := ok.oa u (List.mem_of_getElem? hu)
      have g' := g.trans (Gr.none (o := .tup [V.int u, V.int v]) nt)
      have ez := zip_take_succ hu hv
      have ll : ((((((a.zip b).take j).map fun z => if z.1 = z.2 then wS z.1 else 45).map one).map V.str)).length < sizeLine := by
        rw [List.length_map, List.length_map, List.length_map, List.length_take, List.length_zip]
        exact Nat.lt_of_lt_of_le (show _ < 64 by omega) (by decide)
      refine ⟨t, _, rfl, SqT.of upd_same, rfl, _, _, rfl, _, _, rfl, rfl, rfl, ?_⟩
      refine ⟨.int u, rfl, .int v, rfl, rfl, _, rfl, ?_⟩
      rw [int_dec]
      refine ite2 (fun e => ?_) (fun e => ?_)
      · have e : u = v := of_decide_eq_true e
        refine ⟨.int u, rfl, u, rfl, by rcases u01 with rfl | rfl <;> decide, ll, g', ?_⟩
        rw [str01 u01, ez]
        simp [e]
      · have e : ¬ u = v := fun z => e (decide_eq_true z)
        refine ⟨ll, g', ?_⟩
        rw [dash_S, ez]
        simp [e]
    · rintro ys H' ⟨g, rfl⟩
      have : (a.zip b).length ≤ m := by rw [List.length_zip]; omega
      rw [List.take_of_length_le this]
      refine ⟨(cubeM a b).map one, rfl, joinOk_ones _ ?_, ?_⟩
      · unfold cubeM
        rw [List.length_map]
        omega
      · rw [join_one]
        exact q _ g
theorem cube_len {m : Nat} {a b : List Int} (ok : ChOk m a b) : (cubeM a b).length = m := by
  unfold cubeM
  rw [List.length_map, List.length_zip, ok.la, ok.lb, Nat.min_self]
def toldM (ps : List (List Nat)) (r : List Int) : Bool := ps.any fun p => hrow p r
def bI (b : Bool) : Int := if b = true then 1 else 0
theorem any_stop {α : Type} {l : List α} {f : α → Bool} {i : Nat} {a : α} (h : l[i]? = some a) (e : f a = true) : l.any f = true := List.any_eq_true.mpr ⟨a, List.mem_of_getElem? h, e⟩
def sp_told_of (T : Tx K mg) : Sp := fun vs H Q _ => ∃ (c a : Addr) (m : Nat) (ps : List (List Nat)) (r : List Int), vs = [.ref c, .ref a] ∧ CovAt H c m ps ∧ CovOk m ps ∧ H a = some (.tup (r.map V.int)) ∧ Row01' r ∧ r.length = m ∧ m ≤ 6 ∧ Tabs H T.tabs ∧ ∀ H', Gr H H' → Q (.int (bI (toldM ps r))) H'
theorem ok_told_of (T : Tx K mg) (B : Tb base T) : FnOk P w K mg base CX0 5 T.f_told_of T.fd_told_of ["cover", "row"] (sp_told_of T) := by
  refine okC T.F_told_of sc_told_of (fun vs H Q E h => ?_) (fun A outer s H vs Q E hr h => ?_)
  · obtain ⟨c, a, m, ps, r, rfl, _⟩ := h
    rfl
  · obtain ⟨c, a, m, ps, r, rfl, ⟨t, hc, ht⟩, okp, ha, ok, lr, m6, tabs, q⟩ := h
    refine ⟨_, (pss_one (ps_ret (pe_ifExp (pt_val (pe_anyX (own := [("product", 2)]) (k := 3) (hr.mono (by decide)) rfl sc_told_of.nd (by rfl) T.m_any (by decide +kernel) B.TB_told_of T.cd_told_of rfl rfl (by decide +kernel) (blkOk_by (own := [("product", 2)]) (N := ["cover", "row", "product"]) (sc := defScope s_told_of) (by decide +kernel)) (pi_tup (pe_ix ix_tup (pv 0) pe_int (fun _ _ => rfl))) (fun _ _ _ _ _ _ _ hr gd => (pg_name (i := 2) sc_told_of.nd rfl (by first | exact .inl rfl | exact .inr rfl))) (fun _ _ _ _ _ _ _ hr gd => pts_nil) (fun _ _ _ _ _ _ _ hr gd => (pe_call (ok_holds_row T B) (hr.mono (by decide)) (by rfl) T.g_holds_row T.F_holds_row.kp T.b_holds_row .nil pass0 (pa_cons (pv 2) (pa_cons (pv 1) pa_nil)))) (fun _ => rfl))) pe_int pe_int))), ?_⟩
    have tab : GxR.TabG H T.P_told_of := tabs _ (by simp [Tx.tabs])
    refine ⟨.ref c, rfl, c, _, _, .ref t, rfl, rfl, SqT.of hc, rfl, t, rfl, ⟨_, SqT.of ht⟩, tab, fun H2 tb2 => ?_⟩
    have g2 := Gr.tab tab tb2
    refine gx_tup (K := K) (a := t) (xs := pVs ps) (fun j _ H' => Gr H H' ∧ (ps.take j).any (fun p => hrow p r) = false) ⟨g2, rfl⟩ (fun j _ H' _ e => SqT.of (e.1.tup ht)) ?_ ?_
    · rintro j x _ H' hx ⟨g, ih⟩
      obtain ⟨p, hp, rfl⟩ := pV_at hx
      have okp' := okp p (List.mem_of_getElem? hp)
      refine ⟨rfl, .str (SX.S p), rfl, .ref a, rfl, p, a, r, rfl, g.tup ha, ok, by rw [okp'.1, lr], by omega, g.tabs tabs, fun H3 g3 => ?_⟩
      refine ⟨_, rfl, ite2 (fun e => ?_) (fun e => ⟨g.trans g3, ?_⟩)⟩
      · refine ⟨true, rfl, iteT ?_⟩
        have z := q H3 (g.trans g3)
        have e' : toldM ps r = true := any_stop hp e
        rw [e'] at z
        exact z
      · rw [List.take_add_one, hp, List.any_append, ih]
        simpa using e
    · rintro _ H' ⟨g, ih⟩
      refine ⟨false, rfl, iteF ?_⟩
      have : (pVs ps).length = ps.length := by unfold pVs; rw [List.length_map]
      rw [this, List.take_length] at ih
      have z := q H' g
      unfold toldM at z
      rw [ih] at z
      exact z
def firstH (ps : List (List Nat)) (a b : List Int) : Option Nat := ps.findIdx? fun p => hall p (cubeM a b)
def oV : Option Nat → V
  | none => .non
  | some k => .int k
def sp_first_holding (T : Tx K mg) : Sp := fun vs H Q _ => ∃ (t c : Addr) (m : Nat) (ps : List (List Nat)) (a b : List Int), vs = [.ref t, .ref c] ∧ H t = some (.tup (pVs ps)) ∧ CovOk m ps ∧ ChAt H c a b ∧ ChOk m a b ∧ Tabs H T.tabs ∧ ∀ H', Gr H H' → Q (oV (firstH ps a b)) H'
theorem find_hit {α : Type} {l : List α} {f : α → Bool} {i : Nat} {a : α} (h : l[i]? = some a) (n : ∀ j, j < i → ∀ x, l[j]? = some x → f x = false) (e : f a = true) : l.findIdx? f = some i := by
  rw [List.findIdx?_eq_some_iff_getElem]
  obtain ⟨hl, rfl⟩ := List.getElem?_eq_some_iff.mp h
  exact ⟨hl, e, fun j hj => by simpa using n j hj _ (List.getElem?_eq_getElem _)⟩
theorem find_miss {α : Type} {l : List α} {f : α → Bool} (n : ∀ j, j < l.length → ∀ x, l[j]? = some x → f x = false) : l.findIdx? f = none := by
  rw [List.findIdx?_eq_none_iff]
  intro x hx
  obtain ⟨i, hi, rfl⟩ := List.getElem_of_mem hx
  exact n i hi _ (List.getElem?_eq_getElem _)
theorem ok_first_holding (T : Tx K mg) (B : Tb base T) : FnOk P w K mg base CX0 3 T.f_first_holding T.fd_first_holding ["products", "change"] (sp_first_holding T) := by
  refine T.F_first_holding.ok sc_first_holding (fun vs H Q E h => ?_) (fun cdv A outer s H vs Q E hr h => ?_)
  · obtain ⟨t, c, m, ps, a, b, rfl, _⟩ := h
    rfl
  · obtain ⟨t, c, m, ps, a, b, rfl, ht, okp, hch, ok, tabs, q⟩ := h
    refine ⟨_, (pss_cons (ps_set (i := 2) sc_first_holding.nd rfl (by first | exact .inl rfl | exact .inr rfl) (pe_call (ok_cube_of T B) (hr.mono (by decide)) (by rfl) T.g_cube_of T.F_cube_of.kp T.b_cube_of .nil pass0 (pa_cons (pv 1) pa_nil))) (pss_cons (ps_for PassesOwn.never rfl (pi_enumT (by rfl) T.m_enumerate (pa_cons (pv 0) pa_nil)) (pg_tup rfl (pgs_cons (pg_name (i := 3) sc_first_holding.nd rfl (by first | exact .inl rfl | exact .inr rfl)) (pgs_cons (pg_name (i := 4) sc_first_holding.nd rfl (by first | exact .inl rfl | exact .inr rfl)) pgs_nil))) (pss_one (ps_if (pt_val (pe_call (ok_holds_all T B) (hr.mono (by decide)) (by rfl) T.g_holds_all T.F_holds_all.kp T.b_holds_all .nil pass0 (pa_cons (pv 4) (pa_cons (pv 2) pa_nil)))) (pss_one (ps_ret (pv 3))) pss_nil))) (pss_one (ps_ret pe_non)))), ?_⟩
    refine ⟨.ref c, rfl, c, m, a, b, rfl, hch, ok, tabs, fun H1 g1 => ?_⟩
    refine ⟨.ref t, rfl, t, _, rfl, SqT.of (g1.tup ht), for_enumT (K := K) (a := t) (xs := pVs ps) (fun i σ H' => ∃ y3 y4, σ = [some (.ref t), some (.ref c), some (.str (SX.S (cubeM a b))), y3, y4] ∧ Gr H H' ∧ ∀ j, j < i → ∀ x, ps[j]? = some x → hall x (cubeM a b) = false)
      ⟨_, _, rfl, g1, fun j hj => absurd hj (Nat.not_lt_zero _)⟩ (fun i σ H' _ ⟨_, _, _, g, _⟩ => SqT.of (g.tup ht)) ?_ ?_⟩
    · rintro i x t' σ H2 hx nt ⟨y3, y4, rfl, g2, no⟩
      obtain ⟨p, hp, rfl⟩ := pV_at hx
      have okp' := okp p (List.mem_of_getElem? hp)
      have g3 := g2.trans (Gr.none (o := .tup [V.int (i : Nat), V.str (SX.S p)]) nt)
      refine ⟨t', _, rfl, SqT.of upd_same, rfl, _, _, rfl, _, _, rfl, rfl, ?_⟩
      refine ⟨.str (SX.S p), rfl, .str (SX.S (cubeM a b)), rfl, p, cubeM a b, rfl, by rw [okp'.1, cube_len ok], g3.tabs tabs, fun H4 g4 => ⟨_, rfl, ite2 (fun e => ?_) (fun e => ?_)⟩⟩
      · refine ⟨.int (i : Nat), rfl, ?_⟩
        have z := q H4 (g3.trans g4)
        have e' : firstH ps a b = some i := find_hit hp no e
        rw [e'] at z
        exact z
      · refine ⟨_, _, rfl, g3.trans g4, fun j hj x' hx' => ?_⟩
        by_cases h : j < i
        · exact no j h x' hx'
        · have : j = i := by omega
          subst this
          rw [hp] at hx'
          cases Option.some.inj hx'
          exact Bool.eq_false_iff.mpr e
    · rintro σ H2 ⟨y3, y4, rfl, g2, no⟩
      have z := q H2 g2
      have : (pVs ps).length = ps.length := by unfold pVs; rw [List.length_map]
      have e' : firstH ps a b = none := find_miss fun j hj => no j (by rw [this]; exact hj)
      rw [e'] at z
      exact z
def flashM (a b : List Int) (p : List Nat) : Bool := meetM p (cubeM a b) && (!hrow p a && !hrow p b)
def sp_flashes (T : Tx K mg) : Sp := fun vs H Q _ => ∃ (p : List Nat) (c : Addr) (m : Nat) (a b : List Int), vs = [.str (SX.S p), .ref c] ∧ ProdOk m p ∧ ChAt H c a b ∧ ChOk m a b ∧ Tabs H T.tabs ∧ ∀ H', Gr H H' → Q (.bl (flashM a b p)) H'
theorem ok_flashes (T : Tx K mg) (B : Tb base T) : FnOk P w K mg base CX0 4 T.f_flashes T.fd_flashes ["product", "change"] (sp_flashes T) := by
  refine T.F_flashes.ok sc_flashes (fun vs H Q E h => ?_) (fun cdv A outer s H vs Q E hr h => ?_)
  · obtain ⟨p, c, m, a, b, rfl, _⟩ := h
    rfl
  · obtain ⟨p, c, m, a, b, rfl, okp, hch, ok, tabs, q⟩ := h
    refine ⟨_, (pss_cons (ps_asg (pv 1) (pg_tup rfl (pgs_cons (pg_name (i := 2) sc_flashes.nd rfl (by first | exact .inl rfl | exact .inr rfl)) (pgs_cons (pg_name (i := 3) sc_flashes.nd rfl (by first | exact .inl rfl | exact .inr rfl)) pgs_nil)))) (pss_one (ps_ret (pe_and (pe_call (ok_meet T B) (hr.mono (by decide)) (by rfl) T.g_meet T.F_meet.kp T.b_meet .nil pass0 (pa_cons (pv 0) (pa_cons (pe_call (ok_cube_of T B) (hr.mono (by decide)) (by rfl) T.g_cube_of T.F_cube_of.kp T.b_cube_of .nil pass0 (pa_cons (pv 1) pa_nil)) pa_nil))) (pe_and (pe_not (pe_call (ok_holds_row T B) (hr.mono (by decide)) (by rfl) T.g_holds_row T.F_holds_row.kp T.b_holds_row .nil pass0 (pa_cons (pv 0) (pa_cons (pv 2) pa_nil)))) (pe_one (pe_not (pe_call (ok_holds_row T B) (hr.mono (by decide)) (by rfl) T.g_holds_row T.F_holds_row.kp T.b_holds_row .nil pass0 (pa_cons (pv 0) (pa_cons (pv 3) pa_nil)))))))))), ?_⟩
    obtain ⟨ra, rb, hc, ha, hb⟩ := id hch
    have la := ok.la
    have lb := ok.lb
    have m6 := ok.m6
    refine ⟨.ref c, rfl, c, _, rfl, SqT.of hc, rfl, _, _, rfl, _, _, rfl, rfl, ?_⟩
    refine ⟨.str (SX.S p), rfl, .ref c, rfl, c, m, a, b, rfl, hch, ok, tabs, fun H1 g1 => ?_⟩
    refine ⟨p, cubeM a b, rfl, by rw [okp.1, cube_len ok], g1.tabs tabs, fun H2 g2 => ⟨_, rfl, ite2 (fun e => ?_) (fun e => ?_)⟩⟩
    · have g12 := g1.trans g2
      refine ⟨.str (SX.S p), rfl, .ref ra, rfl, p, ra, a, rfl, g12.tup ha, ok.oa, by rw [okp.1, la], by omega, g12.tabs tabs, fun H3 g3 => ⟨_, rfl, _, rfl, ite2 (fun e2 => ?_) (fun e2 => ?_)⟩⟩
      · have g13 := g12.trans g3
        refine ⟨.str (SX.S p), rfl, .ref rb, rfl, p, rb, b, rfl, g13.tup hb, ok.ob, by rw [okp.1, lb], by omega, g13.tabs tabs, fun H4 g4 => ⟨_, rfl, ?_⟩⟩
        have z := q H4 (g13.trans g4)
        unfold flashM at z
        rw [e, e2, Bool.true_and, Bool.true_and] at z
        exact z
      · have z := q H3 (g12.trans g3)
        unfold flashM at z
        rw [e, Bool.eq_false_iff.mpr e2, Bool.true_and, Bool.false_and] at z
        exact z
    · have z := q H2 (g1.trans g2)
      unfold flashM at z
      rw [Bool.eq_false_iff.mpr e, Bool.false_and] at z
      exact z

end
end Gk

set_option Elab.async false
set_option linter.all false
set_option maxRecDepth 100000
set_option maxHeartbeats 1000000
namespace Gk
open PySem PySem.Spec PyProof.Rows L2

section
variable {P : Program} {w : World} {K : PySem.W.Frag} {mg : Str → Option Value} {base : Heap}
def gapS : Str := Str.ofString "gap"
def heldS : Str := Str.ofString "held"
def meetsS : Str := Str.ofString "meets"
def clearS : Str := Str.ofString "clear"
def judD (ps : List (List Nat)) (a b : List Int) : PyData :=
  if toldM ps a = true ∧ toldM ps b = true then (match firstH ps a b with
    | none => .tuple [.str gapS]
    | some k => .tuple [.str heldS, .int k])
  else (match ps.findIdx? (flashM a b) with
    | some k => .tuple [.str meetsS, .int k]
    | none => .tuple [.str clearS])
theorem bI_ne {H : Hp} (b : Bool) : TruV K (.int (bI b)) H b := by cases b <;> rfl
def sp_judged (T : Tx K mg) : Sp := fun vs H Q _ => ∃ (cv c : Addr) (m : Nat) (ps : List (List Nat)) (a b : List Int), vs = [.ref cv, .ref c] ∧ CovAt H cv m ps ∧ CovOk m ps ∧ ChAt H c a b ∧ ChOk m a b ∧ Tabs H T.tabs ∧ ∀ r H', Gr H H' → Tk H' (.ref r) (judD ps a b) → Q (.ref r) H'
theorem ok_judged (T : Tx K mg) (B : Tb base T) : FnOk P w K mg base CX0 6 T.f_judged T.fd_judged ["cover", "change"] (sp_judged T) := by
  refine T.F_judged.ok sc_judged (fun vs H Q E h => ?_) (fun cdv A outer s H vs Q E hr h => ?_)
  · obtain ⟨cv, c, m, ps, a, b, rfl, _⟩ := h
    rfl
  · obtain ⟨cv, c, m, ps, a, b, rfl, hcv, okp, hch, ok, tabs, q⟩ := h
    refine ⟨_, (pss_cons (ps_asg (pv 1) (pg_tup rfl (pgs_cons (pg_name (i := 2) sc_judged.nd rfl (by first | exact .inl rfl | exact .inr rfl)) (pgs_cons (pg_name (i := 3) sc_judged.nd rfl (by first | exact .inl rfl | exact .inr rfl)) pgs_nil)))) (pss_cons (ps_set (i := 4) sc_judged.nd rfl (by first | exact .inl rfl | exact .inr rfl) (pe_ix ix_tup (pv 0) pe_int (fun _ _ => rfl))) (pss_cons (ps_if (pt_cut (pw_and (pt_truth (pe_call (ok_told_of T B) (hr.mono (by decide)) (by rfl) T.g_told_of T.F_told_of.kp T.b_told_of .nil pass0 (pa_cons (pv 0) (pa_cons (pv 2) pa_nil))) (by intro _; rfl)) (pw_and1 (pt_truth (pe_call (ok_told_of T B) (hr.mono (by decide)) (by rfl) T.g_told_of T.F_told_of.kp T.b_told_of .nil pass0 (pa_cons (pv 0) (pa_cons (pv 3) pa_nil))) (by intro _; rfl)))).pt) (pss_cons (ps_set (i := 5) sc_judged.nd rfl (by first | exact .inl rfl | exact .inr rfl) (pe_call (ok_first_holding T B) (hr.mono (by decide)) (by rfl) T.g_first_holding T.F_first_holding.kp T.b_first_holding .nil pass0 (pa_cons (pv 4) (pa_cons (pv 1) pa_nil)))) (pss_one (ps_ret (pe_ifExp (pt_cmpR op_isN (pv 5) pe_non (nomark _)) (pe_tup (pa_cons pe_str pa_nil)) (pe_tup (pa_cons pe_str (pa_cons (pv 5) pa_nil))))))) pss_nil) (pss_cons (ps_for PassesOwn.never rfl (pi_enumT (by rfl) T.m_enumerate (pa_cons (pv 4) pa_nil)) (pg_tup rfl (pgs_cons (pg_name (i := 5) sc_judged.nd rfl (by first | exact .inl rfl | exact .inr rfl)) (pgs_cons (pg_name (i := 6) sc_judged.nd rfl (by first | exact .inl rfl | exact .inr rfl)) pgs_nil))) (pss_one (ps_if (pt_val (pe_call (ok_flashes T B) (hr.mono (by decide)) (by rfl) T.g_flashes T.F_flashes.kp T.b_flashes .nil pass0 (pa_cons (pv 6) (pa_cons (pv 1) pa_nil)))) (pss_one (ps_ret (pe_tup (pa_cons pe_str (pa_cons (pv 5) pa_nil))))) pss_nil))) (pss_one (ps_ret (pe_tup (pa_cons pe_str pa_nil)))))))), ?_⟩
    obtain ⟨ra, rb, hc, ha, hb⟩ := id hch
    obtain ⟨t, h1, ht⟩ := id hcv
    have la := ok.la
    have lb := ok.lb
    have m6 := ok.m6
    refine ⟨.ref c, rfl, c, _, rfl, SqT.of hc, rfl, _, _, rfl, _, _, rfl, rfl, ?_⟩
    refine ⟨.ref cv, rfl, cv, _, _, .ref t, rfl, rfl, SqT.of h1, rfl, ?_⟩
    -- both 1
    refine ⟨fun z H' => Gr H H' ∧ (z = true ↔ toldM ps a = true ∧ toldM ps b = true), ?_, ?_⟩
    · refine ⟨.ref cv, rfl, .ref ra, rfl, cv, ra, m, ps, a, rfl, hcv, okp, ha, ok.oa, la, m6, tabs, fun H1 g1 => ⟨_, bI_ne _, ite2 (fun e => ?_) (fun e => ⟨g1, Iff.intro (fun z => by cases z) (fun z => absurd z.1 e)⟩)⟩⟩
      refine ⟨.ref cv, rfl, .ref rb, rfl, cv, rb, m, ps, b, rfl, hcv.gr g1, okp, g1.tup hb, ok.ob, lb, m6, g1.tabs tabs, fun H2 g2 => ⟨_, bI_ne _, g1.trans g2, Iff.intro (fun z => ⟨e, z⟩) (fun z => z.2)⟩⟩
    · rintro z H2 ⟨g2, hz⟩
      refine ite2 (fun e => ?_) (fun e => ?_)
      · have e' := hz.mp e
        refine ⟨.ref t, rfl, .ref c, rfl, t, c, m, ps, a, b, rfl, g2.tup ht, okp, hch.gr g2, ok, g2.tabs tabs, fun H3 g3 => ?_⟩
        have g23 := g2.trans g3
        have ej : judD ps a b = (match firstH ps a b with | none => .tuple [.str gapS] | some k => .tuple [.str heldS, .int k]) := if_pos e'
        cases hf : firstH ps a b with
        | none =>
          rw [hf] at ej
          refine ⟨.non, rfl, rfl, _, rfl, iteT ⟨sl1, fun r nr => ?_⟩⟩
          refine q r _ (g23.trans (Gr.none nr)) ?_
          rw [ej]
          exact .tup upd_same (.cons (.str _) .nil)
        | some k =>
          rw [hf] at ej
          refine ⟨.int k, rfl, rfl, _, rfl, iteF ⟨.int k, rfl, sl2, fun r nr => ?_⟩⟩
          refine q r _ (g23.trans (Gr.none nr)) ?_
          rw [ej]
          exact .tup upd_same (.cons (.str _) (.cons (.int _) .nil))
      · have e' : ¬ (toldM ps a = true ∧ toldM ps b = true) := fun k => e (hz.mpr k)
        have ej : judD ps a b = (match ps.findIdx? (flashM a b) with | some k => .tuple [.str meetsS, .int k] | none => .tuple [.str clearS]) := if_neg e'
        refine ⟨.ref t, rfl, t, _, rfl, SqT.of (g2.tup ht), for_enumT (K := K) (a := t) (xs := pVs ps) (fun i σ H' => ∃ y5 y6, σ = [some (.ref cv), some (.ref c), some (.ref ra), some (.ref rb), some (.ref t), y5, y6] ∧ Gr H H' ∧ ∀ j, j < i → ∀ x, ps[j]? = some x → flashM a b x = false)
          ⟨_, _, rfl, g2, fun j hj => absurd hj (Nat.not_lt_zero _)⟩ (fun i σ H' _ ⟨_, _, _, g, _⟩ => SqT.of (g.tup ht)) ?_ ?_⟩
        · rintro i x t' σ H3 hx nt ⟨y5, y6, rfl, g3, no⟩
          obtain ⟨p, hp, rfl⟩ := pV_at hx
          have okp' := okp p (List.mem_of_getElem? hp)
          have g4 := g3.trans (Gr.none (o := .tup [V.int (i : Nat), V.str (SX.S p)]) nt)
          refine ⟨t', _, rfl, SqT.of upd_same, rfl, _, _, rfl, _, _, rfl, rfl, ?_⟩
          refine ⟨.str (SX.S p), rfl, .ref c, rfl, p, c, m, a, b, rfl, okp', hch.gr g4, ok, g4.tabs tabs, fun H5 g5 => ⟨_, rfl, ite2 (fun e => ?_) (fun e => ?_)⟩⟩
          · refine ⟨.int (i : Nat), rfl, sl2, fun r nr => ?_⟩
            refine q r _ ((g4.trans g5).trans (Gr.none nr)) ?_
            rw [ej, find_hit hp no e]
            exact .tup upd_same (.cons (.str _) (.cons (.int _) .nil))
          · refine ⟨_, _, rfl, g4.trans g5, fun j hj x' hx' => ?_⟩
            by_cases h : j < i
            · exact no j h x' hx'
            · have : j = i := by omega
              subst this
              rw [hp] at hx'
              cases Option.some.inj hx'
              exact Bool.eq_false_iff.mpr e
        · rintro σ H3 ⟨y5, y6, rfl, g3, no⟩
          have : (pVs ps).length = ps.length := by unfold pVs; rw [List.length_map]
          refine ⟨sl1, fun r nr => ?_⟩
          refine q r _ (g3.trans (Gr.none nr)) ?_
          rw [ej, find_miss fun j hj => no j (by rw [this]; exact hj)]
          exact .tup upd_same (.cons (.str _) .nil)
def judS (ps : List (List Nat)) (a b : List Int) : Str :=
  if toldM ps a = true ∧ toldM ps b = true then (match firstH ps a b with
    | none => gapS
    | some _ => heldS)
  else (match ps.findIdx? (flashM a b) with
    | some _ => meetsS
    | none => clearS)
theorem jud_head (ps : List (List Nat)) (a b : List Int) : ∃ r, judD ps a b = .tuple (.str (judS ps a b) :: r) := by
  unfold judD judS
  split
  · cases firstH ps a b with
    | none => exact ⟨_, rfl⟩
    | some k => exact ⟨_, rfl⟩
  · cases ps.findIdx? (flashM a b) with
    | none => exact ⟨_, rfl⟩
    | some k => exact ⟨_, rfl⟩
def froM (ps : List (List Nat)) (a b : List Int) : Bool := decide (judS ps a b = gapS) || decide (judS ps a b = meetsS)
def cwD (ps : List (List Nat)) (a b : List Int) : PyData := .tuple [.int (bI (toldM ps a)), .int (bI (toldM ps b)), .bool (froM ps a b)]
theorem eqV_str (x y : Str) : eqV (.str x) (.str y) = decide (y = x) := by
  show (x == y) = _
  by_cases z : y = x
  · subst z
    simp
  · rw [decide_eq_false z]
    exact beq_eq_false_iff_ne.mpr fun k => z k.symm
def sp_cover_word (T : Tx K mg) : Sp := fun vs H Q _ => ∃ (cv c : Addr) (m : Nat) (ps : List (List Nat)) (a b : List Int), vs = [.ref cv, .ref c] ∧ CovAt H cv m ps ∧ CovOk m ps ∧ ChAt H c a b ∧ ChOk m a b ∧ Tabs H T.tabs ∧ ∀ r H', Gr H H' → Tk H' (.ref r) (cwD ps a b) → Q (.ref r) H'
theorem ok_cover_word (T : Tx K mg) (B : Tb base T) : FnOk P w K mg base CX0 7 T.f_cover_word T.fd_cover_word ["cover", "change"] (sp_cover_word T) := by
  refine T.F_cover_word.ok sc_cover_word (fun vs H Q E h => ?_) (fun cdv A outer s H vs Q E hr h => ?_)
  · obtain ⟨cv, c, m, ps, a, b, rfl, _⟩ := h
    rfl
  · obtain ⟨cv, c, m, ps, a, b, rfl, hcv, okp, hch, ok, tabs, q⟩ := h
    refine ⟨_, (pss_cons (ps_asg (pv 1) (pg_tup rfl (pgs_cons (pg_name (i := 2) sc_cover_word.nd rfl (by first | exact .inl rfl | exact .inr rfl)) (pgs_cons (pg_name (i := 3) sc_cover_word.nd rfl (by first | exact .inl rfl | exact .inr rfl)) pgs_nil)))) (pss_one (ps_ret (pe_tup (pa_cons (pe_call (ok_told_of T B) (hr.mono (by decide)) (by rfl) T.g_told_of T.F_told_of.kp T.b_told_of .nil pass0 (pa_cons (pv 0) (pa_cons (pv 2) pa_nil))) (pa_cons (pe_call (ok_told_of T B) (hr.mono (by decide)) (by rfl) T.g_told_of T.F_told_of.kp T.b_told_of .nil pass0 (pa_cons (pv 0) (pa_cons (pv 3) pa_nil))) (pa_cons (pe_cmpR op_in_seq (pe_ix ix_tup (pe_call (ok_judged T B) (hr.mono (by decide)) (by rfl) T.g_judged T.F_judged.kp T.b_judged .nil pass0 (pa_cons (pv 0) (pa_cons (pv 1) pa_nil))) pe_int (fun _ _ => rfl)) (pe_tup (pa_cons pe_str (pa_cons pe_str pa_nil))) rfl) pa_nil))))))), ?_⟩
    obtain ⟨ra, rb, hc, ha, hb⟩ := id hch
    have la := ok.la
    have lb := ok.lb
    have m6 := ok.m6
    refine ⟨.ref c, rfl, c, _, rfl, SqT.of hc, rfl, _, _, rfl, _, _, rfl, rfl, ?_⟩
    refine ⟨.ref cv, rfl, .ref ra, rfl, cv, ra, m, ps, a, rfl, hcv, okp, ha, ok.oa, la, m6, tabs, fun H1 g1 => ?_⟩
    refine ⟨.ref cv, rfl, .ref rb, rfl, cv, rb, m, ps, b, rfl, hcv.gr g1, okp, g1.tup hb, ok.ob, lb, m6, g1.tabs tabs, fun H2 g2 => ?_⟩
    have g12 := g1.trans g2
    refine ⟨.ref cv, rfl, .ref c, rfl, cv, c, m, ps, a, b, rfl, hcv.gr g12, okp, hch.gr g12, ok, g12.tabs tabs, fun r H3 g3 tr => ?_⟩
    obtain ⟨rest, er⟩ := jud_head ps a b
    rw [er] at tr
    obtain ⟨r', xs, e, hr', tx⟩ := tr.tup_inv
    cases e
    cases tx with
    | cons t1 t2 =>
      cases t1
      refine ⟨r, _, _, .str (judS ps a b), rfl, rfl, SqT.of hr', atI_nat (j := 0) rfl, sl2, fun u nu => ?_⟩
      refine ⟨u, _, rfl, .inr (SqT.of upd_same), rfl, rfl, sl3, fun r2 n2 => ?_⟩
      refine q r2 _ (((g12.trans g3).trans (Gr.none nu)).trans (Gr.none n2)) ?_
      have ev : (if false = true then !inV (.str (judS ps a b)) [V.str (Str.ofString "gap"), V.str (Str.ofString "meets")] else inV (.str (judS ps a b)) [V.str (Str.ofString "gap"), V.str (Str.ofString "meets")]) = froM ps a b := by
        show (eqV (.str (Str.ofString "gap")) (.str (judS ps a b)) || (eqV (.str (Str.ofString "meets")) (.str (judS ps a b)) || false)) = _
        rw [eqV_str, eqV_str, Bool.or_false]
        rfl
      rw [ev]
      exact .tup upd_same (.cons (.int _) (.cons (.int _) (.cons (.bl _) .nil)))

end
end Gk

set_option Elab.async false
set_option linter.all false
set_option maxRecDepth 100000
set_option maxHeartbeats 1000000
namespace Gk
open PySem PySem.Spec PyProof.Rows L2
section
variable {P : Program} {w : World} {K : PySem.W.Frag} {mg : Str → Option Value} {base : Heap}
/-! ### changes drawn -/
theorem ChAt.same {H H' : Hp} {c : Addr} {a b : List Int} (h : ChAt H c a b) (g : Same H H') : ChAt H' c a b := by
  obtain ⟨ra, rb, h1, h2, h3⟩ := h
  exact ⟨ra, rb, g _ _ h1, g _ _ h2, g _ _ h3⟩
theorem ChAt.ts {H H' : Hp} {c : Addr} {a b : List Int} (h : ChAt H c a b) (g : Ts H H') : ChAt H' c a b := by
  obtain ⟨ra, rb, h1, h2, h3⟩ := h
  exact ⟨ra, rb, g _ _ h1, g _ _ h2, g _ _ h3⟩
def sp_change (K : PySem.W.Frag) : Sp := fun vs H Q _ => ∃ (d l : Addr) (n : Int) (m : Nat), vs = [.ref d, .int m] ∧ DeckD H d l n ∧ n < 800000 ∧ 1 ≤ m ∧ m ≤ 6 ∧ ∀ (c : Addr) (a b : List Int) (H' : Hp), DeckD H' d l (n + 13) → Fr d l H H' → ChAt H' c a b → ChOk m a b → Q (.ref c) H'
theorem ok_change (T : Tx K mg) : FnOk P w K mg base CX0 3 T.f_change T.fd_change ["_law_deck_here", "_law_many_here"] (sp_change K) := by
  refine T.F_change.ok sc_change (fun vs H Q E h => ?_) (fun cdv A outer s H vs Q E hr h => ?_)
  · obtain ⟨d, l, n, m, rfl, _⟩ := h
    rfl
  · obtain ⟨d, l, n, m, rfl, D, hn, m1, m6, q⟩ := h
    refine ⟨_, (pss_cons (ps_set (i := 2) sc_change.nd rfl (by first | exact .inl rfl | exact .inr rfl) (pe_call (ok_draw T) (hr.mono (by decide)) (by rfl) T.g_draw T.F_draw.kp T.b_draw .nil pass0 (pa_cons (pv 0) (pa_cons pe_int pa_nil)))) (pss_cons (ps_set (i := 3) sc_change.nd rfl (by first | exact .inl rfl | exact .inr rfl) (pe_call (ok_row T) (hr.mono (by decide)) (by rfl) T.g_row T.F_row.kp T.b_row .nil pass0 (pa_cons (pv 0) (pa_cons (pv 1) pa_nil)))) (pss_cons (ps_if (pt_cmpR op_eq (pv 2) pe_int (nomark _)) (pss_one (ps_ret (pe_tup (pa_cons (pv 3) (pa_cons (pv 3) pa_nil))))) pss_nil) (pss_cons (ps_if (pt_cmpR op_eq (pv 2) pe_int (nomark _)) (pss_one (ps_ret (pe_tup (pa_cons (pv 3) (pa_cons (pe_callTy call_tuple_of (by rfl) T.m_tuple (by decide +kernel) (pa_cons (pe_lc (own := [("_law_worth", 5)]) (by rfl) sc_change.nd (pi_tup (pv 3)) (blkOk_by (own := [("_law_worth", 5)]) (N := ["_law_deck_here", "_law_many_here", "_law_way", "_law_row_here", "_law_place", "_law_worth"]) (sc := defScope s_change) (by decide +kernel)) (fun _ _ _ _ _ => (pg_name (i := 5) sc_change.nd rfl (by first | exact .inl rfl | exact .inr rfl))) (fun _ _ _ _ _ => pts_nil) (fun _ _ _ _ _ => (pe_op op_sub pe_int (pv 5)))) pa_nil)) pa_nil))))) pss_nil) (pss_cons (ps_if (pt_cmpR op_lt (pv 2) pe_int (nomark _)) (pss_cons (ps_set (i := 4) sc_change.nd rfl (by first | exact .inl rfl | exact .inr rfl) (pe_call (ok_draw T) (hr.mono (by decide)) (by rfl) T.g_draw T.F_draw.kp T.b_draw .nil pass0 (pa_cons (pv 0) (pa_cons (pv 1) pa_nil)))) (pss_one (ps_ret (pe_tup (pa_cons (pv 3) (pa_cons (pe_op op_catA (pe_op op_catA (pe_slice sl_tupA (pv 3) po_none (po_some (pv 4))) (pe_tup (pa_cons (pe_op op_sub pe_int (pe_ix ix_tup (pv 3) (pv 4) (fun _ _ => rfl))) pa_nil))) (pe_slice sl_tupA (pv 3) (po_some (pe_op op_add (pv 4) pe_int)) po_none)) pa_nil)))))) pss_nil) (pss_one (ps_ret (pe_tup (pa_cons (pv 3) (pa_cons (pe_call (ok_row T) (hr.mono (by decide)) (by rfl) T.g_row T.F_row.kp T.b_row .nil pass0 (pa_cons (pv 0) (pa_cons (pv 1) pa_nil))) pa_nil)))))))))), ?_⟩
    refine ⟨.ref d, rfl, d, l, 8, _, rfl, D, by omega, by decide, by decide, fun H1 x D1 fr1 x0 x1 => ?_⟩
    refine ⟨.ref d, rfl, .int m, rfl, d, l, _, m, rfl, D1, by omega, m6, fun p bs H2 D2 fr2 lb okb hp => ?_⟩
    have fr12 := fr1.trans fr2
    refine ⟨.int x, rfl, rfl, _, rfl, ite2 (fun _ => ?_) (fun _ => ?_)⟩
    · refine ⟨.ref p, rfl, .ref p, rfl, sl2, fun c nc => ?_⟩
      have s3 := same_upd (o := HO.tup [V.ref p, .ref p]) nc
      exact q c bs bs _ ((D2.same s3).mono (by omega)) (fr12.trans (Fr.of s3)) ⟨p, p, upd_same, s3 _ _ hp, s3 _ _ hp⟩ ⟨lb, lb, okb, okb, m6⟩
    refine ⟨.int x, rfl, rfl, _, rfl, ite2 (fun _ => ?_) (fun _ => ?_)⟩
    · refine ⟨.ref p, rfl, .ref p, rfl, p, rfl, ⟨_, SqT.of hp⟩, fun L nL => ?_⟩
      refine lc_tup (K := K) (a := p) (xs := bs.map V.int) (fun j H' => Same H2 (hd1 L H') ∧ H' L = some (.lst (((bs.take j).map fun b => 1 - b).map V.int))) ⟨hd1_of (same_upd nL) nL, upd_same⟩ (fun j H' _ z => SqT.of (hd1_le _ _ (z.1 _ _ hp))) ?_ ?_
      · rintro j v H3 hv ⟨s3, hL⟩
        obtain ⟨b, hb, rfl⟩ := int_at hv
        refine ⟨rfl, .int b, rfl, _, _, rfl, rfl, _, hL, ?_, s3.trans hd1_upd, ?_⟩
        · rw [List.length_map, List.length_map, List.length_take]
          exact Nat.lt_of_lt_of_le (show _ < 64 by omega) (by decide)
        · rw [upd_same, List.take_add_one, hb]
          simp
      · rintro H3 ⟨s3, hL⟩
        rw [List.length_map, List.take_length] at hL
        have s23 : Same H2 H3 := fun b o e => hd1_le _ _ (s3 _ _ e)
        refine ⟨L, _, rfl, .inl ⟨SqL.of hL, fun t nt => ⟨sl2, fun c nc => ?_⟩⟩⟩
        have s4 := same_upd (o := HO.tup ((bs.map fun b => 1 - b).map V.int)) nt
        have s5 := same_upd (o := HO.tup [V.ref p, .ref t]) nc
        have sa := (s23.trans s4).trans s5
        refine q c bs (bs.map fun b => 1 - b) _ ((D2.same sa).mono (by omega)) (fr12.trans (Fr.of sa)) ⟨p, t, upd_same, sa _ _ hp, s5 _ _ upd_same⟩ ⟨lb, by rw [List.length_map, lb], okb, fun y hy => ?_, m6⟩
        obtain ⟨b, hb, rfl⟩ := List.mem_map.mp hy
        have := okb b hb
        omega
    refine ⟨.int x, rfl, _, _, rfl, rfl, _, rfl, ite2 (fun _ => ?_) (fun _ => ?_)⟩
    · refine ⟨.ref d, rfl, .int m, rfl, d, l, m, _, rfl, D2, by omega, by omega, by omega, fun H3 y D3 fr3 y0 y1 => ?_⟩
      obtain ⟨k, rfl⟩ := Int.eq_ofNat_of_zero_le y0
      have hk : k < bs.length := by omega
      have hp3 := Ts.frD D2 fr3 _ _ hp
      have hat : atI (bs.map V.int) ((k : Nat) : Int) = some (.int bs[k]) := atI_nat (by rw [List.getElem?_map, List.getElem?_eq_getElem hk]; rfl)
      refine ⟨.ref p, rfl, .ref p, rfl, .int (k : Nat), rfl, (k : Int), rfl, slA hp3 fun q1 H4 s4 h4 => ?_⟩
      rw [cut_to] at h4
      refine ⟨.ref p, rfl, .int (k : Nat), rfl, p, _, _, _, rfl, rfl, SqT.of (s4 _ _ hp3), hat, _, _, rfl, rfl, sl1, fun t nt => ?_⟩
      have s5 := same_upd (o := HO.tup [V.int (1 - bs[k])]) nt
      refine catA (s5 _ _ h4) upd_same ?_ fun q2 H6 s6 h6 => ?_
      · rw [List.length_take, List.length_map]
        exact Nat.le_trans (show _ ≤ 64 by simp only [List.length_cons, List.length_nil]; omega) (by decide)
      have s46 := (s4.trans s5).trans s6
      refine ⟨.ref p, rfl, .int (k : Nat), rfl, _, _, rfl, rfl, ((k + 1 : Nat) : Int), rfl, ?_⟩
      refine slAn (s46 _ _ hp3) fun q3 H7 s7 h7 => ?_
      rw [cut_from] at h7
      refine catA (s7 _ _ h6) h7 ?_ fun oa H8 s8 h8 => ?_
      · rw [List.length_append, List.length_take, List.length_drop, List.length_map]
        exact Nat.le_trans (show _ ≤ 64 by simp only [List.length_cons, List.length_nil]; omega) (by decide)
      rw [set_put (by rw [List.length_map]; exact hk)] at h8
      refine ⟨sl2, fun c nc => ?_⟩
      have s9 := same_upd (o := HO.tup [V.ref p, .ref oa]) nc
      have sa := ((s46.trans s7).trans s8).trans s9
      have hset : (bs.map V.int).set k (V.int (1 - bs[k])) = (bs.set k (1 - bs[k])).map V.int := by rw [List.map_set]
      rw [hset] at h8
      refine q c bs (bs.set k (1 - bs[k])) _ ((D3.same sa).mono (by omega)) ((fr12.trans fr3).trans (Fr.of sa)) ⟨p, oa, upd_same, sa _ _ hp3, s9 _ _ h8⟩ ⟨lb, by rw [List.length_set, lb], okb, fun y hy => ?_, m6⟩
      rcases List.mem_or_eq_of_mem_set hy with z | z
      · exact okb y z
      · have := okb bs[k] (List.getElem_mem hk)
        omega
    · refine ⟨.ref p, rfl, .ref d, rfl, .int m, rfl, d, l, _, m, rfl, D2, by omega, m6, fun p2 bs2 H3 D3 fr3 lb2 okb2 hp2 => ⟨sl2, fun c nc => ?_⟩⟩
      have s4 := same_upd (o := HO.tup [V.ref p, .ref p2]) nc
      have hp3 := Ts.frD D2 fr3 _ _ hp
      exact q c bs bs2 _ ((D3.same s4).mono (by omega)) ((fr12.trans fr3).trans (Fr.of s4)) ⟨p, p2, upd_same, s4 _ _ hp3, s4 _ _ hp2⟩ ⟨lb, lb2, okb, okb2, m6⟩

/-! ### covers drawn -/
theorem CovAt.ts {H H' : Hp} {c : Addr} {m : Nat} {ps : List (List Nat)} (h : CovAt H c m ps) (g : Ts H H') : CovAt H' c m ps := by
  obtain ⟨t, h1, h2⟩ := h
  exact ⟨t, g _ _ h1, g _ _ h2⟩
theorem S_app (a b : List Nat) : SX.S a ++ SX.S b = SX.S (a ++ b) := by
  show (⟨a.toArray ++ b.toArray⟩ : Str) = ⟨(a ++ b).toArray⟩
  congr 1
  simp
theorem cut_S1 {cs : List Nat} {h : Nat} (hl : h ≤ cs.length) : cutS (SX.S cs) none (some (h : Int)) = SX.S (cs.take h) := by
  unfold cutS
  rw [SX.S_len, HT.sIx_none, HT.sIx_nat, Nat.min_eq_left hl]
  show (⟨(((SX.S cs).cps.toList.drop 0).take (h - 0)).toArray⟩ : Str) = _
  rw [List.drop_zero, Nat.sub_zero]
theorem cut_S2 {cs : List Nat} {h : Nat} (hl : h ≤ cs.length) : cutS (SX.S cs) (some (h : Int)) none = SX.S (cs.drop h) := by
  unfold cutS
  rw [SX.S_len, HT.sIx_none, HT.sIx_nat, Nat.min_eq_left hl]
  show (⟨((cs.drop h).take (cs.length - h)).toArray⟩ : Str) = _
  rw [List.take_of_length_le (by rw [List.length_drop]; exact Nat.le_refl _)]
theorem s3c_S : Str.ofString "01-" = SX.S [48, 49, 45] := by decide +kernel
theorem it3 : ∀ k : Nat, k < 3 → ∃ c, (SX.S [48, 49, 45]).cps[k]? = some c ∧ SgOk c := by
  intro k h
  rcases k with _ | _ | _ | k
  · exact ⟨48, rfl, .inr (.inl rfl)⟩
  · exact ⟨49, rfl, .inr (.inr rfl)⟩
  · exact ⟨45, rfl, .inl rfl⟩
  · omega
theorem dpStrs {H : Hp} : ∀ ps : List (List Nat), DpAll K H (pVs ps) (ps.map fun p => PyData.str (SX.S p))
  | [] => .nil
  | p :: r => .cons (.str _) (dpStrs r)
theorem strOk_S {p : List Nat} (h : ∀ c ∈ p, SgOk c) : PyData.canLay0 (.str (SX.S p)) = true := by
  simp only [PyData.canLay0, PyData.strOk]
  rw [Array.all_eq_true_iff_forall_mem]
  intro c hc
  have : c ∈ p := by
    simpa using hc
  refine decide_eq_true ?_
  rcases h c this with rfl | rfl | rfl <;> decide
theorem lay_strs {m : Nat} : ∀ ps : List (List Nat), CovOk m ps → PyData.canLayAll0 (ps.map fun p => PyData.str (SX.S p)) = true
  | [], _ => rfl
  | p :: r, h => by
    have := lay_strs r fun q hq => h q (List.mem_cons_of_mem _ hq)
    show (PyData.canLay0 (.str (SX.S p)) && PyData.canLayAll0 (r.map fun p => PyData.str (SX.S p))) = true
    rw [this, Bool.and_true]
    exact strOk_S (h p (List.mem_cons_self ..)).2
theorem depth_strs : ∀ ps : List (List Nat), PyData.depthAll (ps.map fun p => PyData.str (SX.S p)) ≤ 1
  | [] => Nat.zero_le _
  | p :: r => by
    rw [List.map_cons]
    unfold PyData.depthAll
    have := depth_strs r
    have e : (PyData.str (SX.S p)).depth = 0 := rfl
    rw [e]
    omega
theorem sh_strsL {m : Nat} {ps : List (List Nat)} (h : CovOk m ps) : SeqAt.shaped (.list (ps.map fun p => PyData.str (SX.S p))) = true := by
  unfold SeqAt.shaped
  rw [Bool.and_eq_true]
  refine ⟨?_, decide_eq_true ?_⟩
  · simp only [PyData.canLay0, lay_strs ps h]
  · have := depth_strs ps
    simp only [PyData.depth]
    omega
theorem ne_strs (ps : List (List Nat)) : (!PyData.eqv (.list (ps.map fun p => PyData.str (SX.S p))) (.list [])) = !ps.isEmpty := by cases ps <;> rfl
def sp_cover (K : PySem.W.Frag) : Sp := fun vs H Q _ => ∃ (d l : Addr) (n : Int) (m : Nat), vs = [.ref d, .int m] ∧ DeckD H d l n ∧ n < 700000 ∧ 1 ≤ m ∧ m ≤ 6 ∧ ∀ (c : Addr) (ps : List (List Nat)) (H' : Hp), DeckD H' d l (n + 300) → Fr d l H H' → CovAt H' c m ps → CovOk m ps → ps.length ≤ 16 → Q (.ref c) H'
theorem ok_cover (T : Tx K mg) : FnOk P w K mg base CX0 4 T.f_cover T.fd_cover ["_law_deck_here", "_law_many_here"] (sp_cover K) := by
  refine T.F_cover.ok sc_cover (fun vs H Q E h => ?_) (fun cdv A outer s H vs Q E hr h => ?_)
  · obtain ⟨d, l, n, m, rfl, _⟩ := h
    rfl
  · obtain ⟨d, l, n, m, rfl, D, hn, m1, m6, q⟩ := h
    refine ⟨_, (pss_cons (ps_set (i := 2) sc_cover.nd rfl (by first | exact .inl rfl | exact .inr rfl) (pe_call (ok_draw T) (hr.mono (by decide)) (by rfl) T.g_draw T.F_draw.kp T.b_draw .nil pass0 (pa_cons (pv 0) (pa_cons pe_int pa_nil)))) (pss_cons (ps_set (i := 3) sc_cover.nd rfl (by first | exact .inl rfl | exact .inr rfl) (pe_lst pa_nil)) (pss_cons (ps_for PassesOwn.never rfl (pi_range1 (by rfl) T.m_range (pa_cons (pe_ix ix_list (pe_lst (pa_cons (pe_call (ok_draw T) (hr.mono (by decide)) (by rfl) T.g_draw T.F_draw.kp T.b_draw .nil pass0 (pa_cons (pv 0) (pa_cons pe_int pa_nil))) (pa_cons pe_int pa_nil))) (pe_callTy call_int1 (by rfl) T.m_int (by decide +kernel) (pa_cons (pe_cmpR op_eq (pv 2) pe_int (nomark _)) pa_nil)) (fun _ _ => rfl)) pa_nil)) (pg_name (i := 4) sc_cover.nd rfl (by first | exact .inl rfl | exact .inr rfl)) (pss_cons (ps_set (i := 5) sc_cover.nd rfl (by first | exact .inl rfl | exact .inr rfl) (pe_call (ok_draw T) (hr.mono (by decide)) (by rfl) T.g_draw T.F_draw.kp T.b_draw .nil pass0 (pa_cons (pv 0) (pa_cons pe_int pa_nil)))) (pss_cons (ps_set (i := 6) sc_cover.nd rfl (by first | exact .inl rfl | exact .inr rfl) (pe_call (ok_product T) (hr.mono (by decide)) (by rfl) T.g_product T.F_product.kp T.b_product .nil pass0 (pa_cons (pv 0) (pa_cons (pv 1) pa_nil)))) (C8.pss_cut (ps_if (pt_cut (pw_and (pt_cmpR op_lt (pv 5) pe_int (nomark _)) (pw_and1 (pt_cmpR (op_neD hr.units) (pv 3) (pe_lst pa_nil) (nomark _)))).pt) (pss_one (ps_set (i := 6) sc_cover.nd rfl (by first | exact .inl rfl | exact .inr rfl) (pe_ix ix_list (pv 3) (pe_call (ok_draw T) (hr.mono (by decide)) (by rfl) T.g_draw T.F_draw.kp T.b_draw .nil pass0 (pa_cons (pv 0) (pa_cons (pe_callB call_len_seq (by rfl) T.m_len PySem.boot_len (pa_cons (pv 3) pa_nil)) pa_nil))) (fun _ _ => rfl)))) pss_nil) (C8.pss_cut (ps_if (pt_cmpR op_lt (pv 5) pe_int (nomark _)) (pss_cons (ps_set (i := 7) sc_cover.nd rfl (by first | exact .inl rfl | exact .inr rfl) (pe_call (ok_draw T) (hr.mono (by decide)) (by rfl) T.g_draw T.F_draw.kp T.b_draw .nil pass0 (pa_cons (pv 0) (pa_cons (pv 1) pa_nil)))) (pss_one (ps_set (i := 6) sc_cover.nd rfl (by first | exact .inl rfl | exact .inr rfl) (pe_op op_add_str (pe_op op_add_str (pe_slice sl_str (pv 6) po_none (po_some (pv 7))) (pe_item_str pe_str (pe_call (ok_draw T) (hr.mono (by decide)) (by rfl) T.g_draw T.F_draw.kp T.b_draw .nil pass0 (pa_cons (pv 0) (pa_cons pe_int pa_nil))) (fun _ _ => rfl))) (pe_slice sl_str (pv 6) (po_some (pe_op op_add (pv 7) pe_int)) po_none))))) pss_nil) (pss_one (ps_expr (pe_bm PySem.F.plainAttrs_list PySem.F.slot_list_append PySem.F.type_list_append mt_append (pv 3) (pa_cons (pv 6) pa_nil))))))))) (pss_one (ps_ret (pe_tup (pa_cons (pv 1) (pa_cons (pe_callTy call_tuple_of (by rfl) T.m_tuple (by decide +kernel) (pa_cons (pv 3) pa_nil)) pa_nil)))))))), ?_⟩
    refine ⟨.ref d, rfl, d, l, 8, _, rfl, D, by omega, by decide, by decide, fun H1 x D1 fr1 x0 x1 => ?_⟩
    refine ⟨Nat.zero_le _, fun F nF => ?_⟩
    have sF := same_upd (o := HO.lst []) nF
    have oF := D1.off nF
    have hF0 : (upd H1 F (.lst [])) F = some (.lst (pVs [])) := upd_same
    have D1' := D1.same sF
    have frF : Fr d l H (upd H1 F (.lst [])) := fr1.trans (Fr.new nF)
    have nF0 : H F = none := none_of_frD fr1 D1 nF
    revert hF0 D1' frF
    generalize upd H1 F (.lst []) = H1'
    intro hF0 D1' frF
    refine ⟨.ref d, rfl, d, l, 7, _, rfl, D1', by omega, by decide, by decide, fun H2 y D2 fr2 y0 y1 => ⟨sl2, fun t nt => ?_⟩⟩
    have s3 := same_upd (o := HO.lst [V.int y, .int 16]) nt
    refine ⟨.int x, rfl, rfl, .inr ⟨_, rfl, t, _, _, _, rfl, rfl, SqL.of upd_same, at2i _ _ _, ?_⟩⟩
    obtain ⟨N, eN, hN⟩ : ∃ N : Nat, (if decide (V.int x = V.int 5) = true then 16 else y : Int) = (N : Int) ∧ N ≤ 16 := by
      obtain ⟨k, rfl⟩ := Int.eq_ofNat_of_zero_le y0
      split
      · exact ⟨16, rfl, Nat.le_refl _⟩
      · exact ⟨k, rfl, by omega⟩
    rw [eN]
    refine ⟨(N : Int), rfl, by omega, by omega, ?_⟩
    refine for_range (lo := 0) (n := ((N : Nat) : Int).toNat) (fun i σ H' => ∃ y4 y5 y6 y7, σ = [some (.ref d), some (.int m), some (.int x), some (.ref F), y4, y5, y6, y7] ∧ DeckD H' d l (n + 2 + 12 * i) ∧ Fr d l H H' ∧ ∃ ps, H' F = some (.lst (pVs ps)) ∧ ps.length = i ∧ CovOk m ps)
      ⟨_, _, _, _, rfl, (D2.same s3).mono (by omega), (frF.trans fr2).trans (Fr.of s3), [], s3 _ _ (fr2 _ _ oF.1 oF.2 hF0), rfl, fun p hp => by cases hp⟩ ?_ ?_
    · rintro i σ H4 hi ⟨y4, y5, y6, y7, rfl, D4, fr4, ps, hF4, lps, okp⟩
      have hi' : i < N := by simpa using hi
      refine ⟨.ref d, rfl, d, l, 8, _, rfl, D4, by omega, by decide, by decide, fun H5 z D5 fr5 z0 z1 => ?_⟩
      refine ⟨.ref d, rfl, .int m, rfl, d, l, _, m, rfl, D5, by omega, m1, m6, fun p H6 D6 fr6 okp6 => ?_⟩
      have hF6 := fr6 _ _ oF.1 oF.2 (fr5 _ _ oF.1 oF.2 hF4)
      have fr46 := (fr4.trans fr5).trans fr6
      -- one of those told already
      refine ⟨fun σ H' => ∃ p', σ = [some (.ref d), some (.int m), some (.int x), some (.ref F), some (.int (0 + (i : Int))), some (.int z), some (.str (SX.S p')), y7] ∧ DeckD H' d l (n + 2 + 12 * i + 10) ∧ Fr d l H H' ∧ H' F = some (.lst (pVs ps)) ∧ ProdOk m p', ?_, ?_⟩
      · refine ⟨fun b H' => DeckD H' d l (n + 2 + 12 * i + 9) ∧ Fr d l H H' ∧ H' F = some (.lst (pVs ps)) ∧ (b = true → ps ≠ []), ?_, ?_⟩
        · refine ⟨.int z, rfl, _, _, rfl, rfl, _, rfl, ite2 (fun _ => ?_) (fun _ => ⟨D6.mono (by omega), fr46, hF6, fun e => by cases e⟩)⟩
          refine ⟨.ref F, rfl, Nat.zero_le _, fun e ne => ?_⟩
          have s7 := same_upd (o := HO.lst []) ne
          refine ⟨.list (ps.map fun p => .str (SX.S p)), .list [], .lst (SqL.of (s7 _ _ hF6)) (dpStrs ps), .lst (SqL.of upd_same) .nil, sh_strsL okp, rfl, _, rfl, ?_⟩
          rw [ne_strs]
          refine ⟨(D6.same s7).mono (by omega), fr46.trans (Fr.of s7), s7 _ _ hF6, fun e h => ?_⟩
          rw [h] at e
          cases e
        · rintro b H7 ⟨D7, fr7, hF7, hb⟩
          refine ite2 (fun e => ?_) (fun e => ?_)
          · have hne := hb e
            have lpos : 0 < ps.length := List.length_pos_iff.mpr hne
            have lV : (pVs ps).length = ps.length := by unfold pVs; rw [List.length_map]
            refine ⟨.ref F, rfl, .ref d, rfl, .ref F, rfl, F, _, rfl, .inl (SqL.of hF7), ?_⟩
            rw [lV]
            refine ⟨d, l, _, _, rfl, D7, by omega, by omega, by omega, fun H8 u D8 fr8 u0 u1 => ?_⟩
            obtain ⟨k, rfl⟩ := Int.eq_ofNat_of_zero_le u0
            have hk : k < ps.length := by omega
            have hF8 := fr8 _ _ oF.1 oF.2 hF7
            have hat : atI (pVs ps) ((k : Nat) : Int) = some (.str (SX.S ps[k])) := atI_nat (by unfold pVs; rw [List.getElem?_map, List.getElem?_eq_getElem hk]; rfl)
            refine ⟨F, _, _, _, rfl, rfl, SqL.of hF8, hat, ?_⟩
            exact ⟨ps[k], rfl, D8.mono (by omega), fr7.trans fr8, hF8, okp _ (List.getElem_mem hk)⟩
          · exact ⟨p, rfl, D7.mono (by omega), fr7, hF7, okp6⟩
      · rintro σ H7 ⟨p', rfl, D7, fr7, hF7, okp'⟩
        have lp' := okp'.1
        -- a sign otherwise
        refine ⟨fun σ H' => ∃ p'' y7, σ = [some (.ref d), some (.int m), some (.int x), some (.ref F), some (.int (0 + (i : Int))), some (.int z), some (.str (SX.S p'')), y7] ∧ DeckD H' d l (n + 2 + 12 * i + 12) ∧ Fr d l H H' ∧ H' F = some (.lst (pVs ps)) ∧ ProdOk m p'', ?_, ?_⟩
        · refine ⟨.int z, rfl, _, _, rfl, rfl, _, rfl, ite2 (fun _ => ?_) (fun _ => ⟨p', y7, rfl, D7.mono (by omega), fr7, hF7, okp'⟩)⟩
          refine ⟨.ref d, rfl, .int m, rfl, d, l, m, _, rfl, D7, by omega, by omega, by omega, fun H8 u D8 fr8 u0 u1 => ?_⟩
          obtain ⟨k, rfl⟩ := Int.eq_ofNat_of_zero_le u0
          have hk : k < p'.length := by omega
          have okl : (SX.S p').length ≤ sizeLine := by
            rw [SX.S_len]
            exact Nat.le_trans (show p'.length ≤ 64 by omega) (by decide)
          refine ⟨.str (SX.S p'), rfl, .int (k : Nat), rfl, (k : Int), rfl, SX.S p', rfl, okl, ?_⟩
          rw [cut_S1 (Nat.le_of_lt hk)]
          refine ⟨.ref d, rfl, d, l, 3, _, rfl, D8, by omega, by decide, by decide, fun H9 v D9 fr9 v0 v1 => ?_⟩
          obtain ⟨c, hc, okc⟩ := it3 v.toNat (by omega)
          refine ⟨Str.ofString "01-", v, c, rfl, rfl, v0, by omega, by rw [s3c_S, SX.S_len]; show v < 3; omega, by rw [s3c_S]; exact hc, ?_⟩
          refine ⟨_, _, rfl, rfl, ?_, ?_⟩
          · rw [SX.S_len, List.length_take]
            exact Nat.le_trans (show _ ≤ 64 by show min k p'.length + 1 ≤ 64; omega) (by decide)
          have e1 : SX.S (p'.take k) ++ (⟨#[c]⟩ : Str) = SX.S (p'.take k ++ [c]) := S_app _ [c]
          rw [e1]
          refine ⟨.str (SX.S p'), rfl, .int (k : Nat), rfl, _, _, rfl, rfl, ((k + 1 : Nat) : Int), rfl, ?_⟩
          refine ⟨SX.S p', rfl, okl, ?_⟩
          rw [cut_S2 hk]
          refine ⟨_, _, rfl, rfl, ?_, ?_⟩
          · rw [SX.S_len, SX.S_len, List.length_append, List.length_take, List.length_drop]
            exact Nat.le_trans (show _ ≤ 64 by simp only [List.length_cons, List.length_nil]; omega) (by decide)
          rw [S_app, set_put hk]
          refine ⟨p'.set k c, _, rfl, D9.mono (by omega), (fr7.trans fr8).trans fr9, fr9 _ _ oF.1 oF.2 (fr8 _ _ oF.1 oF.2 hF7), by rw [List.length_set, lp'], fun z hz => ?_⟩
          rcases List.mem_or_eq_of_mem_set hz with h | h
          · exact okp'.2 z h
          · rw [h]; exact okc
        · rintro σ H8 ⟨p'', y7', rfl, D8, fr8, hF8, okp''⟩
          refine ⟨.ref F, rfl, .inl ⟨rfl, _, SqL.of hF8⟩, .str (SX.S p''), rfl, F, _, _, rfl, rfl, hF8, ?_, ?_⟩
          · unfold pVs
            rw [List.length_map]
            exact Nat.lt_of_lt_of_le (show _ < 64 by omega) (by decide)
          · refine ⟨_, _, _, _, rfl, (D8.upd oF.1 oF.2).mono (by push_cast; omega), Fr.upd fr8 nF0, ps ++ [p''], ?_, by rw [List.length_append, lps]; rfl, fun r hr => ?_⟩
            · rw [upd_same]
              unfold pVs
              rw [List.map_append]
              rfl
            · rcases List.mem_append.mp hr with h | h
              · exact okp r h
              · rw [List.mem_singleton.mp h]; exact okp''
    · rintro σ H4 ⟨y4, y5, y6, y7, rfl, D4, fr4, ps, hF4, lps, okp⟩
      have lps' : ps.length = N := by rw [lps]; simp
      refine ⟨.int m, rfl, .ref F, rfl, F, _, rfl, .inl ⟨SqL.of hF4, fun t' nt' => ⟨sl2, fun c nc => ?_⟩⟩⟩
      have s5 := same_upd (o := HO.tup (pVs ps)) nt'
      have s6 := same_upd (o := HO.tup [V.int m, .ref t']) nc
      have sa := s5.trans s6
      exact q c ps _ ((D4.same sa).mono (by have : (((N : Nat) : Int).toNat : Int) ≤ 16 := by omega
                                            omega)) (fr4.trans (Fr.of sa)) ⟨t', upd_same, s6 _ _ upd_same⟩ okp (by omega)

end
end Gk

set_option Elab.async false
set_option linter.all false
set_option maxRecDepth 100000
set_option maxHeartbeats 1000000
namespace Gk
open PySem PySem.Spec PyProof.Rows L2
section
variable {P : Program} {w : World} {K : PySem.W.Frag} {mg : Str → Option Value} {base : Heap}
/-! ### covers: the law's own -/
def sgI (c : Nat) : Int := if c = 49 then 1 else 0
theorem int_sg {c : Nat} (h : c = 48 ∨ c = 49) : PySem.intText? (one c) = some (sgI c) := by
  rcases h with rfl | rfl <;> decide +kernel
theorem sg_wS {c : Nat} {x : Int} (h : c = 48 ∨ c = 49) (hx : x = 0 ∨ x = 1) : decide (sgI c = x) = decide (c = wS x) := by
  rcases h with rfl | rfl <;> rcases hx with rfl | rfl <;> decide
def sp_holds (K : PySem.W.Frag) : Sp := fun vs H Q _ => ∃ (m : Nat) (p : List Nat) (a : Addr) (r : List Int), vs = [.str (SX.S p), .ref a] ∧ ProdOk m p ∧ H a = some (.tup (r.map V.int)) ∧ Row01' r ∧ r.length = m ∧ ∀ H', Same H H' → Q (.bl (hrow p r)) H'
theorem ok_holds (T : Tx K mg) : FnOk P w K mg base CX0 1 T.f_holds T.fd_holds ["_law_product_here", "_law_row_here"] (sp_holds K) := by
  refine T.F_holds.ok sc_holds (fun vs H Q E h => ?_) (fun cdv A outer s H vs Q E hr h => ?_)
  · obtain ⟨m, p, a, r, rfl, _⟩ := h
    rfl
  · obtain ⟨m, p, a, r, rfl, okp, ha, ok, lr, q⟩ := h
    refine ⟨_, (pss_cons (ps_for PassesOwn.never rfl (ZpG.pi_zip2 (by rfl) T.m_zip (pa_cons (pv 0) (pa_cons (pv 1) pa_nil))) (pg_tup rfl (pgs_cons (pg_name (i := 2) sc_holds.nd rfl (by first | exact .inl rfl | exact .inr rfl)) (pgs_cons (pg_name (i := 3) sc_holds.nd rfl (by first | exact .inl rfl | exact .inr rfl)) pgs_nil))) (pss_one (ps_if (pt_cut (pw_and (pt_cmpR op_ne (pv 2) pe_str (nomark _)) (pw_and1 (pt_cmpR op_ne (pe_callTy call_int_str (by rfl) T.m_int (by decide +kernel) (pa_cons (pv 2) pa_nil)) (pv 3) (nomark _)))).pt) (pss_one (ps_ret pe_bl)) pss_nil))) (pss_one (ps_ret pe_bl))), ?_⟩
    have lp := okp.1
    refine ⟨.str (SX.S p), rfl, .ref a, rfl, .tx (SX.S p), .tu a, _, _, rfl, at_tx p, SqT.of ha, ?_⟩
    refine ZpG.for_zip2 (K := K) (n := m) (xs1 := p.map fun c => V.str (one c)) (xs2 := r.map V.int) (by rw [List.length_map, lp]) (by rw [List.length_map, lr]) (fun j σ H' => ∃ y2 y3, σ = [some (.str (SX.S p)), some (.ref a), y2, y3] ∧ Same H H' ∧ ((p.zip (rowS r)).take j).all (fun z => decide (z.1 = 45) || decide (z.1 = z.2)) = true) ⟨_, _, rfl, Same.refl H, rfl⟩ (fun j σ H' _ ⟨_, _, _, z, _⟩ => ⟨at_tx p, SqT.of (z _ _ ha)⟩) ?_ ?_
    · rintro j x y t σ H1 hx hy nt ⟨y2, y3, rfl, s1, ih⟩
      obtain ⟨c, hc, rfl⟩ := one_at hx
      obtain ⟨w', hw, rfl⟩ := int_at hy
      have hw2 : (rowS r)[j]? = some (wS w') := by unfold rowS; rw [List.getElem?_map, hw]; rfl
      have ez := zip_take_succ hc hw2
      have okc := okp.2 c (List.mem_of_getElem? hc)
      have okw := ok w' (List.mem_of_getElem? hw)
      have s2 := s1.trans (same_upd (o := HO.tup [V.str (one c), V.int w']) nt)
      refine ⟨t, _, rfl, SqT.of upd_same, rfl, _, _, rfl, _, _, rfl, rfl, ?_⟩
      revert s2
      generalize upd H1 t _ = H2
      intro s2
      refine ⟨fun b H' => H' = H2 ∧ b = !(decide (c = 45) || decide (c = wS w')), ?_, ?_⟩
      · refine ⟨.str (one c), rfl, rfl, _, rfl, ?_⟩
        rw [str_dec, dash_S, one_inj]
        refine ite2 (fun e => ?_) (fun e => ⟨rfl, ?_⟩)
        · have nc : ¬ c = 45 := by simpa using e
          have c2 : c = 48 ∨ c = 49 := by rcases okc with h | h; exact absurd h nc; exact h
          refine ⟨.str (one c), rfl, _, _, rfl, int_sg c2, (show 1 ≤ 640 by decide), .int w', rfl, rfl, _, rfl, rfl, ?_⟩
          rw [int_dec, sg_wS c2 okw, decide_eq_false nc]
          rfl
        · have ec : c = 45 := by simpa using e
          rw [decide_eq_true ec]
          rfl
      · rintro b H' ⟨rfl, rfl⟩
        refine ite2 (fun e => ?_) (fun e => ?_)
        · have e' : (decide (c = 45) || decide (c = wS w')) = false := by simpa using e
          have : hrow p r = false := all_stop (f := fun z : Nat × Nat => decide (z.1 = 45) || decide (z.1 = z.2)) ez e'
          have z := q _ s2
          rw [this] at z
          exact z
        · have e' : (decide (c = 45) || decide (c = wS w')) = true := by
            cases hh : (decide (c = 45) || decide (c = wS w')) with
            | true => rfl
            | false => rw [hh] at e; exact absurd rfl e
          refine ⟨_, _, rfl, s2, ?_⟩
          rw [ez, List.all_append, ih]
          simpa using e'
    · rintro σ H1 ⟨y2, y3, rfl, s1, ih⟩
      have : (p.zip (rowS r)).length ≤ m := by rw [List.length_zip]; omega
      rw [List.take_of_length_le this] at ih
      have z := q H1 s1
      unfold hrow hall at z
      rw [ih] at z
      exact z
def sp_l_told (K : PySem.W.Frag) : Sp := fun vs H Q _ => ∃ (c a : Addr) (m : Nat) (ps : List (List Nat)) (r : List Int), vs = [.ref c, .ref a] ∧ CovAt H c m ps ∧ CovOk m ps ∧ ps.length ≤ 64 ∧ H a = some (.tup (r.map V.int)) ∧ Row01' r ∧ r.length = m ∧ ∀ H', Same H H' → Q (.int (bI (toldM ps r))) H'
theorem fil_any {α : Type} (l : List α) (f : α → Bool) : (!(l.filter f).isEmpty) = l.any f := by
  induction l with
  | nil => rfl
  | cons x r ih =>
    rw [List.filter_cons, List.any_cons]
    split
    · rename_i e
      rw [e]
      rfl
    · rename_i e
      rw [ih, Bool.eq_false_iff.mpr e, Bool.false_or]
theorem filter_take {α : Type} {l : List α} {f : α → Bool} {i : Nat} {a : α} (h : l[i]? = some a) : (l.take (i + 1)).filter f = (l.take i).filter f ++ (if f a = true then [a] else []) := by
  rw [List.take_add_one, h, List.filter_append]
  congr 1
  show List.filter _ [a] = _
  rw [List.filter_cons, List.filter_nil]
theorem ok_told (T : Tx K mg) : FnOk P w K mg base CX0 2 T.f_told T.fd_told ["_law_cover_here", "_law_row_here"] (sp_l_told K) := by
  refine T.F_told.ok sc_told (fun vs H Q E h => ?_) (fun cdv A outer s H vs Q E hr h => ?_)
  · obtain ⟨c, a, m, ps, r, rfl, _⟩ := h
    rfl
  · obtain ⟨c, a, m, ps, r, rfl, ⟨t, hc, ht⟩, okp, l64, ha, ok, lr, q⟩ := h
    refine ⟨_, (pss_one (ps_ret (pe_callTy call_int1 (by rfl) T.m_int (by decide +kernel) (pa_cons (pe_cmpR (op_neD hr.units) (pe_lc (own := [("_law_product_here", 2)]) (by rfl) sc_told.nd (pi_tup (pe_ix ix_tup (pv 0) pe_int (fun _ _ => rfl))) (blkOk_by (own := [("_law_product_here", 2)]) (N := ["_law_cover_here", "_law_row_here", "_law_product_here"]) (sc := defScope s_told) (by decide +kernel)) (fun _ _ _ _ _ => (pg_name (i := 2) sc_told.nd rfl (by first | exact .inl rfl | exact .inr rfl))) (fun _ _ _ _ _ => (pts_one (pt_val (pe_call (ok_holds T) (hr.mono (by decide)) (by rfl) T.g_holds T.F_holds.kp T.b_holds .nil pass0 (pa_cons (pv 2) (pa_cons (pv 1) pa_nil)))))) (fun _ _ _ _ _ => (pv 2))) (pe_lst pa_nil) (nomark _)) pa_nil)))), ?_⟩
    refine ⟨.ref c, rfl, c, _, _, .ref t, rfl, rfl, SqT.of hc, rfl, t, rfl, ⟨_, SqT.of ht⟩, fun L nL => ?_⟩
    refine lc_tup (K := K) (a := t) (xs := pVs ps) (fun j H' => Same H (hd1 L H') ∧ H' L = some (.lst (pVs ((ps.take j).filter fun p => hrow p r)))) ⟨hd1_of (same_upd nL) nL, upd_same⟩ (fun j H' _ z => SqT.of (hd1_le _ _ (z.1 _ _ ht))) ?_ ?_
    · rintro j v H1 hv ⟨s1, hL⟩
      obtain ⟨p, hp, rfl⟩ := pV_at hv
      have okp' := okp p (List.mem_of_getElem? hp)
      refine ⟨rfl, .str (SX.S p), rfl, .ref a, rfl, m, p, a, r, rfl, okp', hd1_le _ _ (s1 _ _ ha), ok, lr, fun H2 s2 => ⟨_, rfl, ?_⟩⟩
      have sL := s1.trans (hd1_same (p := L) s2)
      refine ite2 (fun e => ?_) (fun e => ?_)
      · refine ⟨.str (SX.S p), rfl, _, s2 _ _ hL, ?_, sL.trans hd1_upd, ?_⟩
        · unfold pVs
          rw [List.length_map]
          have := List.length_filter_le (fun p => hrow p r) (ps.take j)
          rw [List.length_take] at this
          exact Nat.lt_of_lt_of_le (show _ < 128 by omega) (by decide)
        · rw [upd_same, filter_take hp, if_pos e]
          unfold pVs
          rw [List.map_append]
          rfl
      · refine ⟨sL, ?_⟩
        rw [s2 _ _ hL, filter_take hp, if_neg e, List.append_nil]
    · rintro H1 ⟨s1, hL⟩
      have lV : (pVs ps).length = ps.length := by unfold pVs; rw [List.length_map]
      rw [lV, List.take_length] at hL
      have s1' : Same H H1 := fun b o e => hd1_le _ _ (s1 _ _ e)
      refine ⟨Nat.zero_le _, fun e ne => ?_⟩
      have s2 := same_upd (o := HO.lst []) ne
      have okf : CovOk m (ps.filter fun p => hrow p r) := fun p hp => okp p (List.mem_filter.mp hp).1
      refine ⟨.list ((ps.filter fun p => hrow p r).map fun p => .str (SX.S p)), .list [], .lst (SqL.of (s2 _ _ hL)) (dpStrs _), .lst (SqL.of upd_same) .nil, sh_strsL okf, rfl, .inr ⟨_, rfl, ?_⟩⟩
      rw [ne_strs, fil_any]
      exact q _ (s1'.trans s2)

def sp_meets (K : PySem.W.Frag) : Sp := fun vs H Q _ => ∃ (p : List Nat) (c : Addr) (m : Nat) (a b : List Int), vs = [.str (SX.S p), .ref c] ∧ ProdOk m p ∧ ChAt H c a b ∧ ChOk m a b ∧ ∀ H', Same H H' → Q (.bl (meetM p (cubeM a b))) H'
theorem ok_meets (T : Tx K mg) : FnOk P w K mg base CX0 1 T.f_meets T.fd_meets ["_law_product_here", "_law_change_here"] (sp_meets K) := by
  refine T.F_meets.ok sc_meets (fun vs H Q E h => ?_) (fun cdv A outer s H vs Q E hr h => ?_)
  · obtain ⟨p, c, m, a, b, rfl, _⟩ := h
    rfl
  · obtain ⟨p, c, m, a, b, rfl, okp, ⟨ra, rb, hc, ha, hb⟩, ok, q⟩ := h
    refine ⟨_, (pss_cons (ps_for PassesOwn.never rfl (ZpG.pi_zip3 (by rfl) T.m_zip (pa_cons (pv 0) (pa_cons (pe_ix ix_tup (pv 1) pe_int (fun _ _ => rfl)) (pa_cons (pe_ix ix_tup (pv 1) pe_int (fun _ _ => rfl)) pa_nil)))) (pg_tup rfl (pgs_cons (pg_name (i := 2) sc_meets.nd rfl (by first | exact .inl rfl | exact .inr rfl)) (pgs_cons (pg_name (i := 3) sc_meets.nd rfl (by first | exact .inl rfl | exact .inr rfl)) (pgs_cons (pg_name (i := 4) sc_meets.nd rfl (by first | exact .inl rfl | exact .inr rfl)) pgs_nil)))) (pss_one (ps_if (pt_cut (pw_and (pt_cmpR op_ne (pv 2) pe_str (nomark _)) (pw_and (pt_cmpR op_eq (pv 3) (pv 4) (nomark _)) (pw_and1 (pt_cmpR op_ne (pe_callTy call_int_str (by rfl) T.m_int (by decide +kernel) (pa_cons (pv 2) pa_nil)) (pv 3) (nomark _))))).pt) (pss_one (ps_ret pe_bl)) pss_nil))) (pss_one (ps_ret pe_bl))), ?_⟩
    have lp := okp.1
    have la := ok.la
    have lb := ok.lb
    refine ⟨.str (SX.S p), rfl, .ref c, rfl, c, _, _, .ref ra, rfl, rfl, SqT.of hc, rfl, .ref c, rfl, c, _, _, .ref rb, rfl, rfl, SqT.of hc, rfl, .tx (SX.S p), .tu ra, .tu rb, _, _, _, rfl, at_tx p, SqT.of ha, SqT.of hb, ?_⟩
    refine ZpG.for_zip3 (K := K) (n := m) (xs1 := p.map fun c => V.str (one c)) (xs2 := a.map V.int) (xs3 := b.map V.int) (by rw [List.length_map, lp]) (by rw [List.length_map, la]) (by rw [List.length_map, lb]) (fun j σ H' => ∃ y2 y3 y4, σ = [some (.str (SX.S p)), some (.ref c), y2, y3, y4] ∧ Same H H' ∧ ((p.zip (cubeM a b)).take j).all (fun z => decide (z.1 = 45) || decide (z.2 = 45) || decide (z.1 = z.2)) = true) ⟨_, _, _, rfl, Same.refl H, rfl⟩ (fun j σ H' _ ⟨_, _, _, _, z, _⟩ => ⟨at_tx p, SqT.of (z _ _ ha), SqT.of (z _ _ hb)⟩) ?_ ?_
    · rintro j x y z t σ H1 hx hy hz nt ⟨y2, y3, y4, rfl, s1, ih⟩
      obtain ⟨c', hc', rfl⟩ := one_at hx
      obtain ⟨u, hu, rfl⟩ := int_at hy
      obtain ⟨v, hv, rfl⟩ := int_at hz
      have hq : (cubeM a b)[j]? = some (if u = v then wS u else 45) := by
        unfold cubeM
        rw [List.getElem?_map, List.getElem?_zip_eq_some.mpr (show a[j]? = some (u, v).1 ∧ b[j]? = some (u, v).2 from ⟨hu, hv⟩)]
        rfl
      have ez := zip_take_succ hc' hq
      have okc := okp.2 c' (List.mem_of_getElem? hc')
      have oku := ok.oa u (List.mem_of_getElem? hu)
      have s2 := s1.trans (same_upd (o := HO.tup [V.str (one c'), V.int u, V.int v]) nt)
      refine ⟨t, _, rfl, SqT.of upd_same, rfl, _, _, rfl, _, _, rfl, _, _, rfl, rfl, ?_⟩
      revert s2
      generalize upd H1 t _ = H2
      intro s2
      refine ⟨fun b H' => H' = H2 ∧ b = !(decide (c' = 45) || decide ((if u = v then wS u else 45) = 45) || decide (c' = if u = v then wS u else 45)), ?_, ?_⟩
      · refine ⟨.str (one c'), rfl, rfl, _, rfl, ?_⟩
        rw [str_dec, dash_S, one_inj]
        refine ite2 (fun e => ?_) (fun e => ⟨rfl, ?_⟩)
        · have nc : ¬ c' = 45 := by simpa using e
          have c2 : c' = 48 ∨ c' = 49 := by rcases okc with h | h; exact absurd h nc; exact h
          refine ⟨.int u, rfl, .int v, rfl, rfl, _, rfl, ?_⟩
          rw [int_dec]
          refine ite2 (fun e2 => ?_) (fun e2 => ⟨rfl, ?_⟩)
          · have euv : u = v := of_decide_eq_true e2
            refine ⟨.str (one c'), rfl, _, _, rfl, int_sg c2, (show 1 ≤ 640 by decide), .int u, rfl, rfl, _, rfl, rfl, ?_⟩
            rw [int_dec, sg_wS c2 oku, decide_eq_false nc, if_pos euv]
            have : decide (wS u = 45) = false := by rcases oku with rfl | rfl <;> decide
            rw [this]
            rfl
          · have euv : ¬ u = v := fun k => e2 (decide_eq_true k)
            rw [if_neg euv, decide_eq_false nc]
            rfl
        · have ec : c' = 45 := by simpa using e
          rw [decide_eq_true ec]
          rfl
      · rintro b' H' ⟨rfl, rfl⟩
        refine ite2 (fun e => ?_) (fun e => ?_)
        · have e' : (decide (c' = 45) || decide ((if u = v then wS u else 45) = 45) || decide (c' = if u = v then wS u else 45)) = false := by rw [← Bool.not_eq_true']; exact e
          have : meetM p (cubeM a b) = false := all_stop (f := fun z : Nat × Nat => decide (z.1 = 45) || decide (z.2 = 45) || decide (z.1 = z.2)) ez e'
          have z := q _ s2
          rw [this] at z
          exact z
        · have e' : (decide (c' = 45) || decide ((if u = v then wS u else 45) = 45) || decide (c' = if u = v then wS u else 45)) = true := by
            cases hh : (decide (c' = 45) || decide ((if u = v then wS u else 45) = 45) || decide (c' = if u = v then wS u else 45)) with
            | true => rfl
            | false => rw [hh] at e; exact absurd rfl e
          refine ⟨_, _, _, rfl, s2, ?_⟩
          rw [ez, List.all_append, ih, List.all_cons, List.all_nil, Bool.and_true, Bool.true_and]
          exact e'
    · rintro σ H1 ⟨y2, y3, y4, rfl, s1, ih⟩
      have : (p.zip (cubeM a b)).length ≤ m := by rw [List.length_zip]; omega
      rw [List.take_of_length_le this] at ih
      have z := q H1 s1
      unfold meetM at z
      rw [ih] at z
      exact z
theorem hall_cube : ∀ (p : List Nat) (a b : List Int), p.length = a.length → a.length = b.length → Row01' a → Row01' b → hall p (cubeM a b) = (hrow p a && hrow p b)
  | [], _, _, _, _, _, _ => rfl
  | c :: p, [], _, h, _, _, _ => by cases h
  | c :: p, x :: a, [], _, h, _, _ => by cases h
  | c :: p, x :: a, y :: b, h1, h2, ha, hb => by
    have ih := hall_cube p a b (Nat.succ.inj h1) (Nat.succ.inj h2) (fun z hz => ha z (List.mem_cons_of_mem _ hz)) (fun z hz => hb z (List.mem_cons_of_mem _ hz))
    have hx := ha x (List.mem_cons_self ..)
    have hy := hb y (List.mem_cons_self ..)
    have e1 : hall (c :: p) (cubeM (x :: a) (y :: b)) = ((decide (c = 45) || decide (c = if x = y then wS x else 45)) && hall p (cubeM a b)) := rfl
    have e2 : hrow (c :: p) (x :: a) = ((decide (c = 45) || decide (c = wS x)) && hrow p a) := rfl
    have e3 : hrow (c :: p) (y :: b) = ((decide (c = 45) || decide (c = wS y)) && hrow p b) := rfl
    rw [e1, e2, e3, ih]
    have key : (decide (c = 45) || decide (c = if x = y then wS x else 45)) = ((decide (c = 45) || decide (c = wS x)) && (decide (c = 45) || decide (c = wS y))) := by
      by_cases h45 : c = 45
      · rw [decide_eq_true h45]; rfl
      · rw [decide_eq_false h45, Bool.false_or, Bool.false_or, Bool.false_or]
        rcases hx with rfl | rfl <;> rcases hy with rfl | rfl
        · rw [if_pos rfl, Bool.and_self]
        · rw [if_neg (by decide), decide_eq_false h45]
          by_cases h48 : c = wS 0
          · rw [h48]; rfl
          · rw [decide_eq_false h48]; rfl
        · rw [if_neg (by decide), decide_eq_false h45]
          by_cases h48 : c = wS 0
          · rw [h48]; rfl
          · rw [decide_eq_false h48, Bool.and_false]
        · rw [if_pos rfl, Bool.and_self]
    rw [key]
    generalize (decide (c = 45) || decide (c = wS x)) = A
    generalize (decide (c = 45) || decide (c = wS y)) = B'
    cases A <;> cases B' <;> simp

end
end Gk

set_option Elab.async false
set_option linter.all false
set_option maxRecDepth 100000
set_option maxHeartbeats 1000000
set_option pp.maxSteps 4500
set_option pp.deepTerms false
namespace Gk
open PySem PySem.Spec PyProof.Rows L2

section
variable {P : Program} {w : World} {K : PySem.W.Frag} {mg : Str → Option Value} {base : Heap}
/-! ### how often a cover changes at most -/
def passM (a b : List Int) (ps : List (List Nat)) : Nat := (ps.filter (flashM a b)).length
def greatM (ps : List (List Nat)) (a b : List Int) : Int := if (firstH ps a b).isSome = true then 0 else bI (toldM ps a) + 2 * (passM a b ps : Int) + bI (toldM ps b)
def sp_cover_greatest (T : Tx K mg) : Sp := fun vs H Q _ => ∃ (cv c : Addr) (m : Nat) (ps : List (List Nat)) (a b : List Int), vs = [.ref cv, .ref c] ∧ CovAt H cv m ps ∧ CovOk m ps ∧ ps.length ≤ 64 ∧ ChAt H c a b ∧ ChOk m a b ∧ Tabs H T.tabs ∧ ∀ H', Gr H H' → Q (.int (greatM ps a b)) H'
theorem ok_cover_greatest (T : Tx K mg) (B : Tb base T) : FnOk P w K mg base CX0 6 T.f_cover_greatest T.fd_cover_greatest ["cover", "change"] (sp_cover_greatest T) := by
  refine okC T.F_cover_greatest sc_cover_greatest (fun vs H Q E h => ?_) (fun A outer s H vs Q E hr h => ?_)
  · obtain ⟨cv, c, m, ps, a, b, rfl, _⟩ := h
    rfl
  · obtain ⟨cv, c, m, ps, a, b, rfl, hcv, okp, l64, hch, ok, tabs, q⟩ := h
    refine ⟨_, (pss_cons (ps_asg (pv 1) (pg_tup rfl (pgs_cons (pg_name (i := 2) sc_cover_greatest.nd rfl (by first | exact .inl rfl | exact .inr rfl)) (pgs_cons (pg_name (i := 3) sc_cover_greatest.nd rfl (by first | exact .inl rfl | exact .inr rfl)) pgs_nil)))) (pss_cons (ps_set (i := 4) sc_cover_greatest.nd rfl (by first | exact .inl rfl | exact .inr rfl) (pe_ix ix_tup (pv 0) pe_int (fun _ _ => rfl))) (pss_cons (ps_if (pt_cmpR op_notN (pe_call (ok_first_holding T B) (hr.mono (by decide)) (by rfl) T.g_first_holding T.F_first_holding.kp T.b_first_holding .nil pass0 (pa_cons (pv 4) (pa_cons (pv 1) pa_nil))) pe_non (nomark _)) (pss_one (ps_ret pe_int)) pss_nil) (pss_cons (ps_set (i := 5) sc_cover_greatest.nd rfl (by first | exact .inl rfl | exact .inr rfl) (GxS.pe_sumX (own := [("product", 6)]) (k := 4) (hr.mono (by decide)) rfl sc_cover_greatest.nd (by rfl) T.m_sum (by decide +kernel) B.TB_cover_greatest T.cd_cover_greatest rfl rfl (by decide +kernel) (blkOk_by (own := [("product", 6)]) (N := ["cover", "change", "a", "b", "products", "flashing", "product"]) (sc := defScope s_cover_greatest) (by decide +kernel)) (pi_tup (pv 4)) (fun _ _ _ _ _ _ _ hr gd => (pg_name (i := 6) sc_cover_greatest.nd rfl (by first | exact .inl rfl | exact .inr rfl))) (fun _ _ _ _ _ _ _ hr gd => (pts_one (pt_val (pe_call (ok_flashes T B) (hr.mono (by decide)) (by rfl) T.g_flashes T.F_flashes.kp T.b_flashes .nil pass0 (pa_cons (pv 6) (pa_cons (pv 1) pa_nil)))))) (fun _ _ _ _ _ _ _ hr gd => pe_int) (fun _ => rfl))) (pss_one (ps_ret (pe_op op_add (pe_op op_add (pe_call (ok_told_of T B) (hr.mono (by decide)) (by rfl) T.g_told_of T.F_told_of.kp T.b_told_of .nil pass0 (pa_cons (pv 0) (pa_cons (pv 2) pa_nil))) (pe_op op_mul pe_int (pv 5))) (pe_call (ok_told_of T B) (hr.mono (by decide)) (by rfl) T.g_told_of T.F_told_of.kp T.b_told_of .nil pass0 (pa_cons (pv 0) (pa_cons (pv 3) pa_nil)))))))))), ?_⟩
    obtain ⟨ra, rb, hc, ha, hb⟩ := id hch
    obtain ⟨t, hct, ht⟩ := id hcv
    have m6 := ok.m6
    refine ⟨.ref c, rfl, c, _, rfl, SqT.of hc, rfl, _, _, rfl, _, _, rfl, rfl, ?_⟩
    refine ⟨.ref cv, rfl, cv, _, _, .ref t, rfl, rfl, SqT.of hct, rfl, ?_⟩
    refine ⟨.ref t, rfl, .ref c, rfl, t, c, m, ps, a, b, rfl, ht, okp, hch, ok, tabs, fun H1 g1 => ⟨rfl, _, rfl, ?_⟩⟩
    have lV : (pVs ps).length = ps.length := by unfold pVs; rw [List.length_map]
    cases hf : firstH ps a b with
    | some k =>
      refine iteT ?_
      have : greatM ps a b = 0 := if_pos (by rw [hf]; rfl)
      have r := q H1 g1
      rw [this] at r
      exact r
    | none =>
      refine iteF ?_
      have eg : greatM ps a b = bI (toldM ps a) + 2 * (passM a b ps : Int) + bI (toldM ps b) := if_neg (by rw [hf]; decide)
      refine ⟨.ref t, rfl, t, rfl, ⟨_, SqT.of (g1.tup ht)⟩, g1.2 _ (tabs _ (by simp [Tx.tabs])), fun H2 tb2 => ?_⟩
      have g2 := g1.trans (Gr.tab (g1.2 _ (tabs _ (by simp [Tx.tabs]))) tb2)
      refine gx_tup (K := K) (a := t) (xs := pVs ps) (fun i acc H' => Gr H2 H' ∧ acc = ((((ps.take i).filter (flashM a b)).length : Nat) : Int)) ⟨Gr.refl, rfl⟩ (fun i ys H' _ hP => SqT.of ((g2.trans hP.1).tup ht)) ?_ ?_
      · rintro i x acc H3 hx ⟨g3, rfl⟩
        obtain ⟨p, hp, rfl⟩ := pV_at hx
        have okp' := okp p (List.mem_of_getElem? hp)
        have g23 := g2.trans g3
        have hi : i < ps.length := (List.getElem?_eq_some_iff.mp hp).1
        have lf : ((ps.take i).filter (flashM a b)).length ≤ i := Nat.le_trans (List.length_filter_le ..) (by rw [List.length_take]; omega)
        refine ⟨rfl, .str (SX.S p), rfl, .ref c, rfl, p, c, m, a, b, rfl, okp', hch.gr g23, ok, g23.tabs tabs, fun H4 g4 => ?_⟩
        refine ⟨_, rfl, ite2 (fun e => ?_) (fun e => ⟨g3.trans g4, ?_⟩)⟩
        · refine ⟨1, rfl, ⟨by decide, by decide⟩, ⟨by omega, by omega⟩, g3.trans g4, ?_⟩
          rw [filter_take hp, if_pos e, List.length_append]
          push_cast
          rfl
        · rw [filter_take hp, if_neg e, List.append_nil]
      · rintro acc H3 ⟨g3, rfl⟩
        rw [lV, List.take_length]
        have g4 := g2.trans g3
        have lf : (ps.filter (flashM a b)).length ≤ 64 := Nat.le_trans (List.length_filter_le ..) l64
        refine ⟨.ref cv, rfl, .ref ra, rfl, cv, ra, m, ps, a, rfl, hcv.gr g4, okp, g4.tup ha, ok.oa, ok.la, m6, g4.tabs tabs, fun H5 g5 => ?_⟩
        have g6 := g4.trans g5
        refine ⟨.int ((ps.filter (flashM a b)).length : Nat), rfl, _, _, rfl, rfl, .inl ⟨by decide, by decide⟩, _, _, rfl, rfl, ?_⟩
        refine ⟨.ref cv, rfl, .ref rb, rfl, cv, rb, m, ps, b, rfl, hcv.gr g6, okp, g6.tup hb, ok.ob, ok.lb, m6, g6.tabs tabs, fun H7 g7 => ⟨_, _, rfl, rfl, ?_⟩⟩
        have r := q H7 (g6.trans g7)
        rw [eg] at r
        exact r

end
end Gk

set_option Elab.async false
set_option linter.all false
set_option maxRecDepth 100000
set_option maxHeartbeats 1000000
set_option pp.maxSteps 4500
set_option pp.deepTerms false
namespace Gk
open PySem PySem.Spec PyProof.Rows L2

section
variable {P : Program} {w : World} {K : PySem.W.Frag} {mg : Str → Option Value} {base : Heap}
/-! ### the sorts of the products -/
def sortM (a b : List Int) (p : List Nat) : Option Int := if (hrow p a && hrow p b) = true then some 0 else if hrow p a = true then some 1 else if hrow p b = true then some 2 else if meetM p (cubeM a b) = true then some 3 else none
def sortsM (ps : List (List Nat)) (a b : List Int) : List Int := ps.filterMap (sortM a b)
theorem sorts_len (ps : List (List Nat)) (a b : List Int) : (sortsM ps a b).length ≤ ps.length := List.length_filterMap_le ..
theorem sorts_take {ps : List (List Nat)} {a b : List Int} {i : Nat} {p : List Nat} (h : ps[i]? = some p) : sortsM (ps.take (i + 1)) a b = sortsM (ps.take i) a b ++ (sortM a b p).toList := by
  unfold sortsM
  rw [List.take_add_one, h, List.filterMap_append]
  congr 1
def cnt4 (ps : List (List Nat)) (a b : List Int) : List Int := [0, 1, 2, 3].map fun k : Int => (((sortsM ps a b).count k : Nat) : Int)
def sp_sorts (K : PySem.W.Frag) : Sp := fun vs H Q _ => ∃ (cv c : Addr) (m : Nat) (ps : List (List Nat)) (a b : List Int), vs = [.ref cv, .ref c] ∧ CovAt H cv m ps ∧ CovOk m ps ∧ ps.length ≤ 64 ∧ ChAt H c a b ∧ ChOk m a b ∧ ∀ r H', Same H H' → H' r = some (.lst ((cnt4 ps a b).map V.int)) → Q (.ref r) H'
theorem ok_sorts (T : Tx K mg) : FnOk P w K mg base CX0 3 T.f_sorts T.fd_sorts ["_law_cover_here", "_law_change_here"] (sp_sorts K) := by
  refine T.F_sorts.ok sc_sorts (fun vs H Q E h => ?_) (fun cdv A outer s H vs Q E hr h => ?_)
  · obtain ⟨cv, c, m, ps, a, b, rfl, _⟩ := h
    rfl
  · obtain ⟨cv, c, m, ps, a, b, rfl, hcv, okp, l64, hch, ok, q⟩ := h
    refine ⟨_, (pss_cons (ps_set (i := 2) sc_sorts.nd rfl (by first | exact .inl rfl | exact .inr rfl) (pe_lst pa_nil)) (pss_cons (ps_for PassesOwn.never rfl (pi_tup (pe_ix ix_tup (pv 0) pe_int (fun _ _ => rfl))) (pg_name (i := 3) sc_sorts.nd rfl (by first | exact .inl rfl | exact .inr rfl)) (pss_cons (ps_setLc (i := 4) (own := [("_law_row_here", 6)]) (by rfl) sc_sorts.nd rfl rfl (sw_true rfl rfl rfl (by decide +kernel)) (pi_tup (pv 1)) (blkOk_by (own := [("_law_row_here", 6)]) (N := ["_law_cover_here", "_law_change_here", "_law_sorts_here", "_law_product_here", "_law_held", "_law_k", "_law_row_here"]) (sc := defScope s_sorts) (by decide +kernel)) (fun _ _ _ _ _ => (pg_name (i := 6) sc_sorts.nd rfl (by first | exact .inl rfl | exact .inr rfl))) (fun _ _ _ _ _ => pts_nil) (fun _ _ _ _ _ => (pe_call (ok_holds T) (hr.mono (by decide)) (by rfl) T.g_holds T.F_holds.kp T.b_holds .nil pass0 (pa_cons (pv 3) (pa_cons (pv 6) pa_nil))))) (pss_one (ps_if (pt_cmpR op_in_seq pe_bl (pv 4) rfl) (pss_one (ps_expr (pe_bm PySem.F.plainAttrs_list PySem.F.slot_list_append PySem.F.type_list_append mt_append (pv 2) (pa_cons (pe_bm PySem.F.plainAttrs_list PySem.F.slot_list_index PySem.F.type_list_index (mt_indexD (units65 hr)) (pe_lst (pa_cons (pe_lst (pa_cons pe_bl (pa_cons pe_bl pa_nil))) (pa_cons (pe_lst (pa_cons pe_bl (pa_cons pe_bl pa_nil))) (pa_cons (pe_lst (pa_cons pe_bl (pa_cons pe_bl pa_nil))) pa_nil)))) (pa_cons (pv 4) pa_nil)) pa_nil)))) (pss_one (ps_if (pt_val (pe_call (ok_meets T) (hr.mono (by decide)) (by rfl) T.g_meets T.F_meets.kp T.b_meets .nil pass0 (pa_cons (pv 3) (pa_cons (pv 1) pa_nil)))) (pss_one (ps_expr (pe_bm PySem.F.plainAttrs_list PySem.F.slot_list_append PySem.F.type_list_append mt_append (pv 2) (pa_cons pe_int pa_nil)))) pss_nil)))))) (pss_one (ps_ret (pe_lc (own := [("_law_k", 5)]) (by rfl) sc_sorts.nd (pi_range1 (by rfl) T.m_range (pa_cons pe_int pa_nil)) (blkOk_by (own := [("_law_k", 5)]) (N := ["_law_cover_here", "_law_change_here", "_law_sorts_here", "_law_product_here", "_law_held", "_law_k", "_law_row_here"]) (sc := defScope s_sorts) (by decide +kernel)) (fun _ _ _ _ _ => (pg_name (i := 5) sc_sorts.nd rfl (by first | exact .inl rfl | exact .inr rfl))) (fun _ _ _ _ _ => pts_nil) (fun _ _ _ _ _ => (show PE _ _ (tBM K "list" _ _ _) from (pe_bm PySem.F.plainAttrs_list PySem.F.slot_list_count PySem.F.type_list_count (show MtR _ "list.count" (rCntI K) from mt_lcount) (pv 2) (pa_cons (pv 5) pa_nil))))))))), ?_⟩
    obtain ⟨ra, rb, hc, ha, hb⟩ := id hch
    obtain ⟨t, hct, ht⟩ := id hcv
    refine ⟨Nat.zero_le _, fun S nS => ?_⟩
    have s0 := same_upd (o := HO.lst []) nS
    refine ⟨.ref cv, rfl, cv, _, 1, .ref t, rfl, rfl, SqT.of (s0 _ _ hct), rfl, t, rfl, ⟨_, SqT.of (s0 _ _ ht)⟩, ?_⟩
    refine for_tup (K := K) (a := t) (xs := pVs ps) (fun i σ H' => ∃ y3 y4 y5 y6, σ = [some (.ref cv), some (.ref c), some (.ref S), y3, y4, y5, y6] ∧ Same H (hd1 S H') ∧ H' S = some (.lst ((sortsM (ps.take i) a b).map V.int))) ⟨_, _, _, _, rfl, hd1_of s0 nS, upd_same⟩ (fun i σ H' _ ⟨_, _, _, _, _, s1, _⟩ => SqT.of (hd1_le _ _ (s1 _ _ ht))) ?_ ?_
    · rintro i x σ H1 hx ⟨y3, y4, y5, y6, rfl, s1, hS1⟩
      obtain ⟨p, hp, rfl⟩ := pV_at hx
      have okp' := okp p (List.mem_of_getElem? hp)
      have hc1 := hd1_le _ _ (s1 _ _ hc)
      refine ⟨.ref c, rfl, c, rfl, ⟨_, SqT.of hc1⟩, fun D nD => ?_⟩
      refine lc_tup (K := K) (a := c) (xs := [V.ref ra, V.ref rb]) (fun j H' => Same H1 (hd1 D H') ∧ H' D = some (.lst (([hrow p a, hrow p b].take j).map V.bl))) ⟨hd1_of (same_upd nD) nD, upd_same⟩ (fun j H' _ z => SqT.of (hd1_le _ _ (z.1 _ _ hc1))) ?_ ?_
      · rintro j v H2 hv ⟨s2, hD⟩
        obtain ⟨rr, r, rfl, hrr, okr, lr, hj⟩ : ∃ rr r, v = .ref rr ∧ H1 rr = some (.tup (r.map V.int)) ∧ Row01' r ∧ r.length = m ∧ ([hrow p a, hrow p b])[j]? = some (hrow p r) := by
          rcases j with _ | _ | j
          · exact ⟨ra, a, (Option.some.inj hv).symm, hd1_le _ _ (s1 _ _ ha), ok.oa, ok.la, rfl⟩
          · exact ⟨rb, b, (Option.some.inj hv).symm, hd1_le _ _ (s1 _ _ hb), ok.ob, ok.lb, rfl⟩
          · cases hv
        have hj2 : j < 2 := (List.getElem?_eq_some_iff.mp hj).1
        refine ⟨rfl, .str (SX.S p), rfl, .ref rr, rfl, m, p, rr, r, rfl, okp', hd1_le _ _ (s2 _ _ hrr), okr, lr, fun H3 s3 => ?_⟩
        refine ⟨_, s3 _ _ hD, ?_, (s2.trans (hd1_same (p := D) s3)).trans hd1_upd, ?_⟩
        · rw [List.length_map, List.length_take]
          exact Nat.lt_of_lt_of_le (show min j 2 < 8 by omega) (by decide)
        · rw [upd_same, List.take_add_one, hj, List.map_append]
          rfl
      rintro H2 ⟨s2, hD⟩
      have s12 : Same H1 H2 := fun b o e => hd1_le _ _ (s2 _ _ e)
      have hD2 : H2 D = some (.lst [V.bl (hrow p a), V.bl (hrow p b)]) := hD
      have s12S : Same H (hd1 S H2) := s1.trans (hd1_same (p := S) s12)
      have hS2 := s12 _ _ hS1
      refine ⟨.ref D, rfl, D, _, rfl, .inl (SqL.of hD2), rfl, rfl, _, rfl, ?_⟩
      have ein : (if false = true then !inV (.bl true) [V.bl (hrow p a), V.bl (hrow p b)] else inV (.bl true) [V.bl (hrow p a), V.bl (hrow p b)]) = (hrow p a || hrow p b) := by
        cases hrow p a <;> cases hrow p b <;> rfl
      rw [ein]
      have acl : ((sortsM (ps.take i) a b).map V.int).length < sizeLine := by
        rw [List.length_map]
        have := sorts_len (ps.take i) a b
        rw [List.length_take] at this
        exact Nat.lt_of_lt_of_le (show _ < 128 by omega) (by decide)
      have done : ∀ (k : Int) (H3 : Hp), Same H2 H3 → sortM a b p = some k → Same H (hd1 S (upd H3 S (.lst ((sortsM (ps.take i) a b).map V.int ++ [.int k])))) ∧ upd H3 S (.lst ((sortsM (ps.take i) a b).map V.int ++ [.int k])) S = some (.lst ((sortsM (ps.take (i + 1)) a b).map V.int)) := fun k H3 s3 hk => by
        refine ⟨(s12S.trans (hd1_same (p := S) s3)).trans hd1_upd, ?_⟩
        rw [upd_same, sorts_take hp, hk, List.map_append]
        rfl
      refine ite2 (fun e => ?_) (fun e => ?_)
      · refine ⟨.ref S, rfl, .inl ⟨rfl, _, SqL.of hS2⟩, ?_⟩
        refine ⟨sl2, fun i1 n1 => ?_⟩
        have r1 := same_upd (o := (HO.lst [V.bl true, V.bl true])) n1
        have k1 : upd H2 i1 (HO.lst [V.bl true, V.bl true]) i1 = some (HO.lst [V.bl true, V.bl true]) := upd_same
        generalize upd H2 i1 (HO.lst [V.bl true, V.bl true]) = A1 at r1 k1 ⊢
        refine ⟨sl2, fun i2 n2 => ?_⟩
        have r2 := same_upd (o := (HO.lst [V.bl true, V.bl false])) n2
        have k2 : upd A1 i2 (HO.lst [V.bl true, V.bl false]) i2 = some (HO.lst [V.bl true, V.bl false]) := upd_same
        generalize upd A1 i2 (HO.lst [V.bl true, V.bl false]) = A2 at r2 k2 ⊢
        refine ⟨sl2, fun i3 n3 => ?_⟩
        have r3 := same_upd (o := (HO.lst [V.bl false, V.bl true])) n3
        have k3 : upd A2 i3 (HO.lst [V.bl false, V.bl true]) i3 = some (HO.lst [V.bl false, V.bl true]) := upd_same
        generalize upd A2 i3 (HO.lst [V.bl false, V.bl true]) = A3 at r3 k3 ⊢
        refine ⟨sl3, fun L nL => ?_⟩
        have r4 := same_upd (o := (HO.lst [V.ref i1, V.ref i2, V.ref i3])) nL
        have k4 : upd A3 L (HO.lst [V.ref i1, V.ref i2, V.ref i3]) L = some (HO.lst [V.ref i1, V.ref i2, V.ref i3]) := upd_same
        generalize upd A3 L (HO.lst [V.ref i1, V.ref i2, V.ref i3]) = A4 at r4 k4 ⊢
        have sA := ((r1.trans r2).trans r3).trans r4
        have dpL : Dp K A4 (.ref L) (.list [.list [.bool true, .bool true], .list [.bool true, .bool false], .list [.bool false, .bool true]]) :=
          .lst (SqL.of k4) (.cons (.lst (SqL.of (r4 _ _ (r3 _ _ (r2 _ _ k1)))) (.cons (.bl _) (.cons (.bl _) .nil))) (.cons (.lst (SqL.of (r4 _ _ (r3 _ _ k2))) (.cons (.bl _) (.cons (.bl _) .nil))) (.cons (.lst (SqL.of (r4 _ _ k3)) (.cons (.bl _) (.cons (.bl _) .nil))) .nil)))
        have dpD : Dp K A4 (.ref D) (.list [.bool (hrow p a), .bool (hrow p b)]) := .lst (SqL.of (sA _ _ hD2)) (.cons (.bl _) (.cons (.bl _) .nil))
        refine ⟨.inl ⟨rfl, _, SqL.of k4⟩, .ref D, rfl, ?_⟩
        have shD : SeqAt.shaped (.list [.bool (hrow p a), .bool (hrow p b)]) = true := rfl
        have hS4 := sA _ _ hS2
        cases ea : hrow p a
        · cases eb : hrow p b
          · rw [ea, eb] at e; cases e
          · rw [ea, eb] at dpD shD
            have hk : sortM a b p = some 2 := by unfold sortM; rw [ea, eb]; rfl
            refine ⟨L, .ref D, _, _, 2, _, rfl, rfl, dpL, dpD, rfl, shD, rfl, rfl, fun z z' hz hz' => ?_, S, _, _, rfl, rfl, hS4, acl, ?_⟩
            · rcases z with _ | _ | z
              · obtain rfl := Option.some.inj hz'; rfl
              · obtain rfl := Option.some.inj hz'; rfl
              · omega
            · exact ⟨_, _, _, _, rfl, done 2 A4 sA hk⟩
        · cases eb : hrow p b
          · rw [ea, eb] at dpD shD
            have hk : sortM a b p = some 1 := by unfold sortM; rw [ea, eb]; rfl
            refine ⟨L, .ref D, _, _, 1, _, rfl, rfl, dpL, dpD, rfl, shD, rfl, rfl, fun z z' hz hz' => ?_, S, _, _, rfl, rfl, hS4, acl, ?_⟩
            · rcases z with _ | z
              · obtain rfl := Option.some.inj hz'; rfl
              · omega
            · exact ⟨_, _, _, _, rfl, done 1 A4 sA hk⟩
          · rw [ea, eb] at dpD shD
            have hk : sortM a b p = some 0 := by unfold sortM; rw [ea, eb]; rfl
            refine ⟨L, .ref D, _, _, 0, _, rfl, rfl, dpL, dpD, rfl, shD, rfl, rfl, fun z z' hz hz' => absurd hz (Nat.not_lt_zero _), S, _, _, rfl, rfl, hS4, acl, ?_⟩
            exact ⟨_, _, _, _, rfl, done 0 A4 sA hk⟩
      · have ea : hrow p a = false := by cases z : hrow p a <;> simp [z] at e ⊢
        have eb : hrow p b = false := by cases z : hrow p b <;> simp [z] at e ⊢
        refine ⟨.str (SX.S p), rfl, .ref c, rfl, p, c, m, a, b, rfl, okp', ⟨ra, rb, s12 _ _ hc1, s12 _ _ (hd1_le _ _ (s1 _ _ ha)), s12 _ _ (hd1_le _ _ (s1 _ _ hb))⟩, ok, fun H3 s3 => ⟨_, rfl, ite2 (fun z => ?_) (fun z => ?_)⟩⟩
        · refine ⟨.ref S, rfl, .inl ⟨rfl, _, SqL.of (s3 _ _ hS2)⟩, S, _, _, rfl, rfl, s3 _ _ hS2, acl, ?_⟩
          exact ⟨_, _, _, _, rfl, done 3 H3 s3 (by unfold sortM; rw [ea, eb, z]; rfl)⟩
        · refine ⟨_, _, _, _, rfl, s12S.trans (hd1_same (p := S) s3), ?_⟩
          have hk : sortM a b p = none := by unfold sortM; rw [ea, eb]; simp [z]
          rw [sorts_take hp, hk]
          show H3 S = some (.lst ((_ ++ []).map V.int))
          rw [List.append_nil]
          exact s3 _ _ hS2
    · rintro σ H1 ⟨y3, y4, y5, y6, rfl, s1, hS1⟩
      have lV : (pVs ps).length = ps.length := by unfold pVs; rw [List.length_map]
      rw [lV, List.take_length] at hS1
      have s1' : Same H H1 := fun b o e => hd1_le _ _ (s1 _ _ e)
      refine ⟨4, rfl, by decide, by decide, fun D nD => ?_⟩
      refine lc_range (lo := 0) (n := (4 : Int).toNat) (fun j H' => Same H1 (hd1 D H') ∧ H' D = some (.lst (((cnt4 ps a b).take j).map V.int))) ⟨hd1_of (same_upd nD) nD, upd_same⟩ ?_ ?_
      · rintro j H2 hj ⟨s2, hD⟩
        have hj' : j < 4 := hj
        refine ⟨rfl, .ref S, rfl, .inl ⟨rfl, _, SqL.of (hd1_le _ _ (s2 _ _ hS1))⟩, .int (0 + (j : Int)), rfl, S, sortsM ps a b, _, rfl, rfl, SqL.of (hd1_le _ _ (s2 _ _ hS1)), ?_⟩
        refine ⟨_, hD, ?_, s2.trans hd1_upd, ?_⟩
        · rw [List.length_map, List.length_take]
          exact Nat.lt_of_lt_of_le (show _ < 8 by omega) (by decide)
        · have : (cnt4 ps a b)[j]? = some (((sortsM ps a b).count (0 + (j : Int)) : Nat) : Int) := by
            unfold cnt4
            rcases j with _ | _ | _ | _ | j
            · rfl
            · rfl
            · rfl
            · rfl
            · omega
          rw [upd_same, List.take_add_one, this, List.map_append]
          rfl
      · rintro H2 ⟨s2, hD⟩
        exact q D H2 (s1'.trans fun b o e => hd1_le _ _ (s2 _ _ e)) hD

end
end Gk

set_option Elab.async false
set_option linter.all false
set_option maxRecDepth 100000
set_option maxHeartbeats 1000000
set_option pp.maxSteps 4500
set_option pp.deepTerms false
namespace Gk
open PySem PySem.Spec PyProof.Rows L2

section
variable {P : Program} {w : World} {K : PySem.W.Frag} {mg : Str → Option Value} {base : Heap}
/-! ### the most, by all ways of stepping -/
def onM (R h l e : Nat) : Bool := decide (l < R) || decide (0 < h + e)
def FM (R h l e w : Nat) : Nat := if l < R then 0 else (if 0 < h + e then 1 else 0) + 2 * w + (if 0 < R then 1 else 0)
def stpM (h l e w : Nat) : List (Nat × Nat × Nat × Nat) := (if 0 < h then [(h - 1, l, e, w)] else []) ++ (if 0 < l then [(h, l - 1, e, w)] else []) ++ (if 0 < e then [(h, l, e - 1, w)] else []) ++ (if 0 < w then [(h, l, e + 1, w - 1)] else [])
def valM (R h l e w : Nat) (s : Nat × Nat × Nat × Nat) : Nat := FM R s.1 s.2.1 s.2.2.1 s.2.2.2 + (if onM R s.1 s.2.1 s.2.2.1 = onM R h l e then 0 else 1)
theorem on_eq {R h l e : Nat} : onM R h l e = decide (l < R ∨ 0 < h + e) := by unfold onM; rw [Bool.decide_or]
theorem val_def {R h l e w h' l' e' w' : Nat} : valM R h l e w (h', l', e', w') = FM R h' l' e' w' + (if (l' < R ∨ 0 < h' + e') ↔ (l < R ∨ 0 < h + e) then 0 else 1) := by
  unfold valM
  rw [on_eq, on_eq]
  congr 1
  by_cases z : (l' < R ∨ 0 < h' + e') ↔ (l < R ∨ 0 < h + e)
  · rw [if_pos z, if_pos (by show decide _ = decide _; rw [decide_eq_decide]; exact z)]
  · rw [if_neg z, if_neg (fun k => z (decide_eq_decide.mp k))]
theorem val_le {R h l e w : Nat} (hl : l ≤ R) : ∀ s ∈ stpM h l e w, valM R h l e w s ≤ FM R h l e w := by
  intro s hs
  unfold stpM at hs
  simp only [List.mem_append] at hs
  rcases hs with ((hs | hs) | hs) | hs <;> split at hs <;> first | exact absurd hs (List.not_mem_nil) | (rw [List.mem_singleton.mp hs, val_def]; unfold FM; (repeat' split) <;> omega)
theorem val_eq {R h l e w : Nat} (hl : l ≤ R) : FM R h l e w = 0 ∨ ∃ s ∈ stpM h l e w, valM R h l e w s = FM R h l e w := by
  by_cases h0 : l < R
  · left; unfold FM; rw [if_pos h0]
  by_cases hh : 0 < h
  · right
    refine ⟨(h - 1, l, e, w), by unfold stpM; rw [if_pos hh]; simp, ?_⟩
    rw [val_def]; unfold FM; (repeat' split) <;> omega
  by_cases he : 0 < e
  · right
    refine ⟨(h, l, e - 1, w), by unfold stpM; rw [if_pos he]; simp, ?_⟩
    rw [val_def]; unfold FM; (repeat' split) <;> omega
  by_cases hw : 0 < w
  · right
    refine ⟨(h, l, e + 1, w - 1), by unfold stpM; rw [if_pos hw]; simp, ?_⟩
    rw [val_def]; unfold FM; (repeat' split) <;> omega
  by_cases hl' : 0 < l
  · right
    refine ⟨(h, l - 1, e, w), by unfold stpM; rw [if_pos hl']; simp, ?_⟩
    rw [val_def]; unfold FM; (repeat' split) <;> omega
  left
  unfold FM; (repeat' split) <;> omega

def ky (h l e w : Nat) : List Key := [.inl h, .inl l, .inl e, .inl w]
def DoneM (R Fa P : Nat) (kvs : List (List Key × V)) (w e l h : Nat) : Prop := ∀ h' l' e' w' : Nat, h' ≤ Fa → l' ≤ R → e' + w' ≤ P → (w' < w ∨ (w' = w ∧ (e' < e ∨ (e' = e ∧ (l' < l ∨ (l' = l ∧ h' < h)))))) → valV kvs (ky h' l' e' w') = some (.int (FM R h' l' e' w' : Nat))
theorem ky_inj {h l e w h' l' e' w' : Nat} (z : ky h l e w = ky h' l' e' w') : h = h' ∧ l = l' ∧ e = e' ∧ w = w' := by
  unfold ky at z
  simp only [List.cons.injEq, Sum.inl.injEq, and_true] at z
  omega
theorem DoneM.put {R Fa P w e l h : Nat} {kvs : List (List Key × V)} (D : DoneM R Fa P kvs w e l h) : DoneM R Fa P (putK kvs (ky h l e w) (.int (FM R h l e w : Nat))) w e l (h + 1) := fun h' l' e' w' a b c d => by
  rw [valV_put]
  by_cases z : ky h' l' e' w' = ky h l e w
  · rw [if_pos z]
    obtain ⟨rfl, rfl, rfl, rfl⟩ := ky_inj z
    rfl
  · rw [if_neg z]
    refine D h' l' e' w' a b c ?_
    rcases d with d | ⟨rfl, d | ⟨rfl, d | ⟨rfl, d⟩⟩⟩
    · exact .inl d
    · exact .inr ⟨rfl, .inl d⟩
    · exact .inr ⟨rfl, .inr ⟨rfl, .inl d⟩⟩
    · by_cases e1 : h' = h
      · exact absurd (by rw [e1]) z
      · exact .inr ⟨rfl, .inr ⟨rfl, .inr ⟨rfl, by omega⟩⟩⟩
theorem put_len (kvs : List (List Key × V)) (k : List Key) (v : V) : (putK kvs k v).length ≤ kvs.length + 1 := by
  unfold putK
  split
  · rw [List.length_map]; omega
  · rw [List.length_append]; exact Nat.le_refl _
abbrev St4 := Nat × Nat × Nat × Nat
def q4 (s : St4) : List V := [.int (s.1 : Nat), .int (s.2.1 : Nat), .int (s.2.2.1 : Nat), .int (s.2.2.2 : Nat)]
def StAt (H : Hp) (xs : List V) (sts : List St4) : Prop := xs.length = sts.length ∧ ∀ (i : Nat) (s : St4), sts[i]? = some s → ∃ a, xs[i]? = some (.ref a) ∧ H a = some (.tup (q4 s))
theorem StAt.ts {H H' : Hp} {xs : List V} {sts : List St4} (S : StAt H xs sts) (t : Ts H H') : StAt H' xs sts := ⟨S.1, fun i s h => by
  obtain ⟨a, h1, h2⟩ := S.2 i s h
  exact ⟨a, h1, t _ _ h2⟩⟩
theorem StAt.snoc {H : Hp} {xs : List V} {sts : List St4} {a : Addr} {s : St4} (S : StAt H xs sts) (h : H a = some (.tup (q4 s))) : StAt H (xs ++ [.ref a]) (sts ++ [s]) := by
  refine ⟨by rw [List.length_append, List.length_append, S.1]; rfl, fun i s' hi => ?_⟩
  by_cases lt : i < sts.length
  · rw [List.getElem?_append_left lt] at hi
    obtain ⟨b, h1, h2⟩ := S.2 i s' hi
    exact ⟨b, by rw [List.getElem?_append_left (by rw [S.1]; exact lt)]; exact h1, h2⟩
  · rw [List.getElem?_append_right (by omega)] at hi
    have : i - sts.length = 0 := by
      have := (List.getElem?_eq_some_iff.mp hi).1
      simp at this
      omega
    rw [this] at hi
    obtain rfl : s = s' := Option.some.inj hi
    exact ⟨a, by rw [List.getElem?_append_right (by rw [S.1]; omega), S.1, this]; rfl, h⟩
theorem Ts.updL {H : Hp} {p : Addr} {xs : List V} {o : HO} (h : H p = some (.lst xs)) : Ts H (upd H p o) := fun b ys e => by
  rw [upd_ne (ne_of e h (by intro z; cases z))]
  exact e
theorem none_back {H1 Hx : Hp} {M S : Addr} (s : Same H1 (hd1 M Hx)) (n : Hx S = none) : H1 S = none := by
  cases e : H1 S with
  | none => rfl
  | some o =>
    have := hd1_le _ _ (s _ _ e)
    rw [n] at this
    cases this
theorem same_hd_upd {H1 Hx : Hp} {M S : Addr} {o : HO} (s : Same H1 (hd1 M Hx)) (n : H1 S = none) : Same H1 (hd1 M (upd Hx S o)) := fun b u e => by
  have nb : b ≠ S := ne_of_none e n
  have := s b u e
  unfold hd1 at this ⊢
  rw [upd_ne nb]
  exact this
theorem len4a (h l e w : Nat) : (if 0 < h then [(h - 1, l, e, w)] else []).length ≤ 4 := by split <;> simp
theorem len4b (h l e w : Nat) : ((if 0 < h then [(h - 1, l, e, w)] else []) ++ (if 0 < l then [(h, l - 1, e, w)] else [])).length ≤ 4 := by rw [List.length_append]; split <;> split <;> simp
theorem len4c (h l e w : Nat) : ((if 0 < h then [(h - 1, l, e, w)] else []) ++ (if 0 < l then [(h, l - 1, e, w)] else []) ++ (if 0 < e then [(h, l, e - 1, w)] else [])).length ≤ 4 := by rw [List.length_append, List.length_append]; split <;> split <;> split <;> simp
theorem len4d (h l e w : Nat) : (stpM h l e w).length ≤ 4 := by
  unfold stpM
  rw [List.length_append, List.length_append, List.length_append]
  split <;> split <;> split <;> split <;> simp
theorem st_dom {h l e w Fa R P0 h' l' e' w' : Nat} (hm : (h', l', e', w') ∈ stpM h l e w) (hh : h ≤ Fa) (hl : l ≤ R) (he : e + w ≤ P0) : h' ≤ Fa ∧ l' ≤ R ∧ e' + w' ≤ P0 ∧ (w' < w ∨ (w' = w ∧ (e' < e ∨ (e' = e ∧ (l' < l ∨ (l' = l ∧ h' < h)))))) := by
  unfold stpM at hm
  simp only [List.mem_append] at hm
  rcases hm with ((hm | hm) | hm) | hm <;> split at hm <;> first | exact absurd hm (List.not_mem_nil) | (have := List.mem_singleton.mp hm; simp only [Prod.mk.injEq] at this; omega)
def mostM (ps : List (List Nat)) (a b : List Int) : Int := if 0 < (sortsM ps a b).count 0 then 0 else (FM ((sortsM ps a b).count 2) ((sortsM ps a b).count 1) ((sortsM ps a b).count 2) 0 ((sortsM ps a b).count 3) : Nat)
def sp_most (K : PySem.W.Frag) : Sp := fun vs H Q _ => ∃ (cv c : Addr) (m : Nat) (ps : List (List Nat)) (a b : List Int), vs = [.ref cv, .ref c] ∧ CovAt H cv m ps ∧ CovOk m ps ∧ ps.length ≤ 20 ∧ ChAt H c a b ∧ ChOk m a b ∧ ∀ H', Same H H' → Q (.int (mostM ps a b)) H'
theorem ok_most (T : Tx K mg) : FnOk P w K mg base CX0 4 T.f_most T.fd_most ["_law_cover_here", "_law_change_here"] (sp_most K) := by
  refine T.F_most.ok sc_most (fun vs H Q E h => ?_) (fun cdv A outer s H vs Q E hr h => ?_)
  · obtain ⟨cv, c, m, ps, a, b, rfl, _⟩ := h
    rfl
  · obtain ⟨cv, c, m, ps, a, b, rfl, hcv, okp, l20, hch, ok, q⟩ := h
    refine ⟨_, (pss_cons (ps_asg (pe_call (ok_sorts T) (hr.mono (by decide)) (by rfl) T.g_sorts T.F_sorts.kp T.b_sorts .nil pass0 (pa_cons (pv 0) (pa_cons (pv 1) pa_nil))) (pg_lst rfl (pgs_cons (pg_name (i := 2) sc_most.nd rfl (by first | exact .inl rfl | exact .inr rfl)) (pgs_cons (pg_name (i := 3) sc_most.nd rfl (by first | exact .inl rfl | exact .inr rfl)) (pgs_cons (pg_name (i := 4) sc_most.nd rfl (by first | exact .inl rfl | exact .inr rfl)) (pgs_cons (pg_name (i := 5) sc_most.nd rfl (by first | exact .inl rfl | exact .inr rfl)) pgs_nil)))))) (pss_cons (ps_if (pt_cmpR op_gt (pv 2) pe_int (nomark _)) (pss_one (ps_ret pe_int)) pss_nil) (pss_cons (ps_set (i := 6) sc_most.nd rfl (by first | exact .inl rfl | exact .inr rfl) pe_dnewT) (pss_cons (ps_for PassesOwn.never rfl (pi_range1 (by rfl) T.m_range (pa_cons (pe_op op_add (pv 5) pe_int) pa_nil)) (pg_name (i := 7) sc_most.nd rfl (by first | exact .inl rfl | exact .inr rfl)) (pss_one (ps_for PassesOwn.never rfl (pi_range1 (by rfl) T.m_range (pa_cons (pe_op op_add (pe_op op_sub (pv 5) (pv 7)) pe_int) pa_nil)) (pg_name (i := 8) sc_most.nd rfl (by first | exact .inl rfl | exact .inr rfl)) (pss_one (ps_for PassesOwn.never rfl (pi_range1 (by rfl) T.m_range (pa_cons (pe_op op_add (pv 4) pe_int) pa_nil)) (pg_name (i := 9) sc_most.nd rfl (by first | exact .inl rfl | exact .inr rfl)) (pss_one (ps_for PassesOwn.never rfl (pi_range1 (by rfl) T.m_range (pa_cons (pe_op op_add (pv 3) pe_int) pa_nil)) (pg_name (i := 10) sc_most.nd rfl (by first | exact .inl rfl | exact .inr rfl)) (pss_cons (ps_set (i := 11) sc_most.nd rfl (by first | exact .inl rfl | exact .inr rfl) (pe_lst pa_nil)) (C8.pss_cut (ps_if (pt_cut (pt_cmpR op_gt (pv 10) pe_int (nomark _))) (pss_one (ps_expr (pe_bm PySem.F.plainAttrs_list PySem.F.slot_list_append PySem.F.type_list_append mt_append (pv 11) (pa_cons (pe_tup (pa_cons (pe_op op_sub (pv 10) pe_int) (pa_cons (pv 9) (pa_cons (pv 8) (pa_cons (pv 7) pa_nil))))) pa_nil)))) pss_nil) (C8.pss_cut (ps_if (pt_cut (pt_cmpR op_gt (pv 9) pe_int (nomark _))) (pss_one (ps_expr (pe_bm PySem.F.plainAttrs_list PySem.F.slot_list_append PySem.F.type_list_append mt_append (pv 11) (pa_cons (pe_tup (pa_cons (pv 10) (pa_cons (pe_op op_sub (pv 9) pe_int) (pa_cons (pv 8) (pa_cons (pv 7) pa_nil))))) pa_nil)))) pss_nil) (C8.pss_cut (ps_if (pt_cut (pt_cmpR op_gt (pv 8) pe_int (nomark _))) (pss_one (ps_expr (pe_bm PySem.F.plainAttrs_list PySem.F.slot_list_append PySem.F.type_list_append mt_append (pv 11) (pa_cons (pe_tup (pa_cons (pv 10) (pa_cons (pv 9) (pa_cons (pe_op op_sub (pv 8) pe_int) (pa_cons (pv 7) pa_nil))))) pa_nil)))) pss_nil) (C8.pss_cut (ps_if (pt_cut (pt_cmpR op_gt (pv 7) pe_int (nomark _))) (pss_one (ps_expr (pe_bm PySem.F.plainAttrs_list PySem.F.slot_list_append PySem.F.type_list_append mt_append (pv 11) (pa_cons (pe_tup (pa_cons (pv 10) (pa_cons (pv 9) (pa_cons (pe_op op_add (pv 8) pe_int) (pa_cons (pe_op op_sub (pv 7) pe_int) pa_nil))))) pa_nil)))) pss_nil) (pss_cons (ps_set (i := 12) sc_most.nd rfl (by first | exact .inl rfl | exact .inr rfl) (pe_cmpR op_gt (pe_op op_add (pe_op op_sub (pe_op op_add (pv 10) (pv 4)) (pv 9)) (pv 8)) pe_int (nomark _))) (pss_cons (ps_set (i := 13) sc_most.nd rfl (by first | exact .inl rfl | exact .inr rfl) (pe_lst (pa_cons pe_int pa_nil))) (pss_cons (ps_for PassesOwn.never rfl (pi_list (pv 11)) (pg_name (i := 14) sc_most.nd rfl (by first | exact .inl rfl | exact .inr rfl)) (pss_cons (ps_set (i := 15) sc_most.nd rfl (by first | exact .inl rfl | exact .inr rfl) (pe_cmpR op_gt (pe_op op_add (pe_op op_sub (pe_op op_add (pe_ix ix_tup (pv 14) pe_int (fun _ _ => rfl)) (pv 4)) (pe_ix ix_tup (pv 14) pe_int (fun _ _ => rfl))) (pe_ix ix_tup (pv 14) pe_int (fun _ _ => rfl))) pe_int (nomark _))) (pss_one (ps_expr (pe_bm PySem.F.plainAttrs_list PySem.F.slot_list_append PySem.F.type_list_append mt_append (pv 13) (pa_cons (pe_op op_add (pe_dget (hu_of hr) (pv 6) (pv 14) (fun _ _ => rfl)) (pe_callTy call_int1 (by rfl) T.m_int (by decide +kernel) (pa_cons (pe_cmpR op_ne (pv 15) (pv 12) (nomark _)) pa_nil))) pa_nil)))))) (pss_one (ps_dput (hu_of hr) (pv 6) (pe_tup (pa_cons (pv 10) (pa_cons (pv 9) (pa_cons (pv 8) (pa_cons (pv 7) pa_nil))))) (pe_callB (cr_max rfl) (by rfl) T.m_max (by decide +kernel) (pa_cons (pv 13) pa_nil)) rfl))))))))))))))))) (pss_one (ps_ret (pe_dget (hu_of hr) (pv 6) (pe_tup (pa_cons (pv 3) (pa_cons (pv 4) (pa_cons pe_int (pa_cons (pv 5) pa_nil))))) (fun _ _ => rfl)))))))), ?_⟩
    have cl : ∀ k : Int, (sortsM ps a b).count k ≤ 20 := fun k => Nat.le_trans List.count_le_length (Nat.le_trans (sorts_len ps a b) l20)
    refine ⟨.ref cv, rfl, .ref c, rfl, cv, c, m, ps, a, b, rfl, hcv, okp, Nat.le_trans l20 (by decide), hch, ok, fun r H1 s1 hr1 => ?_⟩
    have hr1' : H1 r = some (.lst [.int ((sortsM ps a b).count 0 : Nat), .int ((sortsM ps a b).count 1 : Nat), .int ((sortsM ps a b).count 2 : Nat), .int ((sortsM ps a b).count 3 : Nat)]) := hr1
    have c0 := cl 0
    have c1 := cl 1
    have c2 := cl 2
    have c3 := cl 3
    unfold mostM at q
    clear hr1
    revert q hr1' c0 c1 c2 c3
    generalize (sortsM ps a b).count 0 = A0
    generalize (sortsM ps a b).count 1 = Fa
    generalize (sortsM ps a b).count 2 = R
    generalize (sortsM ps a b).count 3 = P0
    intro q hr1 c0 c1 c2 c3
    refine ⟨r, _, rfl, SqL.of hr1, rfl, _, _, rfl, _, _, rfl, _, _, rfl, _, _, rfl, rfl, ?_⟩
    refine ⟨.int (A0 : Nat), rfl, _, _, rfl, rfl, _, rfl, ite2 (fun e => ?_) (fun e => ?_)⟩
    · have e' : 0 < A0 := by have := of_decide_eq_true e; omega
      have r := q H1 s1
      rw [if_pos e'] at r
      exact r
    have e' : ¬ 0 < A0 := fun z => e (decide_eq_true (by omega))
    rw [if_neg e'] at q
    refine fun M nM => ?_
    have s2 := same_upd (o := (HO.dT [])) nM
    have hM : upd H1 M (HO.dT []) M = some (HO.dT []) := upd_same
    generalize upd H1 M (HO.dT []) = H2 at s2 hM ⊢
    have sM : Same H1 (hd1 M H2) := hd1_of s2 nM
    refine ⟨.int (P0 : Nat), rfl, _, _, rfl, rfl, (P0 : Int) + 1, rfl, by omega, by omega, ?_⟩
    refine for_range (lo := 0) (n := ((P0 : Int) + 1).toNat) (fun i σ H' => ∃ kvs y7 y8 y9 y10 y11 y12 y13 y14 y15, σ = [some (.ref cv), some (.ref c), some (.int (A0 : Nat)), some (.int (Fa : Nat)), some (.int (R : Nat)), some (.int (P0 : Nat)), some (.ref M), y7, y8, y9, y10, y11, y12, y13, y14, y15] ∧ Same H1 (hd1 M H') ∧ H' M = some (.dT kvs) ∧ DoneM R Fa P0 kvs i 0 0 0 ∧ kvs.length ≤ i * 9261)
      ⟨[], _, _, _, _, _, _, _, _, _, rfl, sM, hM, fun h' l' e' w' _ _ _ d => absurd d (by omega), Nat.zero_le _⟩ ?_ ?_
    · rintro w σ H3 hw ⟨kvs, y7, y8, y9, y10, y11, y12, y13, y14, y15, rfl, sM3, hM3, D3, lk3⟩
      have hw' : w ≤ P0 := by have : w < ((P0 : Int) + 1).toNat := hw; omega
      rw [Int.zero_add]
      refine ⟨.int (P0 : Nat), rfl, .int (w : Nat), rfl, _, _, rfl, rfl, _, _, rfl, rfl, (P0 : Int) - w + 1, rfl, by omega, by omega, ?_⟩
      refine for_range (lo := 0) (n := ((P0 : Int) - w + 1).toNat) (fun i σ H' => ∃ kvs y8 y9 y10 y11 y12 y13 y14 y15, σ = [some (.ref cv), some (.ref c), some (.int (A0 : Nat)), some (.int (Fa : Nat)), some (.int (R : Nat)), some (.int (P0 : Nat)), some (.ref M), some (.int (w : Nat)), y8, y9, y10, y11, y12, y13, y14, y15] ∧ Same H1 (hd1 M H') ∧ H' M = some (.dT kvs) ∧ DoneM R Fa P0 kvs w i 0 0 ∧ kvs.length ≤ (w * 21 + i) * 441)
        ⟨kvs, _, _, _, _, _, _, _, _, rfl, sM3, hM3, fun h' l' e' w' a b c d => D3 h' l' e' w' a b c (by omega), by omega⟩ ?_ ?_
      · rintro e σ H4 he ⟨kvs, y8, y9, y10, y11, y12, y13, y14, y15, rfl, sM4, hM4, D4, lk4⟩
        have he' : e + w ≤ P0 := by have : e < ((P0 : Int) - w + 1).toNat := he; omega
        rw [Int.zero_add]
        refine ⟨.int (R : Nat), rfl, _, _, rfl, rfl, (R : Int) + 1, rfl, by omega, by omega, ?_⟩
        refine for_range (lo := 0) (n := ((R : Int) + 1).toNat) (fun i σ H' => ∃ kvs y9 y10 y11 y12 y13 y14 y15, σ = [some (.ref cv), some (.ref c), some (.int (A0 : Nat)), some (.int (Fa : Nat)), some (.int (R : Nat)), some (.int (P0 : Nat)), some (.ref M), some (.int (w : Nat)), some (.int (e : Nat)), y9, y10, y11, y12, y13, y14, y15] ∧ Same H1 (hd1 M H') ∧ H' M = some (.dT kvs) ∧ DoneM R Fa P0 kvs w e i 0 ∧ kvs.length ≤ ((w * 21 + e) * 21 + i) * 21)
          ⟨kvs, _, _, _, _, _, _, _, rfl, sM4, hM4, D4, by omega⟩ ?_ ?_
        · rintro l σ H5 hl ⟨kvs, y9, y10, y11, y12, y13, y14, y15, rfl, sM5, hM5, D5, lk5⟩
          have hl' : l ≤ R := by have : l < ((R : Int) + 1).toNat := hl; omega
          rw [Int.zero_add]
          refine ⟨.int (Fa : Nat), rfl, _, _, rfl, rfl, (Fa : Int) + 1, rfl, by omega, by omega, ?_⟩
          refine for_range (lo := 0) (n := ((Fa : Int) + 1).toNat) (fun i σ H' => ∃ kvs y10 y11 y12 y13 y14 y15, σ = [some (.ref cv), some (.ref c), some (.int (A0 : Nat)), some (.int (Fa : Nat)), some (.int (R : Nat)), some (.int (P0 : Nat)), some (.ref M), some (.int (w : Nat)), some (.int (e : Nat)), some (.int (l : Nat)), y10, y11, y12, y13, y14, y15] ∧ Same H1 (hd1 M H') ∧ H' M = some (.dT kvs) ∧ DoneM R Fa P0 kvs w e l i ∧ kvs.length ≤ ((w * 21 + e) * 21 + l) * 21 + i)
            ⟨kvs, _, _, _, _, _, _, rfl, sM5, hM5, D5, by omega⟩ ?_ ?_
          · rintro h σ H6 hh ⟨kvs, y10, y11, y12, y13, y14, y15, rfl, sM6, hM6, D6, lk6⟩
            have hh' : h ≤ Fa := by have : h < ((Fa : Int) + 1).toNat := hh; omega
            rw [Int.zero_add]
            refine ⟨Nat.zero_le _, fun S nS => ?_⟩
            have u0 := same_upd (o := (HO.lst [])) nS
            have hS0 : upd H6 S (HO.lst []) S = some (HO.lst []) := upd_same
            generalize upd H6 S (HO.lst []) = X0 at u0 hS0 ⊢
            have n1S := none_back sM6 nS
            have sX0 : Same H1 (hd1 M X0) := sM6.trans (hd1_same (p := M) u0)
            have hM0 := u0 _ _ hM6
            have st0 : StAt X0 [] ([] : List St4) := ⟨rfl, fun i s h => by cases h⟩
            -- h
            refine ⟨fun σ H' => ∃ xs y12 y13 y14 y15, σ = [some (.ref cv), some (.ref c), some (.int (A0 : Nat)), some (.int (Fa : Nat)), some (.int (R : Nat)), some (.int (P0 : Nat)), some (.ref M), some (.int (w : Nat)), some (.int (e : Nat)), some (.int (l : Nat)), some (.int (h : Nat)), some (.ref S), y12, y13, y14, y15] ∧ Same H1 (hd1 M H') ∧ H' M = some (.dT kvs) ∧ H' S = some (.lst xs) ∧ StAt H' xs ([] ++ (if 0 < h then [(h - 1, l, e, w)] else [])), ?_, ?_⟩
            · refine ⟨fun z H' => X0 = H' ∧ z = decide ((0 : Int) < (h : Nat)), ⟨.int (h : Nat), rfl, _, _, rfl, rfl, _, rfl, rfl, rfl⟩, ?_⟩
              rintro z _ ⟨rfl, rfl⟩
              refine ite2 (fun ec => ?_) (fun ec => ?_)
              · have ec' : 0 < h := by have := of_decide_eq_true ec; omega
                refine ⟨.ref S, rfl, .inl ⟨rfl, _, SqL.of hS0⟩, .int (h : Nat), rfl, _, _, rfl, rfl, .int (l : Nat), rfl, .int (e : Nat), rfl, .int (w : Nat), rfl, (by show 4 ≤ sizeLine; decide), fun t nt => ?_⟩
                have et : (HO.tup [V.int ((h : Int) - 1), V.int (l : Nat), V.int (e : Nat), V.int (w : Nat)]) = HO.tup (q4 (h - 1, l, e, w)) := by
                  unfold q4
                  show HO.tup _ = HO.tup [V.int (_ : Nat), V.int (_ : Nat), V.int (_ : Nat), V.int (_ : Nat)]
                  rw [show ((h : Int) - 1) = ((h - 1 : Nat) : Int) from by omega]
                have ut := same_upd (o := HO.tup [V.int ((h : Int) - 1), V.int (l : Nat), V.int (e : Nat), V.int (w : Nat)]) nt
                have ht : upd X0 t (HO.tup [V.int ((h : Int) - 1), V.int (l : Nat), V.int (e : Nat), V.int (w : Nat)]) t = some (HO.tup (q4 (h - 1, l, e, w))) := by rw [upd_same, et]
                generalize upd X0 t (HO.tup [V.int ((h : Int) - 1), V.int (l : Nat), V.int (e : Nat), V.int (w : Nat)]) = Y at ut ht ⊢
                have hsY := ut _ _ hS0
                refine ⟨S, _, _, rfl, rfl, hsY, ?_, _, _, _, _, _, rfl, same_hd_upd (sX0.trans (hd1_same (p := M) ut)) n1S, by rw [upd_ne (ne_of (ut _ _ hM0) hsY (by intro z; cases z))]; exact ut _ _ hM0, upd_same, ?_⟩
                · rw [st0.1]
                  exact Nat.lt_of_le_of_lt (show [].length ≤ 4 by decide) (by decide)
                · rw [if_pos ec']
                  exact (st0.ts (fun b xs e => ut _ _ e)).snoc ht |>.ts (Ts.updL hsY)
              · have ec' : ¬ 0 < h := fun z => ec (decide_eq_true (by omega))
                refine ⟨_, _, _, _, _, rfl, sX0, hM0, hS0, ?_⟩
                rw [if_neg ec', List.append_nil]
                exact st0
            rintro σ X1 ⟨xs1, y12, y13, y14, y15, rfl, sX1, hMx1, hS1, st1⟩
            -- l
            refine ⟨fun σ H' => ∃ xs y12 y13 y14 y15, σ = [some (.ref cv), some (.ref c), some (.int (A0 : Nat)), some (.int (Fa : Nat)), some (.int (R : Nat)), some (.int (P0 : Nat)), some (.ref M), some (.int (w : Nat)), some (.int (e : Nat)), some (.int (l : Nat)), some (.int (h : Nat)), some (.ref S), y12, y13, y14, y15] ∧ Same H1 (hd1 M H') ∧ H' M = some (.dT kvs) ∧ H' S = some (.lst xs) ∧ StAt H' xs ((if 0 < h then [(h - 1, l, e, w)] else []) ++ (if 0 < l then [(h, l - 1, e, w)] else [])), ?_, ?_⟩
            · refine ⟨fun z H' => X1 = H' ∧ z = decide ((0 : Int) < (l : Nat)), ⟨.int (l : Nat), rfl, _, _, rfl, rfl, _, rfl, rfl, rfl⟩, ?_⟩
              rintro z _ ⟨rfl, rfl⟩
              refine ite2 (fun ec => ?_) (fun ec => ?_)
              · have ec' : 0 < l := by have := of_decide_eq_true ec; omega
                refine ⟨.ref S, rfl, .inl ⟨rfl, _, SqL.of hS1⟩, .int (h : Nat), rfl, .int (l : Nat), rfl, _, _, rfl, rfl, .int (e : Nat), rfl, .int (w : Nat), rfl, (by show 4 ≤ sizeLine; decide), fun t nt => ?_⟩
                have et : (HO.tup [V.int (h : Nat), V.int ((l : Int) - 1), V.int (e : Nat), V.int (w : Nat)]) = HO.tup (q4 (h, l - 1, e, w)) := by
                  unfold q4
                  show HO.tup _ = HO.tup [V.int (_ : Nat), V.int (_ : Nat), V.int (_ : Nat), V.int (_ : Nat)]
                  rw [show ((l : Int) - 1) = ((l - 1 : Nat) : Int) from by omega]
                have ut := same_upd (o := HO.tup [V.int (h : Nat), V.int ((l : Int) - 1), V.int (e : Nat), V.int (w : Nat)]) nt
                have ht : upd X1 t (HO.tup [V.int (h : Nat), V.int ((l : Int) - 1), V.int (e : Nat), V.int (w : Nat)]) t = some (HO.tup (q4 (h, l - 1, e, w))) := by rw [upd_same, et]
                generalize upd X1 t (HO.tup [V.int (h : Nat), V.int ((l : Int) - 1), V.int (e : Nat), V.int (w : Nat)]) = Y at ut ht ⊢
                have hsY := ut _ _ hS1
                refine ⟨S, _, _, rfl, rfl, hsY, ?_, _, _, _, _, _, rfl, same_hd_upd (sX1.trans (hd1_same (p := M) ut)) n1S, by rw [upd_ne (ne_of (ut _ _ hMx1) hsY (by intro z; cases z))]; exact ut _ _ hMx1, upd_same, ?_⟩
                · rw [st1.1]
                  exact Nat.lt_of_le_of_lt (len4a h l e w) (by decide)
                · rw [if_pos ec']
                  exact (st1.ts (fun b xs e => ut _ _ e)).snoc ht |>.ts (Ts.updL hsY)
              · have ec' : ¬ 0 < l := fun z => ec (decide_eq_true (by omega))
                refine ⟨_, _, _, _, _, rfl, sX1, hMx1, hS1, ?_⟩
                rw [if_neg ec', List.append_nil]
                exact st1
            rintro σ X2 ⟨xs2, y12, y13, y14, y15, rfl, sX2, hMx2, hS2, st2⟩
            -- e
            refine ⟨fun σ H' => ∃ xs y12 y13 y14 y15, σ = [some (.ref cv), some (.ref c), some (.int (A0 : Nat)), some (.int (Fa : Nat)), some (.int (R : Nat)), some (.int (P0 : Nat)), some (.ref M), some (.int (w : Nat)), some (.int (e : Nat)), some (.int (l : Nat)), some (.int (h : Nat)), some (.ref S), y12, y13, y14, y15] ∧ Same H1 (hd1 M H') ∧ H' M = some (.dT kvs) ∧ H' S = some (.lst xs) ∧ StAt H' xs ((if 0 < h then [(h - 1, l, e, w)] else []) ++ (if 0 < l then [(h, l - 1, e, w)] else []) ++ (if 0 < e then [(h, l, e - 1, w)] else [])), ?_, ?_⟩
            · refine ⟨fun z H' => X2 = H' ∧ z = decide ((0 : Int) < (e : Nat)), ⟨.int (e : Nat), rfl, _, _, rfl, rfl, _, rfl, rfl, rfl⟩, ?_⟩
              rintro z _ ⟨rfl, rfl⟩
              refine ite2 (fun ec => ?_) (fun ec => ?_)
              · have ec' : 0 < e := by have := of_decide_eq_true ec; omega
                refine ⟨.ref S, rfl, .inl ⟨rfl, _, SqL.of hS2⟩, .int (h : Nat), rfl, .int (l : Nat), rfl, .int (e : Nat), rfl, _, _, rfl, rfl, .int (w : Nat), rfl, (by show 4 ≤ sizeLine; decide), fun t nt => ?_⟩
                have et : (HO.tup [V.int (h : Nat), V.int (l : Nat), V.int ((e : Int) - 1), V.int (w : Nat)]) = HO.tup (q4 (h, l, e - 1, w)) := by
                  unfold q4
                  show HO.tup _ = HO.tup [V.int (_ : Nat), V.int (_ : Nat), V.int (_ : Nat), V.int (_ : Nat)]
                  rw [show ((e : Int) - 1) = ((e - 1 : Nat) : Int) from by omega]
                have ut := same_upd (o := HO.tup [V.int (h : Nat), V.int (l : Nat), V.int ((e : Int) - 1), V.int (w : Nat)]) nt
                have ht : upd X2 t (HO.tup [V.int (h : Nat), V.int (l : Nat), V.int ((e : Int) - 1), V.int (w : Nat)]) t = some (HO.tup (q4 (h, l, e - 1, w))) := by rw [upd_same, et]
                generalize upd X2 t (HO.tup [V.int (h : Nat), V.int (l : Nat), V.int ((e : Int) - 1), V.int (w : Nat)]) = Y at ut ht ⊢
                have hsY := ut _ _ hS2
                refine ⟨S, _, _, rfl, rfl, hsY, ?_, _, _, _, _, _, rfl, same_hd_upd (sX2.trans (hd1_same (p := M) ut)) n1S, by rw [upd_ne (ne_of (ut _ _ hMx2) hsY (by intro z; cases z))]; exact ut _ _ hMx2, upd_same, ?_⟩
                · rw [st2.1]
                  exact Nat.lt_of_le_of_lt (len4b h l e w) (by decide)
                · rw [if_pos ec']
                  exact (st2.ts (fun b xs e => ut _ _ e)).snoc ht |>.ts (Ts.updL hsY)
              · have ec' : ¬ 0 < e := fun z => ec (decide_eq_true (by omega))
                refine ⟨_, _, _, _, _, rfl, sX2, hMx2, hS2, ?_⟩
                rw [if_neg ec', List.append_nil]
                exact st2
            rintro σ X3 ⟨xs3, y12, y13, y14, y15, rfl, sX3, hMx3, hS3, st3⟩
            -- w
            refine ⟨fun σ H' => ∃ xs y12 y13 y14 y15, σ = [some (.ref cv), some (.ref c), some (.int (A0 : Nat)), some (.int (Fa : Nat)), some (.int (R : Nat)), some (.int (P0 : Nat)), some (.ref M), some (.int (w : Nat)), some (.int (e : Nat)), some (.int (l : Nat)), some (.int (h : Nat)), some (.ref S), y12, y13, y14, y15] ∧ Same H1 (hd1 M H') ∧ H' M = some (.dT kvs) ∧ H' S = some (.lst xs) ∧ StAt H' xs ((if 0 < h then [(h - 1, l, e, w)] else []) ++ (if 0 < l then [(h, l - 1, e, w)] else []) ++ (if 0 < e then [(h, l, e - 1, w)] else []) ++ (if 0 < w then [(h, l, e + 1, w - 1)] else [])), ?_, ?_⟩
            · refine ⟨fun z H' => X3 = H' ∧ z = decide ((0 : Int) < (w : Nat)), ⟨.int (w : Nat), rfl, _, _, rfl, rfl, _, rfl, rfl, rfl⟩, ?_⟩
              rintro z _ ⟨rfl, rfl⟩
              refine ite2 (fun ec => ?_) (fun ec => ?_)
              · have ec' : 0 < w := by have := of_decide_eq_true ec; omega
                refine ⟨.ref S, rfl, .inl ⟨rfl, _, SqL.of hS3⟩, .int (h : Nat), rfl, .int (l : Nat), rfl, .int (e : Nat), rfl, _, _, rfl, rfl, .int (w : Nat), rfl, _, _, rfl, rfl, (by show 4 ≤ sizeLine; decide), fun t nt => ?_⟩
                have et : (HO.tup [V.int (h : Nat), V.int (l : Nat), V.int ((e : Int) + 1), V.int ((w : Int) - 1)]) = HO.tup (q4 (h, l, e + 1, w - 1)) := by
                  unfold q4
                  show HO.tup _ = HO.tup [V.int (_ : Nat), V.int (_ : Nat), V.int (_ : Nat), V.int (_ : Nat)]
                  rw [show ((e : Int) + 1) = ((e + 1 : Nat) : Int) from by omega, show ((w : Int) - 1) = ((w - 1 : Nat) : Int) from by omega]
                have ut := same_upd (o := HO.tup [V.int (h : Nat), V.int (l : Nat), V.int ((e : Int) + 1), V.int ((w : Int) - 1)]) nt
                have ht : upd X3 t (HO.tup [V.int (h : Nat), V.int (l : Nat), V.int ((e : Int) + 1), V.int ((w : Int) - 1)]) t = some (HO.tup (q4 (h, l, e + 1, w - 1))) := by rw [upd_same, et]
                generalize upd X3 t (HO.tup [V.int (h : Nat), V.int (l : Nat), V.int ((e : Int) + 1), V.int ((w : Int) - 1)]) = Y at ut ht ⊢
                have hsY := ut _ _ hS3
                refine ⟨S, _, _, rfl, rfl, hsY, ?_, _, _, _, _, _, rfl, same_hd_upd (sX3.trans (hd1_same (p := M) ut)) n1S, by rw [upd_ne (ne_of (ut _ _ hMx3) hsY (by intro z; cases z))]; exact ut _ _ hMx3, upd_same, ?_⟩
                · rw [st3.1]
                  exact Nat.lt_of_le_of_lt (len4c h l e w) (by decide)
                · rw [if_pos ec']
                  exact (st3.ts (fun b xs e => ut _ _ e)).snoc ht |>.ts (Ts.updL hsY)
              · have ec' : ¬ 0 < w := fun z => ec (decide_eq_true (by omega))
                refine ⟨_, _, _, _, _, rfl, sX3, hMx3, hS3, ?_⟩
                rw [if_neg ec', List.append_nil]
                exact st3
            rintro σ X4 ⟨xs4, y12, y13, y14, y15, rfl, sX4, hMx4, hS4, st4⟩
            refine ⟨.int (h : Nat), rfl, .int (R : Nat), rfl, _, _, rfl, rfl, .int (l : Nat), rfl, _, _, rfl, rfl, .int (e : Nat), rfl, _, _, rfl, rfl, _, _, rfl, rfl, ?_⟩
            have eon : decide ((0 : Int) < (h : Int) + R - l + e) = onM R h l e := by
              rw [on_eq, decide_eq_decide]
              omega
            show tSeq _ _ _ (List.set _ 12 (some (V.bl (decide ((0 : Int) < (h : Int) + R - l + e))))) _
            rw [eon]
            have est : StAt X4 xs4 (stpM h l e w) := st4
            have lst4 : (stpM h l e w).length ≤ 4 := len4d h l e w
            refine ⟨sl1, fun Fd nFd => ?_⟩
            have u5 := same_upd (o := (HO.lst [V.int 0])) nFd
            have hF : upd X4 Fd (HO.lst [V.int 0]) Fd = some (HO.lst [V.int 0]) := upd_same
            generalize upd X4 Fd (HO.lst [V.int 0]) = X5 at u5 hF ⊢
            have n1F := none_back sX4 nFd
            have nSF : S ≠ Fd := ne_of_none hS4 nFd
            have nMF : M ≠ Fd := ne_of_none hMx4 nFd
            refine ⟨.ref S, rfl, S, rfl, ⟨_, SqL.of (u5 _ _ hS4)⟩, ?_⟩
            refine for_list (K := K) (a := S) (xs := xs4) (fun i σ H' => ∃ y14 y15, σ = [some (.ref cv), some (.ref c), some (.int (A0 : Nat)), some (.int (Fa : Nat)), some (.int (R : Nat)), some (.int (P0 : Nat)), some (.ref M), some (.int (w : Nat)), some (.int (e : Nat)), some (.int (l : Nat)), some (.int (h : Nat)), some (.ref S), some (.bl (onM R h l e)), some (.ref Fd), y14, y15] ∧ Same H1 (hd1 M H') ∧ H' M = some (.dT kvs) ∧ H' S = some (.lst xs4) ∧ StAt H' xs4 (stpM h l e w) ∧ H' Fd = some (.lst ((0 :: ((stpM h l e w).take i).map fun s => ((valM R h l e w s : Nat) : Int)).map V.int)))
              ⟨_, _, rfl, sX4.trans (hd1_same (p := M) u5), u5 _ _ hMx4, u5 _ _ hS4, est.ts (fun b xs e => u5 _ _ e), hF⟩ (fun i σ H' _ ⟨_, _, _, _, _, z, _⟩ => SqL.of z) ?_ ?_
            · rintro i x σ X6 hx ⟨y14, y15, rfl, sX6, hM6', hS6, st6, hF6⟩
              have hi : i < (stpM h l e w).length := by
                have := (List.getElem?_eq_some_iff.mp hx).1
                rw [st6.1] at this
                exact this
              obtain ⟨⟨h', l', e', w'⟩, hst⟩ : ∃ s, (stpM h l e w)[i]? = some s := ⟨_, List.getElem?_eq_getElem hi⟩
              have hmem := List.mem_of_getElem? hst
              obtain ⟨b2, hb, hqb⟩ := st6.2 i _ hst
              rw [hx] at hb
              obtain rfl := Option.some.inj hb
              obtain ⟨q1, q2, q3, q4'⟩ := st_dom hmem hh' hl' he'
              have hqb' : X6 b2 = some (.tup [.int (h' : Nat), .int (l' : Nat), .int (e' : Nat), .int (w' : Nat)]) := hqb
              refine ⟨.ref b2, rfl, b2, _, 0, _, rfl, rfl, SqT.of hqb', rfl, .int (R : Nat), rfl, _, _, rfl, rfl, .ref b2, rfl, b2, _, 1, _, rfl, rfl, SqT.of hqb', rfl, _, _, rfl, rfl, .ref b2, rfl, b2, _, 2, _, rfl, rfl, SqT.of hqb', rfl, _, _, rfl, rfl, _, _, rfl, rfl, ?_⟩
              have eon2 : decide ((0 : Int) < (h' : Int) + R - l' + e') = onM R h' l' e' := by
                rw [on_eq, decide_eq_decide]
                omega
              have dg : DGet X6 M (.ref b2) (some (.int (FM R h' l' e' w' : Nat))) := by
                have := DGet.t (k := ky h' l' e' w') hM6' hqb'
                rw [D6 h' l' e' w' q1 q2 q3 q4'] at this
                exact this
              refine ⟨.ref Fd, rfl, .inl ⟨rfl, _, SqL.of hF6⟩, .ref M, rfl, .ref b2, rfl, M, _, rfl, dg, .bl (decide ((0 : Int) < (h' : Int) + R - l' + e')), rfl, .bl (onM R h l e), rfl, rfl, .inr ⟨_, rfl, _, _, rfl, rfl, Fd, _, _, rfl, rfl, hF6, ?_, ?_⟩⟩
              · rw [List.length_map, List.length_cons, List.length_map, List.length_take]
                exact Nat.lt_of_lt_of_le (show _ < 16 by omega) (by decide)
              · have n6 : ∀ o, Same H1 (hd1 M (upd X6 Fd o)) := fun o => same_hd_upd sX6 n1F
                refine ⟨_, _, rfl, n6 _, by rw [upd_ne nMF]; exact hM6', by rw [upd_ne nSF]; exact hS6, st6.ts (Ts.updL hF6), ?_⟩
                rw [upd_same, List.take_add_one, hst]
                congr 2
                rw [List.map_append, ← List.cons_append, List.map_append]
                congr 1
                show [V.int _] = [V.int _]
                congr 2
                unfold valM
                have ez : decide (V.bl (onM R h' l' e') = V.bl (onM R h l e)) = decide (onM R h' l' e' = onM R h l e) := by
                  rw [decide_eq_decide]
                  exact ⟨fun z => V.bl.inj z, fun z => by rw [z]⟩
                rw [eon2, ez]
                show _ = ((FM R h' l' e' w' + (if onM R h' l' e' = onM R h l e then 0 else 1) : Nat) : Int)
                by_cases z : onM R h' l' e' = onM R h l e
                · rw [if_pos z, decide_eq_true z]; rfl
                · rw [if_neg z, decide_eq_false z]; push_cast; rfl
            rintro σ X6 ⟨y14, y15, rfl, sX6, hM6', hS6, st6, hF6⟩
            rw [st6.1, List.take_length] at hF6
            refine ⟨.ref Fd, rfl, Fd, _, rfl, SqL.of hF6, Nat.succ_pos _, fun mx hmem hle => ?_⟩
            have emx : mx = ((FM R h l e w : Nat) : Int) := by
              have up : mx ≤ ((FM R h l e w : Nat) : Int) := by
                rcases List.mem_cons.mp hmem with z | z
                · rw [z]; omega
                · obtain ⟨s, hs, rfl⟩ := List.mem_map.mp z
                  have := val_le hl' s hs
                  omega
              rcases val_eq (h := h) (e := e) (w := w) hl' with z | ⟨s, hs, z⟩
              · have := hle 0 (List.mem_cons_self ..)
                omega
              · have := hle _ (List.mem_cons_of_mem _ (List.mem_map.mpr ⟨s, hs, rfl⟩))
                rw [z] at this
                omega
            subst emx
            refine ⟨.ref M, rfl, .int (h : Nat), rfl, .int (l : Nat), rfl, .int (e : Nat), rfl, .int (w : Nat), rfl, (by show 4 ≤ sizeLine; decide), fun t nt => ?_⟩
            have u7 := same_upd (o := (HO.tup [V.int (h : Nat), V.int (l : Nat), V.int (e : Nat), V.int (w : Nat)])) nt
            have ht7 : upd X6 t (HO.tup [V.int (h : Nat), V.int (l : Nat), V.int (e : Nat), V.int (w : Nat)]) t = some (HO.tup [V.int (h : Nat), V.int (l : Nat), V.int (e : Nat), V.int (w : Nat)]) := upd_same
            generalize upd X6 t (HO.tup [V.int (h : Nat), V.int (l : Nat), V.int (e : Nat), V.int (w : Nat)]) = X7 at u7 ht7 ⊢
            have hM7 := u7 _ _ hM6'
            refine ⟨M, _, rfl, DPut.t (k := ky h l e w) hM7 ht7 ?_, ?_⟩
            · exact Nat.lt_of_lt_of_le (show kvs.length < 400000 by omega) (by decide)
            refine ⟨_, _, _, _, _, _, _, rfl, (sX6.trans (hd1_same (p := M) u7)).trans hd1_upd, upd_same, D6.put, ?_⟩
            have := put_len kvs (ky h l e w) (.int (FM R h l e w : Nat))
            omega
          · rintro σ H6 ⟨kvs, y10, y11, y12, y13, y14, y15, rfl, sM6, hM6, D6, lk6⟩
            exact ⟨kvs, _, _, _, _, _, _, _, rfl, sM6, hM6, fun h' l' e' w' a b c d => D6 h' l' e' w' a b c (by omega), by omega⟩
        · rintro σ H5 ⟨kvs, y9, y10, y11, y12, y13, y14, y15, rfl, sM5, hM5, D5, lk5⟩
          exact ⟨kvs, _, _, _, _, _, _, _, _, rfl, sM5, hM5, fun h' l' e' w' a b c d => D5 h' l' e' w' a b c (by omega), by omega⟩
      · rintro σ H4 ⟨kvs, y8, y9, y10, y11, y12, y13, y14, y15, rfl, sM4, hM4, D4, lk4⟩
        exact ⟨kvs, _, _, _, _, _, _, _, _, _, rfl, sM4, hM4, fun h' l' e' w' a b c d => D4 h' l' e' w' a b c (by omega), by omega⟩
    · rintro σ H3 ⟨kvs, y7, y8, y9, y10, y11, y12, y13, y14, y15, rfl, sM3, hM3, D3, lk3⟩
      have lP : P0 + 1 = ((P0 : Int) + 1).toNat := by omega
      refine ⟨.ref M, rfl, .int (Fa : Nat), rfl, .int (R : Nat), rfl, .int (P0 : Nat), rfl, (by show 4 ≤ sizeLine; decide), fun t nt => ?_⟩
      have u1 := same_upd (o := (HO.tup [V.int (Fa : Nat), V.int (R : Nat), V.int 0, V.int (P0 : Nat)])) nt
      have ht1 : upd H3 t (HO.tup [V.int (Fa : Nat), V.int (R : Nat), V.int 0, V.int (P0 : Nat)]) t = some (HO.tup [V.int (Fa : Nat), V.int (R : Nat), V.int 0, V.int (P0 : Nat)]) := upd_same
      generalize upd H3 t (HO.tup [V.int (Fa : Nat), V.int (R : Nat), V.int 0, V.int (P0 : Nat)]) = X1 at u1 ht1 ⊢
      have dg : DGet X1 M (.ref t) (some (.int (FM R Fa R 0 P0 : Nat))) := by
        have := DGet.t (k := ky Fa R 0 P0) (u1 _ _ hM3) ht1
        rw [D3 Fa R 0 P0 (Nat.le_refl _) (Nat.le_refl _) (by omega) (.inl (by omega))] at this
        exact this
      refine ⟨M, _, rfl, dg, ?_⟩
      exact q X1 (s1.trans (fun b o e => u1 _ _ (hd1_le _ _ (sM3 _ _ e))))

end
end Gk

set_option Elab.async false
set_option linter.all false
set_option maxRecDepth 100000
set_option maxHeartbeats 1000000
set_option pp.maxSteps 4500
set_option pp.deepTerms false
namespace Gk
open PySem PySem.Spec PyProof.Rows L2

section
variable {P : Program} {w : World} {K : PySem.W.Frag} {mg : Str → Option Value} {base : Heap}
/-! ### a row that a product holds -/
def sp_row_of (K : PySem.W.Frag) : Sp := fun vs H Q _ => ∃ (d l : Addr) (n : Int) (m : Nat) (p : List Nat), vs = [.ref d, .str (SX.S p)] ∧ DeckD H d l n ∧ n < 900000 ∧ p.length = m ∧ m ≤ 6 ∧ ∀ (t : Addr) (bs : List Int) (H' : Hp), DeckD H' d l (n + m) → Fr d l H H' → bs.length = m → Row01' bs → H' t = some (.tup (bs.map V.int)) → Q (.ref t) H'
theorem ok_row_of (T : Tx K mg) : FnOk P w K mg base CX0 2 T.f_row_of T.fd_row_of ["_law_deck_here", "_law_product_here"] (sp_row_of K) := by
  refine T.F_row_of.ok sc_row_of (fun vs H Q E h => ?_) (fun cdv A outer s H vs Q E hr h => ?_)
  · obtain ⟨d, l, n, m, p, rfl, _⟩ := h
    rfl
  · obtain ⟨d, l, n, m, p, rfl, D, hn, lp, m6, q⟩ := h
    refine ⟨_, (pss_one (ps_ret (pe_callTy call_tuple_of (by rfl) T.m_tuple (by decide +kernel) (pa_cons (pe_lc (own := [("_law_sign", 2)]) (by rfl) sc_row_of.nd (pi_str (pv 1)) (blkOk_by (own := [("_law_sign", 2)]) (N := ["_law_deck_here", "_law_product_here", "_law_sign"]) (sc := defScope s_row_of) (by decide +kernel)) (fun _ _ _ _ _ => (pg_name (i := 2) sc_row_of.nd rfl (by first | exact .inl rfl | exact .inr rfl))) (fun _ _ _ _ _ => pts_nil) (fun _ _ _ _ _ => (pe_ix (show IxR _ (rIxL K) from ix_list) (pe_lst (pa_cons (pe_call (ok_draw T) (hr.mono (by decide)) (by rfl) T.g_draw T.F_draw.kp T.b_draw .nil pass0 (pa_cons (pv 0) (pa_cons pe_int pa_nil))) (pa_cons (pe_callTy call_int1 (by rfl) T.m_int (by decide +kernel) (pa_cons (pe_cmpR op_eq (pv 2) pe_str (nomark _)) pa_nil)) pa_nil))) (pe_callTy call_int1 (by rfl) T.m_int (by decide +kernel) (pa_cons (pe_cmpR op_ne (pv 2) pe_str (nomark _)) pa_nil)) (fun _ _ => rfl)))) pa_nil)))), ?_⟩
    refine ⟨.str (SX.S p), rfl, _, rfl, fun I nI => ?_⟩
    have oI := D.off nI
    refine lc_str (z := SX.S p) (fun j H' => DeckD H' d l (n + j) ∧ Fr d l H H' ∧ ∃ bs : List Int, H' I = some (.lst (bs.map V.int)) ∧ bs.length = j ∧ Row01' bs)
      ⟨(D.same (same_upd nI)).mono (by omega), Fr.new nI, [], upd_same, rfl, fun x hx => by cases hx⟩ ?_ ?_
    · rintro j x H2 hx ⟨D2, fr2, bs, hI, lb, okb⟩
      have hj : j < p.length := by
        have := S_at hx
        exact (List.getElem?_eq_some_iff.mp this).1
      refine ⟨rfl, .ref d, rfl, d, l, 2, _, rfl, D2, by omega, by decide, by decide, fun H3 v D3 fr3 v0 v1 => ?_⟩
      refine ⟨.str ⟨#[x]⟩, rfl, rfl, .inr ⟨_, rfl, sl2, fun t nt => ?_⟩⟩
      generalize (decide (V.str (⟨#[x]⟩ : Str) = V.str (Str.ofString "1"))) = b1 at nt ⊢
      have s4 := same_upd (o := HO.lst [V.int v, V.int (if b1 = true then 1 else 0)]) nt
      refine ⟨.str ⟨#[x]⟩, rfl, rfl, .inr ⟨_, rfl, t, _, _, _, rfl, rfl, SqL.of upd_same, at2i _ _ _, ?_⟩⟩
      generalize (!decide (V.str (⟨#[x]⟩ : Str) = V.str (Str.ofString "-"))) = b2
      have hI4 := s4 _ _ (fr3 _ _ oI.1 oI.2 hI)
      refine ⟨_, hI4, ?_, ((D3.same s4).upd oI.1 oI.2).mono (by push_cast; omega), Fr.upd ((fr2.trans fr3).trans (Fr.of s4)) nI, bs ++ [if b2 = true then (if b1 = true then 1 else 0) else v], ?_, by rw [List.length_append, lb]; rfl, fun y hy => ?_⟩
      · rw [List.length_map, lb]
        exact Nat.lt_of_lt_of_le (show j < 64 by omega) (by decide)
      · rw [upd_same, List.map_append]
        rfl
      · rcases List.mem_append.mp hy with z | z
        · exact okb y z
        · rw [List.mem_singleton.mp z]
          cases b2
          · show v = 0 ∨ v = 1; omega
          · cases b1
            · exact .inl rfl
            · exact .inr rfl
    · rintro H2 ⟨D2, fr2, bs, hI, lb, okb⟩
      rw [S_size] at lb
      refine ⟨I, _, rfl, .inl ⟨SqL.of hI, fun ti nti => ?_⟩⟩
      have s2 := same_upd (o := HO.tup (bs.map V.int)) nti
      refine q ti bs _ ((D2.same s2).mono (by rw [S_size]; omega)) (fr2.trans (Fr.of s2)) (by omega) okb upd_same
theorem kIB : kitB "int" "bool" = some false := by decide +kernel
theorem kSB : kitB "str" "bool" = some false := by decide +kernel
theorem kBB : kitB "bool" "bool" = some true := by decide +kernel
theorem kTT : kitB "tuple" "tuple" = some true := by decide +kernel
theorem sh_cw (x y : Int) (f : Bool) : SeqAt.shaped (.tuple [.int x, .int y, .bool f]) = true := rfl
theorem sh_cwD (ps : List (List Nat)) (a b : List Int) : SeqAt.shaped (cwD ps a b) = true := rfl

/-! ### both reckonings agree -/
theorem cnt_pos {ps : List (List Nat)} {a b : List Int} {k : Int} : 0 < (sortsM ps a b).count k ↔ ∃ p ∈ ps, sortM a b p = some k := by
  unfold sortsM
  rw [List.count_pos_iff, List.mem_filterMap]
theorem sort0 {a b : List Int} {p : List Nat} : sortM a b p = some 0 ↔ (hrow p a = true ∧ hrow p b = true) := by
  unfold sortM
  cases hrow p a <;> cases hrow p b <;> cases meetM p (cubeM a b) <;> simp
theorem sort1 {a b : List Int} {p : List Nat} : sortM a b p = some 1 ↔ (hrow p a = true ∧ hrow p b = false) := by
  unfold sortM
  cases hrow p a <;> cases hrow p b <;> cases meetM p (cubeM a b) <;> simp
theorem sort2 {a b : List Int} {p : List Nat} : sortM a b p = some 2 ↔ (hrow p a = false ∧ hrow p b = true) := by
  unfold sortM
  cases hrow p a <;> cases hrow p b <;> cases meetM p (cubeM a b) <;> simp
theorem sort3 {a b : List Int} {p : List Nat} : sortM a b p = some 3 ↔ flashM a b p = true := by
  unfold sortM flashM
  cases hrow p a <;> cases hrow p b <;> cases meetM p (cubeM a b) <;> simp
theorem cnt3 (a b : List Int) : ∀ ps : List (List Nat), (sortsM ps a b).count 3 = passM a b ps
  | [] => rfl
  | p :: r => by
    have ih := cnt3 a b r
    unfold sortsM passM at ih ⊢
    rw [List.filterMap_cons, List.filter_cons]
    by_cases z : flashM a b p = true
    · rw [if_pos z, sort3.mpr z]
      simp only [List.count_cons_self, List.length_cons, ih]
    · rw [if_neg z]
      cases e : sortM a b p with
      | none => simpa using ih
      | some k =>
        have : k ≠ 3 := fun h => z (sort3.mp (by rw [e, h]))
        simp only [List.count_cons_of_ne this]
        exact ih
theorem first_some {ps : List (List Nat)} {a b : List Int} {m : Nat} (ok : ChOk m a b) (okp : CovOk m ps) : (firstH ps a b).isSome = true ↔ 0 < (sortsM ps a b).count 0 := by
  rw [cnt_pos]
  unfold firstH
  rw [List.findIdx?_isSome, List.any_eq_true]
  constructor
  · rintro ⟨p, hp, h⟩
    rw [hall_cube p a b (by rw [(okp p hp).1, ok.la]) (by rw [ok.la, ok.lb]) ok.oa ok.ob, Bool.and_eq_true] at h
    exact ⟨p, hp, sort0.mpr h⟩
  · rintro ⟨p, hp, h⟩
    refine ⟨p, hp, ?_⟩
    rw [hall_cube p a b (by rw [(okp p hp).1, ok.la]) (by rw [ok.la, ok.lb]) ok.oa ok.ob, Bool.and_eq_true]
    exact sort0.mp h
theorem told1 {ps : List (List Nat)} {a b : List Int} (n : ¬ 0 < (sortsM ps a b).count 0) : toldM ps a = true ↔ 0 < (sortsM ps a b).count 1 := by
  rw [cnt_pos]
  unfold toldM
  rw [List.any_eq_true]
  constructor
  · rintro ⟨p, hp, h⟩
    refine ⟨p, hp, sort1.mpr ⟨h, ?_⟩⟩
    cases e : hrow p b
    · rfl
    · exact absurd (cnt_pos.mpr ⟨p, hp, sort0.mpr ⟨h, e⟩⟩) n
  · rintro ⟨p, hp, h⟩
    exact ⟨p, hp, (sort1.mp h).1⟩
theorem told2 {ps : List (List Nat)} {a b : List Int} (n : ¬ 0 < (sortsM ps a b).count 0) : toldM ps b = true ↔ 0 < (sortsM ps a b).count 2 := by
  rw [cnt_pos]
  unfold toldM
  rw [List.any_eq_true]
  constructor
  · rintro ⟨p, hp, h⟩
    refine ⟨p, hp, sort2.mpr ⟨?_, h⟩⟩
    cases e : hrow p a
    · rfl
    · exact absurd (cnt_pos.mpr ⟨p, hp, sort0.mpr ⟨e, h⟩⟩) n
  · rintro ⟨p, hp, h⟩
    exact ⟨p, hp, (sort2.mp h).2⟩
theorem most_great {ps : List (List Nat)} {a b : List Int} {m : Nat} (ok : ChOk m a b) (okp : CovOk m ps) : mostM ps a b = greatM ps a b := by
  unfold mostM greatM
  by_cases n : 0 < (sortsM ps a b).count 0
  · rw [if_pos n, if_pos ((first_some ok okp).mpr n)]
  · rw [if_neg n, if_neg (fun z => n ((first_some ok okp).mp z)), cnt3]
    have t1 := told1 n
    have t2 := told2 n
    unfold FM bI
    rw [if_neg (Nat.lt_irrefl _)]
    cases e1 : toldM ps a <;> cases e2 : toldM ps b <;> rw [e1] at t1 <;> rw [e2] at t2 <;> simp at t1 t2 <;> simp [t1, t2] <;> (try split) <;> (try split) <;> omega
theorem cube_comm : ∀ (a b : List Int), cubeM a b = cubeM b a
  | [], [] => rfl
  | [], _ :: _ => rfl
  | _ :: _, [] => rfl
  | x :: a, y :: b => by
    have ih := cube_comm a b
    unfold cubeM at ih ⊢
    simp only [List.zip_cons_cons, List.map_cons]
    rw [ih]
    congr 1
    by_cases z : x = y
    · rw [if_pos z, if_pos z.symm, z]
    · rw [if_neg z, if_neg (fun h => z h.symm)]
theorem great_comm (ps : List (List Nat)) (a b : List Int) : greatM ps a b = greatM ps b a := by
  have e : flashM a b = flashM b a := by
    funext p
    unfold flashM
    rw [cube_comm a b, Bool.and_comm (!hrow p a)]
  unfold greatM firstH passM
  rw [cube_comm a b, e]
  split
  · rfl
  · omega
theorem fro_great {ps : List (List Nat)} {a b : List Int} {m : Nat} (ok : ChOk m a b) (okp : CovOk m ps) : froM ps a b = decide ((if bI (toldM ps a) = bI (toldM ps b) then (0 : Int) else 1) < greatM ps a b) := by
  have gap : (decide (gapS = gapS) || decide (gapS = meetsS)) = true := by decide +kernel
  have held : (decide (heldS = gapS) || decide (heldS = meetsS)) = false := by decide +kernel
  have meets : (decide (meetsS = gapS) || decide (meetsS = meetsS)) = true := by decide +kernel
  have clear : (decide (clearS = gapS) || decide (clearS = meetsS)) = false := by decide +kernel
  have one : ∀ x : Bool, bI x = 0 ∨ bI x = 1 := fun x => by cases x <;> simp [bI]
  unfold froM greatM
  by_cases both : toldM ps a = true ∧ toldM ps b = true
  · have ej : judS ps a b = (match firstH ps a b with | none => gapS | some _ => heldS) := if_pos both
    rw [ej, both.1, both.2]
    cases firstH ps a b with
    | none =>
      show (decide (gapS = gapS) || decide (gapS = meetsS)) = _
      rw [gap]
      have : (if bI true = bI true then (0 : Int) else 1) < (if (none : Option Nat).isSome = true then 0 else bI true + 2 * (passM a b ps : Int) + bI true) := by
        rw [if_pos rfl, if_neg (by decide)]
        unfold bI
        rw [if_pos rfl]
        omega
      exact (decide_eq_true this).symm
    | some k =>
      show (decide (heldS = gapS) || decide (heldS = meetsS)) = _
      rw [held]
      have : ¬ (if bI true = bI true then (0 : Int) else 1) < (if (some k : Option Nat).isSome = true then 0 else bI true + 2 * (passM a b ps : Int) + bI true) := by
        rw [if_pos rfl, if_pos (show (some k : Option Nat).isSome = true from rfl)]
        decide
      exact (decide_eq_false this).symm
  · have ej : judS ps a b = (match ps.findIdx? (flashM a b) with | some _ => meetsS | none => clearS) := if_neg both
    have nf : ¬ (firstH ps a b).isSome = true := fun z => by
      obtain ⟨p, hp, h⟩ := cnt_pos.mp ((first_some ok okp).mp z)
      have h2 := sort0.mp h
      exact both ⟨List.any_eq_true.mpr ⟨p, hp, h2.1⟩, List.any_eq_true.mpr ⟨p, hp, h2.2⟩⟩
    rw [ej, if_neg nf]
    have hany : (ps.findIdx? (flashM a b)).isSome = true ↔ 0 < passM a b ps := by
      unfold passM
      rw [List.findIdx?_isSome, List.any_eq_true]
      constructor
      · rintro ⟨p, hp, h⟩
        exact List.length_pos_of_mem (List.mem_filter.mpr ⟨hp, h⟩)
      · intro h
        obtain ⟨p, hp⟩ := List.exists_mem_of_length_pos h
        exact ⟨p, (List.mem_filter.mp hp).1, (List.mem_filter.mp hp).2⟩
    have cond : ((if bI (toldM ps a) = bI (toldM ps b) then (0 : Int) else 1) < bI (toldM ps a) + 2 * (passM a b ps : Int) + bI (toldM ps b)) ↔ 0 < passM a b ps := by
      cases e1 : toldM ps a <;> cases e2 : toldM ps b
      · show (if (0 : Int) = 0 then (0 : Int) else 1) < 0 + 2 * (passM a b ps : Int) + 0 ↔ _
        rw [if_pos rfl]; omega
      · show (if (0 : Int) = 1 then (0 : Int) else 1) < 0 + 2 * (passM a b ps : Int) + 1 ↔ _
        rw [if_neg (by decide)]; omega
      · show (if (1 : Int) = 0 then (0 : Int) else 1) < 1 + 2 * (passM a b ps : Int) + 0 ↔ _
        rw [if_neg (by decide)]; omega
      · exact absurd ⟨e1, e2⟩ both
    cases e : ps.findIdx? (flashM a b) with
    | none =>
      show (decide (clearS = gapS) || decide (clearS = meetsS)) = _
      rw [clear]
      refine (decide_eq_false fun z => ?_).symm
      have := hany.mpr (cond.mp z)
      rw [e] at this
      cases this
    | some k =>
      show (decide (meetsS = gapS) || decide (meetsS = meetsS)) = _
      rw [meets]
      exact (decide_eq_true (cond.mpr (hany.mp (by rw [e]; rfl)))).symm

end
end Gk

set_option Elab.async false
set_option linter.all false
set_option maxRecDepth 100000
set_option maxHeartbeats 1000000
set_option pp.maxSteps 4500
set_option pp.deepTerms false
namespace Gk
open PySem PySem.Spec PyProof.Rows L2

section
variable {P : Program} {w : World} {K : PySem.W.Frag} {mg : Str → Option Value} {base : Heap}
/-! ### comparing, cutting and joining data of tuples -/
mutual
theorem Tk.dp {K : PySem.W.Frag} {H : Hp} : ∀ {v : V} {d : PyData}, Tk H v d → Dp K H v d
  | _, _, .bl b => .bl b
  | _, _, .int i => .int i
  | _, _, .str x => .str x
  | _, _, .lst h t => .lst (SqL.of h) t.dp
  | _, _, .tup h t => .tup (SqT.of h) t.dp
theorem TkAll.dp {K : PySem.W.Frag} {H : Hp} : ∀ {vs : List V} {ds : List PyData}, TkAll H vs ds → DpAll K H vs ds
  | _, _, .nil => .nil
  | _, _, .cons h t => .cons h.dp t.dp
end
theorem ne_same {K : PySem.W.Frag} {H : Hp} {x y : V} {d : PyData} {Q : VK} (hx : Dp K H x d) (hy : Dp K H y d) (sh : SeqAt.shaped d = true) (q : Q (.bl false) H) : rNeD K x y H Q := by
  refine ⟨d, d, hx, hy, sh, sh, ?_⟩
  rw [SeqAt.eqv_refl d (SeqAt.canLay_of_shaped sh)]
  exact q
theorem eq_same {K : PySem.W.Frag} {H : Hp} {x y : V} {d : PyData} {Q : VK} (hx : Dp K H x d) (hy : Dp K H y d) (sh : SeqAt.shaped d = true) (q : Q (.bl true) H) : rEqD K x y H Q := by
  refine ⟨d, d, hx, hy, sh, sh, ?_⟩
  rw [SeqAt.eqv_refl d (SeqAt.canLay_of_shaped sh)]
  exact q

/-! ### is one change told rightly -/
theorem kII : kitB "int" "int" = some true := by decide +kernel
def sp_right (T : Tx K mg) : Sp := fun vs H Q _ => ∃ (cv c : Addr) (m : Nat) (ps : List (List Nat)) (a b : List Int), vs = [.ref cv, .ref c] ∧ CovAt H cv m ps ∧ CovOk m ps ∧ ps.length ≤ 20 ∧ ChAt H c a b ∧ ChOk m a b ∧ Tabs H T.tabs ∧ ∀ H', Gr H H' → Q (.bl true) H'
theorem ok_right (T : Tx K mg) (B : Tb base T) : FnOk P w K mg base CX0 8 T.f_right T.fd_right ["_law_cover_here", "_law_change_here"] (sp_right T) := by
  refine T.F_right.ok sc_right (fun vs H Q E h => ?_) (fun cdv A outer s H vs Q E hr h => ?_)
  · obtain ⟨cv, c, m, ps, a, b, rfl, _⟩ := h
    rfl
  · obtain ⟨cv, c, m, ps, a, b, rfl, hcv, okp, l20, hch, ok, tabs, q⟩ := h
    refine ⟨_, (pss_cons (ps_set (i := 2) sc_right.nd rfl (by first | exact .inl rfl | exact .inr rfl) (pe_call (ok_most T) (hr.mono (by decide)) (by rfl) T.g_most T.F_most.kp T.b_most .nil pass0 (pa_cons (pv 0) (pa_cons (pv 1) pa_nil)))) (pss_cons (ps_for PassesOwn.never rfl (pi_list (pe_lst (pa_cons (pv 1) (pa_cons (pe_tup (pa_cons (pe_ix ix_tup (pv 1) pe_int (fun _ _ => rfl)) (pa_cons (pe_ix ix_tup (pv 1) pe_int (fun _ _ => rfl)) pa_nil))) (pa_cons (pv 1) pa_nil))))) (pg_name (i := 3) sc_right.nd rfl (by first | exact .inl rfl | exact .inr rfl)) (pss_cons (ps_set (i := 4) sc_right.nd rfl (by first | exact .inl rfl | exact .inr rfl) (pe_call (ok_cover_greatest T B) (hr.mono (by decide)) (by rfl) T.g_cover_greatest T.F_cover_greatest.kp T.b_cover_greatest .nil pass0 (pa_cons (pv 0) (pa_cons (pv 3) pa_nil)))) (pss_one (ps_if (pw_or (pt_val (pe_callB call_isi (by rfl) T.m_isinstance (by decide +kernel) (pa_cons (pv 4) (pa_cons (pe_bltn (v := .ty "bool") (u := .type "bool") (by rfl) T.m_bool (by decide +kernel) rfl) pa_nil)))) (pw_or (pt_not (pt_val (pe_callB call_isi (by rfl) T.m_isinstance (by decide +kernel) (pa_cons (pv 4) (pa_cons (pe_bltn (v := .ty "int") (u := .type "int") (by rfl) T.m_int (by decide +kernel) rfl) pa_nil))))) (pw_or1 (pt_cmpR op_ne (pv 4) (pv 2) (nomark _))))).pt (pss_one (ps_ret pe_bl)) pss_nil)))) (pss_cons (ps_setLc (i := 5) (own := [("_law_row_here", 6)]) (by rfl) sc_right.nd rfl rfl (sw_true rfl rfl rfl (by decide +kernel)) (pi_tup (pv 1)) (blkOk_by (own := [("_law_row_here", 6)]) (N := ["_law_cover_here", "_law_change_here", "_law_due", "_law_pair", "_law_found", "_law_ends", "_law_row_here"]) (sc := defScope s_right) (by decide +kernel)) (fun _ _ _ _ _ => (pg_name (i := 6) sc_right.nd rfl (by first | exact .inl rfl | exact .inr rfl))) (fun _ _ _ _ _ => pts_nil) (fun _ _ _ _ _ => (pe_call (ok_told T) (hr.mono (by decide)) (by rfl) T.g_told T.F_told.kp T.b_told .nil pass0 (pa_cons (pv 0) (pa_cons (pv 6) pa_nil))))) (pss_one (ps_ret (pe_cmpR (op_eqD hr.units) (pe_call (ok_cover_word T B) (hr.mono (by decide)) (by rfl) T.g_cover_word T.F_cover_word.kp T.b_cover_word .nil pass0 (pa_cons (pv 0) (pa_cons (pv 1) pa_nil))) (pe_tup (pa_cons (pe_ix ix_list (pv 5) pe_int (fun _ _ => rfl)) (pa_cons (pe_ix ix_list (pv 5) pe_int (fun _ _ => rfl)) (pa_cons (pe_cmpR op_gt (pv 2) (pe_callTy call_int1 (by rfl) T.m_int (by decide +kernel) (pa_cons (pe_cmpR op_ne (pe_ix ix_list (pv 5) pe_int (fun _ _ => rfl)) (pe_ix ix_list (pv 5) pe_int (fun _ _ => rfl)) (nomark _)) pa_nil)) (nomark _)) pa_nil)))) (nomark _))))))), ?_⟩
    have m6 := ok.m6
    have l64 : ps.length ≤ 64 := Nat.le_trans l20 (by decide)
    refine ⟨.ref cv, rfl, .ref c, rfl, cv, c, m, ps, a, b, rfl, hcv, okp, l20, hch, ok, fun H1 s1 => ?_⟩
    rw [most_great ok okp]
    have hch1 := hch.gr (Gr.of s1)
    obtain ⟨ra, rb, hc, ha, hb⟩ := id hch1
    refine ⟨.ref c, rfl, .ref c, rfl, c, _, 1, .ref rb, rfl, rfl, SqT.of hc, rfl, .ref c, rfl, c, _, 0, .ref ra, rfl, rfl, SqT.of hc, rfl, sl2, fun c2 n2 => ?_⟩
    have s2 := same_upd (o := (HO.tup [V.ref rb, V.ref ra])) n2
    have hc2 : upd H1 c2 (HO.tup [V.ref rb, V.ref ra]) c2 = some (HO.tup [V.ref rb, V.ref ra]) := upd_same
    generalize upd H1 c2 (HO.tup [V.ref rb, V.ref ra]) = H2 at s2 hc2 ⊢
    refine ⟨.ref c, rfl, sl3, fun L nL => ?_⟩
    have s3 := same_upd (o := (HO.lst [V.ref c, V.ref c2, V.ref c])) nL
    have hL : upd H2 L (HO.lst [V.ref c, V.ref c2, V.ref c]) L = some (HO.lst [V.ref c, V.ref c2, V.ref c]) := upd_same
    generalize upd H2 L (HO.lst [V.ref c, V.ref c2, V.ref c]) = H3 at s3 hL ⊢
    have sA := (s1.trans s2).trans s3
    have gA := Gr.of sA
    have t3 := gA.tabs tabs
    have hcv3 := hcv.gr gA
    have hch3 : ChAt H3 c a b := hch.gr gA
    have s23 := s2.trans s3
    have hch32 : ChAt H3 c2 b a := ⟨rb, ra, s3 _ _ hc2, s23 _ _ hb, s23 _ _ ha⟩
    have okf : ChOk m b a := ⟨ok.lb, ok.la, ok.ob, ok.oa, ok.m6⟩
    refine ⟨L, rfl, ⟨_, SqL.of hL⟩, for_list (K := K) (a := L) (xs := [V.ref c, V.ref c2, V.ref c]) (fun i σ H' => ∃ y3 y4 y5 y6, σ = [some (.ref cv), some (.ref c), some (.int (greatM ps a b)), y3, y4, y5, y6] ∧ Gr H3 H') ⟨_, _, _, _, rfl, Gr.refl⟩ (fun i σ H' _ ⟨_, _, _, _, _, g⟩ => SqL.of (g.lst hL)) ?_ ?_⟩
    · rintro i x σ H4 hx ⟨y3, y4, y5, y6, rfl, g4⟩
      obtain ⟨cc, a', b', rfl, hcc, ok', eg⟩ : ∃ cc a' b', x = .ref cc ∧ ChAt H3 cc a' b' ∧ ChOk m a' b' ∧ greatM ps a' b' = greatM ps a b := by
        rcases i with _ | _ | _ | i
        · exact ⟨c, a, b, (Option.some.inj hx).symm, hch3, ok, rfl⟩
        · exact ⟨c2, b, a, (Option.some.inj hx).symm, hch32, okf, great_comm ps b a⟩
        · exact ⟨c, a, b, (Option.some.inj hx).symm, hch3, ok, rfl⟩
        · cases hx
      refine ⟨.ref cv, rfl, .ref cc, rfl, cv, cc, m, ps, a', b', rfl, hcv3.gr g4, okp, l64, hcc.gr g4, ok', g4.tabs t3, fun H5 g5 => ?_⟩
      rw [eg]
      refine ⟨.int (greatM ps a b), rfl, _, _, _, _, _, rfl, .ty _, .base (.int _), kit_ty kIB, _, rfl, iteF ?_⟩
      refine ⟨.int (greatM ps a b), rfl, _, _, _, _, _, rfl, .ty _, .base (.int _), kit_ty kII, _, rfl, iteF ?_⟩
      refine ⟨.int (greatM ps a b), rfl, .int (greatM ps a b), rfl, rfl, _, rfl, ?_⟩
      rw [decide_eq_true rfl]
      exact iteF ⟨_, _, _, _, rfl, g4.trans g5⟩
    · rintro σ H4 ⟨y3, y4, y5, y6, rfl, g4⟩
      have g04 := gA.trans g4
      have hc4 := g4.tup (s23 _ _ hc)
      have hcv4 := hcv3.gr g4
      have ha4 := g4.tup (s23 _ _ ha)
      have hb4 := g4.tup (s23 _ _ hb)
      refine ⟨.ref c, rfl, c, rfl, ⟨_, SqT.of hc4⟩, fun D nD => ?_⟩
      refine lc_tup (K := K) (a := c) (xs := [V.ref ra, V.ref rb]) (fun j H' => Same H4 (hd1 D H') ∧ H' D = some (.lst (([bI (toldM ps a), bI (toldM ps b)].take j).map V.int))) ⟨hd1_of (same_upd nD) nD, upd_same⟩ (fun j H' _ z => SqT.of (hd1_le _ _ (z.1 _ _ hc4))) ?_ ?_
      · rintro j v H5 hv ⟨s5, hD⟩
        obtain ⟨rr, r, rfl, hrr, okr, lr, hj⟩ : ∃ rr r, v = .ref rr ∧ H4 rr = some (.tup (r.map V.int)) ∧ Row01' r ∧ r.length = m ∧ ([bI (toldM ps a), bI (toldM ps b)])[j]? = some (bI (toldM ps r)) := by
          rcases j with _ | _ | j
          · exact ⟨ra, a, (Option.some.inj hv).symm, ha4, ok.oa, ok.la, rfl⟩
          · exact ⟨rb, b, (Option.some.inj hv).symm, hb4, ok.ob, ok.lb, rfl⟩
          · cases hv
        have hj2 : j < 2 := (List.getElem?_eq_some_iff.mp hj).1
        have s45 : Same H4 H5 := fun b o e => hd1_le _ _ (s5 _ _ e)
        refine ⟨rfl, .ref cv, rfl, .ref rr, rfl, cv, rr, m, ps, r, rfl, hcv4.gr (Gr.of s45), okp, l64, s45 _ _ hrr, okr, lr, fun H6 s6 => ?_⟩
        refine ⟨_, s6 _ _ hD, ?_, (s5.trans (hd1_same (p := D) s6)).trans hd1_upd, ?_⟩
        · rw [List.length_map, List.length_take]
          exact Nat.lt_of_lt_of_le (show min j 2 < 8 by omega) (by decide)
        · rw [upd_same, List.take_add_one, hj, List.map_append]
          rfl
      rintro H5 ⟨s5, hD⟩
      have s45 : Same H4 H5 := fun b o e => hd1_le _ _ (s5 _ _ e)
      have g05 := g04.trans (Gr.of s45)
      have hD5 : H5 D = some (.lst [V.int (bI (toldM ps a)), V.int (bI (toldM ps b))]) := hD
      refine ⟨.ref cv, rfl, .ref c, rfl, cv, c, m, ps, a, b, rfl, hcv.gr g05, okp, hch.gr g05, ok, g05.tabs tabs, fun r H6 g6 tr => ?_⟩
      have hD6 := g6.lst hD5
      refine ⟨.ref D, rfl, D, _, 0, _, rfl, rfl, SqL.of hD6, rfl, .ref D, rfl, D, _, 1, _, rfl, rfl, SqL.of hD6, rfl, .int (greatM ps a b), rfl, .ref D, rfl, D, _, 0, _, rfl, rfl, SqL.of hD6, rfl, .ref D, rfl, D, _, 1, _, rfl, rfl, SqL.of hD6, rfl, rfl, .inr ⟨_, rfl, _, _, rfl, rfl, sl3, fun t nt => ?_⟩⟩
      have ecnd : (if (!decide (V.int (bI (toldM ps a)) = V.int (bI (toldM ps b)))) = true then (1 : Int) else 0) = (if bI (toldM ps a) = bI (toldM ps b) then 0 else 1) := by
        rw [int_dec]
        by_cases z : bI (toldM ps a) = bI (toldM ps b)
        · rw [if_pos z, decide_eq_true z]; rfl
        · rw [if_neg z, decide_eq_false z]; rfl
      have ew : (HO.tup [V.int (bI (toldM ps a)), V.int (bI (toldM ps b)), (fun i j : Int => V.bl (decide (j < i))) (greatM ps a b) (if (!decide (V.int (bI (toldM ps a)) = V.int (bI (toldM ps b)))) = true then 1 else 0)]) = HO.tup [V.int (bI (toldM ps a)), V.int (bI (toldM ps b)), V.bl (froM ps a b)] := by
        rw [fro_great ok okp, ecnd]
      rw [ew]
      have st := same_upd (o := HO.tup [V.int (bI (toldM ps a)), V.int (bI (toldM ps b)), V.bl (froM ps a b)]) nt
      have tw : Tk (upd H6 t (.tup [V.int (bI (toldM ps a)), V.int (bI (toldM ps b)), V.bl (froM ps a b)])) (.ref t) (cwD ps a b) := .tup upd_same (.cons (.int _) (.cons (.int _) (.cons (.bl _) .nil)))
      refine ⟨_, _, (tr.same st).dp, tw.dp, sh_cwD _ _ _, sh_cwD _ _ _, ?_⟩
      rw [SeqAt.eqv_refl _ (SeqAt.canLay_of_shaped (sh_cwD _ _ _))]
      exact q _ ((g05.trans g6).trans (Gr.of st))

end
end Gk

set_option Elab.async false
set_option linter.all false
set_option maxRecDepth 100000
set_option maxHeartbeats 1000000
set_option pp.maxSteps 900
set_option pp.deepTerms false
namespace Gk
open PySem PySem.Spec PyProof.Rows L2

section
variable {P : Program} {w : World} {K : PySem.W.Frag} {mg : Str → Option Value} {base : Heap}
/-! ### a great cover -/
theorem two_plus {x : Int} (h0 : 0 ≤ x) (h1 : x < 5) : ∃ m : Nat, (fun i j : Int => V.int (i + j)) 2 x = V.int m ∧ 2 ≤ m ∧ m ≤ 6 := by
  obtain ⟨k, rfl⟩ := Int.eq_ofNat_of_zero_le h0
  refine ⟨2 + k, ?_, by omega, by omega⟩
  show V.int (2 + (k : Int)) = _
  congr 1
theorem ixN_k {n k : Nat} (h : k < n) : ixN n ((k : Nat) : Int) = some k := by
  unfold ixN
  rw [if_pos (by omega), if_pos (by omega)]
  rfl
theorem sets_one (cs : List Nat) (k c : Nat) : ((cs.map one).map V.str).set k (V.str (one c)) = (((cs.set k c).map one).map V.str) := by rw [List.map_set, List.map_set]
theorem w01 (z : Int) : SgOk (wS z) := by
  unfold wS
  split
  · exact .inr (.inr rfl)
  · exact .inr (.inl rfl)
theorem sg_set {cs : List Nat} (h : ∀ c ∈ cs, SgOk c) (k : Nat) (z : Int) : ∀ c ∈ cs.set k (wS z), SgOk c := fun c hc => by
  rcases List.mem_or_eq_of_mem_set hc with h1 | h1
  · exact h c h1
  · rw [h1]; exact w01 z
def sp_great (K : PySem.W.Frag) : Sp := fun vs H Q _ => ∃ (d l : Addr) (n : Int), vs = [.ref d] ∧ DeckD H d l n ∧ n < 500000 ∧ ∀ (r cv c : Addr) (m : Nat) (ps : List (List Nat)) (a b : List Int) (H' : Hp), DeckD H' d l (n + 300) → Fr d l H H' → H' r = some (.tup [.ref cv, .ref c]) → CovAt H' cv m ps → CovOk m ps → ps.length ≤ 16 → ChAt H' c a b → ChOk m a b → Q (.ref r) H'
theorem ok_great (T : Tx K mg) : FnOk P w K mg base CX0 4 T.f_great T.fd_great ["_law_deck_here"] (sp_great K) := by
  refine T.F_great.ok sc_great (fun vs H Q E h => ?_) (fun cdv A outer s H vs Q E hr h => ?_)
  · obtain ⟨d, l, n, rfl, _⟩ := h
    rfl
  · obtain ⟨d, l, n, rfl, D, hn, q⟩ := h
    refine ⟨_, (pss_cons (ps_set (i := 1) sc_great.nd rfl (by first | exact .inl rfl | exact .inr rfl) (pe_op op_add pe_int (pe_call (ok_draw T) (hr.mono (by decide)) (by rfl) T.g_draw T.F_draw.kp T.b_draw .nil pass0 (pa_cons (pv 0) (pa_cons pe_int pa_nil))))) (pss_cons (ps_set (i := 2) sc_great.nd rfl (by first | exact .inl rfl | exact .inr rfl) (pe_call (ok_row T) (hr.mono (by decide)) (by rfl) T.g_row T.F_row.kp T.b_row .nil pass0 (pa_cons (pv 0) (pa_cons (pv 1) pa_nil)))) (pss_cons (ps_set (i := 3) sc_great.nd rfl (by first | exact .inl rfl | exact .inr rfl) (pe_callTy call_tuple_of (by rfl) T.m_tuple (by decide +kernel) (pa_cons (pe_lc (own := [("_law_worth", 8)]) (by rfl) sc_great.nd (pi_tup (pv 2)) (blkOk_by (own := [("_law_worth", 8)]) (N := ["_law_deck_here", "_law_many_here", "_law_row_here", "_law_other", "_law_found", "_law_k", "_law_signs", "_law_at", "_law_worth", "_law_one"]) (sc := defScope s_great) (by decide +kernel)) (fun _ _ _ _ _ => (pg_name (i := 8) sc_great.nd rfl (by first | exact .inl rfl | exact .inr rfl))) (fun _ _ _ _ _ => pts_nil) (fun _ _ _ _ _ => (pe_op op_sub pe_int (pv 8)))) pa_nil))) (pss_cons (ps_set (i := 4) sc_great.nd rfl (by first | exact .inl rfl | exact .inr rfl) (pe_lst pa_nil)) (pss_cons (ps_for PassesOwn.never rfl (pi_range1 (by rfl) T.m_range (pa_cons (pe_op op_add pe_int (pe_call (ok_draw T) (hr.mono (by decide)) (by rfl) T.g_draw T.F_draw.kp T.b_draw .nil pass0 (pa_cons (pv 0) (pa_cons pe_int pa_nil)))) pa_nil)) (pg_name (i := 5) sc_great.nd rfl (by first | exact .inl rfl | exact .inr rfl)) (pss_cons (ps_setLc (i := 6) (own := [("_law_one", 9)]) (by rfl) sc_great.nd rfl rfl (sw_true rfl rfl rfl (by decide +kernel)) (pi_tup (pv 2)) (blkOk_by (own := [("_law_one", 9)]) (N := ["_law_deck_here", "_law_many_here", "_law_row_here", "_law_other", "_law_found", "_law_k", "_law_signs", "_law_at", "_law_worth", "_law_one"]) (sc := defScope s_great) (by decide +kernel)) (fun _ _ _ _ _ => (pg_name (i := 9) sc_great.nd rfl (by first | exact .inl rfl | exact .inr rfl))) (fun _ _ _ _ _ => pts_nil) (fun _ _ _ _ _ => (pe_ix (show IxR _ (rIxL K) from ix_list) (pe_lst (pa_cons pe_str (pa_cons (pe_callTy call_str_int (by rfl) T.m_str (by decide +kernel) (pa_cons (pv 9) pa_nil)) (pa_cons (pe_callTy call_str_int (by rfl) T.m_str (by decide +kernel) (pa_cons (pe_op op_sub pe_int (pv 9)) pa_nil)) pa_nil)))) (pe_call (ok_draw T) (hr.mono (by decide)) (by rfl) T.g_draw T.F_draw.kp T.b_draw .nil pass0 (pa_cons (pv 0) (pa_cons pe_int pa_nil))) (fun _ _ => rfl)))) (pss_cons (ps_set (i := 7) sc_great.nd rfl (by first | exact .inl rfl | exact .inr rfl) (pe_call (ok_draw T) (hr.mono (by decide)) (by rfl) T.g_draw T.F_draw.kp T.b_draw .nil pass0 (pa_cons (pv 0) (pa_cons (pv 1) pa_nil)))) (pss_cons (ps_asg (pe_callTy call_str_int (by rfl) T.m_str (by decide +kernel) (pa_cons (pe_ix ix_tup (pv 2) (pv 7) (fun _ _ => rfl)) pa_nil)) (pg_sub (pv 6) (pv 7) set_list)) (pss_cons (ps_set (i := 7) sc_great.nd rfl (by first | exact .inl rfl | exact .inr rfl) (pe_op op_mod (pe_op op_add (pe_op op_add (pv 7) pe_int) (pe_call (ok_draw T) (hr.mono (by decide)) (by rfl) T.g_draw T.F_draw.kp T.b_draw .nil pass0 (pa_cons (pv 0) (pa_cons (pe_op op_sub (pv 1) pe_int) pa_nil)))) (pv 1))) (pss_cons (ps_asg (pe_callTy call_str_int (by rfl) T.m_str (by decide +kernel) (pa_cons (pe_ix ix_tup (pv 3) (pv 7) (fun _ _ => rfl)) pa_nil)) (pg_sub (pv 6) (pv 7) set_list)) (pss_one (ps_expr (pe_bm PySem.F.plainAttrs_list PySem.F.slot_list_append PySem.F.type_list_append mt_append (pv 4) (pa_cons (pe_join pe_str (pv 6)) pa_nil)))))))))) (pss_cons (ps_for PassesOwn.never rfl (pi_range1 (by rfl) T.m_range (pa_cons (pe_call (ok_draw T) (hr.mono (by decide)) (by rfl) T.g_draw T.F_draw.kp T.b_draw .nil pass0 (pa_cons (pv 0) (pa_cons pe_int pa_nil))) pa_nil)) (pg_name (i := 5) sc_great.nd rfl (by first | exact .inl rfl | exact .inr rfl)) (pss_one (ps_asg (pe_call (ok_product T) (hr.mono (by decide)) (by rfl) T.g_product T.F_product.kp T.b_product .nil pass0 (pa_cons (pv 0) (pa_cons (pv 1) pa_nil))) (pg_sub (pv 4) (pe_call (ok_draw T) (hr.mono (by decide)) (by rfl) T.g_draw T.F_draw.kp T.b_draw .nil pass0 (pa_cons (pv 0) (pa_cons (pe_callB call_len_seq (by rfl) T.m_len PySem.boot_len (pa_cons (pv 4) pa_nil)) pa_nil))) set_list)))) (pss_one (ps_ret (pe_tup (pa_cons (pe_tup (pa_cons (pv 1) (pa_cons (pe_callTy call_tuple_of (by rfl) T.m_tuple (by decide +kernel) (pa_cons (pv 4) pa_nil)) pa_nil))) (pa_cons (pe_tup (pa_cons (pv 2) (pa_cons (pv 3) pa_nil))) pa_nil))))))))))), ?_⟩
    refine ⟨.ref d, rfl, d, l, 5, _, rfl, D, by omega, by decide, by decide, fun H1 x D1 fr1 x0 x1 => ⟨_, _, rfl, rfl, ?_⟩⟩
    obtain ⟨m, em, m2, m6⟩ := two_plus x0 x1
    rw [em]
    refine ⟨.ref d, rfl, .int (m : Nat), rfl, d, l, _, m, rfl, D1, by omega, m6, fun p bs H2 D2 fr2 lb okb hp => ?_⟩
    have fr12 := fr1.trans fr2
    refine ⟨.ref p, rfl, p, rfl, ⟨_, SqT.of hp⟩, fun L nL => ?_⟩
    refine lc_tup (K := K) (a := p) (xs := bs.map V.int) (fun j H' => Same H2 (hd1 L H') ∧ H' L = some (.lst (((bs.take j).map fun b => 1 - b).map V.int))) ⟨hd1_of (same_upd nL) nL, upd_same⟩ (fun j H' _ z => SqT.of (hd1_le _ _ (z.1 _ _ hp))) ?_ ?_
    · rintro j v H3 hv ⟨s3, hL⟩
      obtain ⟨b, hb, rfl⟩ := int_at hv
      refine ⟨rfl, .int b, rfl, _, _, rfl, rfl, _, hL, ?_, s3.trans hd1_upd, ?_⟩
      · rw [List.length_map, List.length_map, List.length_take]
        exact Nat.lt_of_lt_of_le (show _ < 64 by omega) (by decide)
      · rw [upd_same, List.take_add_one, hb]
        simp
    rintro H3 ⟨s3, hL⟩
    rw [List.length_map, List.take_length] at hL
    have s23 : Same H2 H3 := fun b o e => hd1_le _ _ (s3 _ _ e)
    refine ⟨L, _, rfl, .inl ⟨SqL.of hL, fun t nt => ?_⟩⟩
    have s4 := same_upd (o := (HO.tup ((bs.map fun b => 1 - b).map V.int))) nt
    have ht : upd H3 t (HO.tup ((bs.map fun b => 1 - b).map V.int)) t = some (HO.tup ((bs.map fun b => 1 - b).map V.int)) := upd_same
    generalize upd H3 t (HO.tup ((bs.map fun b => 1 - b).map V.int)) = H4 at s4 ht ⊢
    refine ⟨Nat.zero_le _, fun F nF => ?_⟩
    have s5 := same_upd (o := (HO.lst [])) nF
    have hF : upd H4 F (HO.lst []) F = some (HO.lst []) := upd_same
    generalize upd H4 F (HO.lst []) = H5 at s5 hF ⊢
    have sA := (s23.trans s4).trans s5
    have D5 := D2.same sA
    have oF := (D2.same (s23.trans s4)).off nF
    have hp5 := sA _ _ hp
    have ht5 := s5 _ _ ht
    have fr5 : Fr d l H H5 := fr12.trans (Fr.of sA)
    have lo : (bs.map fun b => 1 - b).length = m := by rw [List.length_map, lb]
    have oko : Row01' (bs.map fun b => 1 - b) := fun y hy => by
      obtain ⟨b, hb, rfl⟩ := List.mem_map.mp hy
      have := okb b hb
      omega
    generalize (bs.map fun b => 1 - b) = os at ht ht5 lo oko
    refine ⟨.ref d, rfl, d, l, 10, _, rfl, D5, by omega, by decide, by decide, fun H6 y D6 fr6 y0 y1 => ?_⟩
    obtain ⟨nk, hnk, nk16, nk7⟩ : ∃ nk : Nat, (7 : Int) + y = (nk : Int) ∧ nk ≤ 16 ∧ 7 ≤ nk := ⟨(7 + y).toNat, by omega, by omega, by omega⟩
    refine ⟨_, _, rfl, rfl, (nk : Int), congrArg (fun z => [V.int z]) hnk, by omega, by omega, ?_⟩
    have fr6' := fr5.trans fr6
    have ts6 := Ts.frD D5 fr6
    have hF6 := fr6 _ _ oF.1 oF.2 hF
    refine for_range (lo := 0) (n := (nk : Int).toNat) (fun i σ H' => ∃ y5 y6 y7 y8 y9 ps, σ = [some (.ref d), some (.int (m : Nat)), some (.ref p), some (.ref t), some (.ref F), y5, y6, y7, y8, y9] ∧ DeckD H' d l (n + 8 + 10 * i) ∧ Fr d l H H' ∧ H' p = some (.tup (bs.map V.int)) ∧ H' t = some (.tup (os.map V.int)) ∧ H' F = some (.lst (pVs ps)) ∧ ps.length = i ∧ CovOk m ps)
      ⟨_, _, _, _, _, [], rfl, D6.mono (by omega), ?_, ts6 _ _ hp5, ts6 _ _ ht5, hF6, rfl, fun _ z => by cases z⟩ ?_ ?_
    · exact fr6'
    · rintro i σ H7 hi ⟨y5, y6, y7, y8, y9, ps, rfl, D7, fr7, hp7, ht7, hF7, lp, okp⟩
      have hi' : i < 16 := by have : i < (nk : Int).toNat := hi; omega
      refine ⟨.ref p, rfl, p, rfl, ⟨_, SqT.of hp7⟩, fun S nS => ?_⟩
      have oS := D7.off nS
      have nS0 : H S = none := none_of_frD fr7 D7 nS
      have npS : p ≠ S := ne_of_none hp7 nS
      have ntS : t ≠ S := ne_of_none ht7 nS
      have nFS : F ≠ S := ne_of_none hF7 nS
      refine lc_tup (K := K) (a := p) (xs := bs.map V.int) (fun j H' => DeckD H' d l (n + 8 + 10 * i + j) ∧ Fr d l H H' ∧ H' p = some (.tup (bs.map V.int)) ∧ H' t = some (.tup (os.map V.int)) ∧ H' F = some (.lst (pVs ps)) ∧ ∃ cs : List Nat, cs.length = j ∧ (∀ c ∈ cs, SgOk c) ∧ H' S = some (.lst ((cs.map one).map V.str)))
        ⟨(D7.same (same_upd nS)).mono (by omega), fr7.upd nS0, same_upd nS _ _ hp7, same_upd nS _ _ ht7, same_upd nS _ _ hF7, [], rfl, (fun _ z => by cases z), upd_same⟩ (fun j H' _ z => SqT.of z.2.2.1) ?_ ?_
      · rintro j v H8 hv ⟨D8, fr8, hp8, ht8, hF8, cs, lc, okc, hS8⟩
        obtain ⟨b, hb, rfl⟩ := int_at hv
        have hb01 := okb b (List.mem_of_getElem? hb)
        have hj : j < 6 := by have := (List.getElem?_eq_some_iff.mp hb).1; omega
        have hb01' : (1 - b) = 0 ∨ (1 - b) = 1 := by omega
        refine ⟨rfl, .int b, rfl, b, rfl, by rcases hb01 with rfl | rfl <;> decide, ?_⟩
        rw [str01 hb01]
        refine ⟨.int b, rfl, _, _, rfl, rfl, 1 - b, rfl, by rcases hb01 with rfl | rfl <;> decide, ?_⟩
        rw [str01 hb01']
        refine ⟨sl3, fun e ne => ?_⟩
        have s9 := same_upd (o := (HO.lst [V.str (Str.ofString "-"), V.str (one (wS b)), V.str (one (wS (1 - b)))])) ne
        have he9 : upd H8 e (HO.lst [V.str (Str.ofString "-"), V.str (one (wS b)), V.str (one (wS (1 - b)))]) e = some (HO.lst [V.str (Str.ofString "-"), V.str (one (wS b)), V.str (one (wS (1 - b)))]) := upd_same
        generalize upd H8 e (HO.lst [V.str (Str.ofString "-"), V.str (one (wS b)), V.str (one (wS (1 - b)))]) = H9 at s9 he9 ⊢
        have oe := D8.off ne
        refine ⟨.ref d, rfl, d, l, 3, _, rfl, D8.same s9, by omega, by decide, by decide, fun H10 u D10 fr10 u0 u1 => ?_⟩
        have ts10 := Ts.frD (D8.same s9) fr10
        have hS10 := fr10 _ _ oS.1 oS.2 (s9 _ _ hS8)
        have hF10 := fr10 _ _ oF.1 oF.2 (s9 _ _ hF8)
        obtain ⟨cc, okcc, hat⟩ : ∃ cc, SgOk cc ∧ atI [V.str (Str.ofString "-"), V.str (one (wS b)), V.str (one (wS (1 - b)))] u = some (.str (one cc)) := by
          have w01 : ∀ z : Int, SgOk (wS z) := fun z => by
            unfold wS
            split
            · exact .inr (.inr rfl)
            · exact .inr (.inl rfl)
          have : u = 0 ∨ u = 1 ∨ u = 2 := by omega
          rcases this with rfl | rfl | rfl
          · exact ⟨45, .inl rfl, by rw [dash_S]; rfl⟩
          · exact ⟨wS b, w01 _, rfl⟩
          · exact ⟨wS (1 - b), w01 _, rfl⟩
        refine ⟨e, _, u, _, rfl, rfl, SqL.of (fr10 _ _ oe.1 oe.2 he9), hat, _, hS10, ?_, (D10.upd oS.1 oS.2).mono (by push_cast; omega), ((fr8.trans (Fr.of s9)).trans fr10).upd nS0, by rw [upd_ne npS]; exact ts10 _ _ (s9 _ _ hp8), by rw [upd_ne ntS]; exact ts10 _ _ (s9 _ _ ht8), by rw [upd_ne nFS]; exact hF10, cs ++ [cc], by rw [List.length_append, lc]; rfl, fun z hz => ?_, ?_⟩
        · rw [List.length_map, List.length_map, lc]
          exact Nat.lt_of_lt_of_le (show j < 64 by omega) (by decide)
        · rcases List.mem_append.mp hz with h | h
          · exact okc z h
          · rw [List.mem_singleton.mp h]; exact okcc
        · rw [upd_same, List.map_append, List.map_append]
          rfl
      rintro H8 ⟨D8, fr8, hp8, ht8, hF8, cs, lc, okc, hS8⟩
      rw [List.length_map, lb] at D8 lc
      refine ⟨.ref d, rfl, .int (m : Nat), rfl, d, l, (m : Int), _, rfl, D8, by omega, by omega, by omega, fun H9 u D9 fr9 u0 u1 => ?_⟩
      have ts9 := Ts.frD D8 fr9
      have hp9 := ts9 _ _ hp8
      have ht9 := ts9 _ _ ht8
      have hS9 := fr9 _ _ oS.1 oS.2 hS8
      have hF9 := fr9 _ _ oF.1 oF.2 hF8
      obtain ⟨k, rfl⟩ := Int.eq_ofNat_of_zero_le u0
      have hk : k < m := by omega
      have hat : atI (bs.map V.int) ((k : Nat) : Int) = some (.int bs[k]) := atI_nat (by rw [List.getElem?_map, List.getElem?_eq_getElem (by omega)]; rfl)
      have hb01 := okb bs[k] (List.getElem_mem (by omega))
      refine ⟨.ref p, rfl, .int (k : Nat), rfl, p, _, _, _, rfl, rfl, SqT.of hp9, hat, bs[k], rfl, by rcases hb01 with z | z <;> rw [z] <;> decide, ?_⟩
      rw [str01 hb01]
      refine ⟨.ref S, rfl, .int (k : Nat), rfl, S, _, _, k, rfl, rfl, hS9, ixN_k (by rw [List.length_map, List.length_map, lc]; exact hk), ?_⟩
      rw [sets_one]
      obtain ⟨cs1, ecs⟩ : ∃ cs1, cs1 = cs.set k (wS bs[k]) := ⟨_, rfl⟩
      have lc1 : cs1.length = m := by rw [ecs, List.length_set, lc]
      have okc1 : ∀ c ∈ cs1, SgOk c := by rw [ecs]; exact sg_set okc k bs[k]
      rw [← ecs]
      have ts10 : Ts H9 (upd H9 S (.lst ((cs1.map one).map V.str))) := fun b xs e => by
        rw [upd_ne (ne_of e hS9 (by intro z; cases z))]
        exact e
      have hS10 : upd H9 S (.lst ((cs1.map one).map V.str)) S = some (.lst ((cs1.map one).map V.str)) := upd_same
      have hF10 : upd H9 S (.lst ((cs1.map one).map V.str)) F = some (.lst (pVs ps)) := by rw [upd_ne nFS]; exact hF9
      have D10 := D9.upd (o := .lst ((cs1.map one).map V.str)) oS.1 oS.2
      have fr10 := (fr8.trans fr9).upd (o := .lst ((cs1.map one).map V.str)) nS0
      have hp10 := ts10 _ _ hp9
      have ht10 := ts10 _ _ ht9
      generalize upd H9 S (.lst ((cs1.map one).map V.str)) = H10 at ts10 hS10 hF10 D10 fr10 hp10 ht10 ⊢
      refine ⟨.int (k : Nat), rfl, _, _, rfl, rfl, .ref d, rfl, .int (m : Nat), rfl, _, _, rfl, rfl, d, l, ((m : Int) - 1), _, rfl, D10, by omega, by omega, by omega, fun H11 u2 D11 fr11 v0 v1 => ⟨_, _, rfl, rfl, .int (m : Nat), rfl, _, _, rfl, rfl, (by omega : 0 < (m : Int)), ?_⟩⟩
      obtain ⟨k2, hk2, k2m⟩ : ∃ k2 : Nat, (((k : Nat) : Int) + 1 + u2) % (m : Int) = (k2 : Int) ∧ k2 < m := by
        have h0 := Int.emod_nonneg (((k : Nat) : Int) + 1 + u2) (show (m : Int) ≠ 0 by omega)
        have h1 := Int.emod_lt_of_pos (((k : Nat) : Int) + 1 + u2) (show 0 < (m : Int) by omega)
        exact ⟨((((k : Nat) : Int) + 1 + u2) % (m : Int)).toNat, by omega, by omega⟩
      have ts11 := Ts.frD D10 fr11
      have ht11 := ts11 _ _ ht10
      have hS11 := fr11 _ _ oS.1 oS.2 hS10
      have hF11 := fr11 _ _ oF.1 oF.2 hF10
      have hat2 : atI (os.map V.int) ((((k : Nat) : Int) + 1 + u2) % (m : Int)) = some (.int os[k2]) := by
        rw [hk2]
        exact atI_nat (by rw [List.getElem?_map, List.getElem?_eq_getElem (by omega)]; rfl)
      have ho01 := oko os[k2] (List.getElem_mem (by omega))
      refine ⟨.ref t, rfl, .int ((((k : Nat) : Int) + 1 + u2) % (m : Int)), rfl, t, _, _, _, rfl, rfl, SqT.of ht11, hat2, os[k2], rfl, by rcases ho01 with z | z <;> rw [z] <;> decide, ?_⟩
      rw [str01 ho01]
      refine ⟨.ref S, rfl, .int ((((k : Nat) : Int) + 1 + u2) % (m : Int)), rfl, S, _, _, k2, rfl, rfl, hS11, by rw [hk2]; exact ixN_k (by rw [List.length_map, List.length_map, lc1]; exact k2m), ?_⟩
      rw [sets_one]
      obtain ⟨cs2, ecs2⟩ : ∃ cs2, cs2 = cs1.set k2 (wS os[k2]) := ⟨_, rfl⟩
      have lc2 : cs2.length = m := by rw [ecs2, List.length_set, lc1]
      have okc2 : ∀ c ∈ cs2, SgOk c := by rw [ecs2]; exact sg_set okc1 k2 os[k2]
      rw [← ecs2]
      have ts12 : Ts H11 (upd H11 S (.lst ((cs2.map one).map V.str))) := fun b xs e => by
        rw [upd_ne (ne_of e hS11 (by intro z; cases z))]
        exact e
      have hS12 : upd H11 S (.lst ((cs2.map one).map V.str)) S = some (.lst ((cs2.map one).map V.str)) := upd_same
      have hF12 : upd H11 S (.lst ((cs2.map one).map V.str)) F = some (.lst (pVs ps)) := by rw [upd_ne nFS]; exact hF11
      have D12 := D11.upd (o := .lst ((cs2.map one).map V.str)) oS.1 oS.2
      have fr12' := (fr10.trans fr11).upd (o := .lst ((cs2.map one).map V.str)) nS0
      have hp12 := ts12 _ _ (ts11 _ _ hp10)
      have ht12 := ts12 _ _ ht11
      generalize upd H11 S (.lst ((cs2.map one).map V.str)) = H12 at ts12 hS12 hF12 D12 fr12' hp12 ht12 ⊢
      refine ⟨.ref F, rfl, .inl ⟨rfl, _, SqL.of hF12⟩, ⟨_, rfl⟩, .ref S, rfl, Str.ofString "", S, cs2.map one, rfl, rfl, .inl (SqL.of hS12), join_fit (by omega), ?_⟩
      rw [join_one]
      have nF0 : H F = none := none_of_frD (fr12.trans (Fr.of (s23.trans s4))) (D2.same (s23.trans s4)) nF
      refine ⟨F, _, _, rfl, rfl, hF12, ?_, _, _, _, _, _, ps ++ [cs2], rfl, (D12.upd oF.1 oF.2).mono (by push_cast; omega), fr12'.upd nF0, by rw [upd_ne (ne_of hp12 hF12 (by intro z; cases z))]; exact hp12, by rw [upd_ne (ne_of ht12 hF12 (by intro z; cases z))]; exact ht12, ?_, by rw [List.length_append, lp]; rfl, fun z hz => ?_⟩
      · unfold pVs
        rw [List.length_map, lp]
        exact Nat.lt_of_lt_of_le (show i < 64 by omega) (by decide)
      · rw [upd_same]
        unfold pVs
        rw [List.map_append]
        rfl
      · rcases List.mem_append.mp hz with h | h
        · exact okp z h
        · rw [List.mem_singleton.mp h]
          exact ⟨lc2, okc2⟩
    · rintro σ H7 ⟨y5, y6, y7, y8, y9, ps, rfl, D7, fr7, hp7, ht7, hF7, lp, okp⟩
      have lps : ps.length = nk := by rw [lp]; simp
      have nF0 : H F = none := none_of_frD (fr12.trans (Fr.of (s23.trans s4))) (D2.same (s23.trans s4)) nF
      refine ⟨.ref d, rfl, d, l, 3, _, rfl, D7, by omega, by decide, by decide, fun H8 y2 D8 fr8 z0 z1 => ?_⟩
      have ts8 := Ts.frD D7 fr8
      refine ⟨y2, rfl, by omega, by omega, ?_⟩
      refine for_range (lo := 0) (n := (y2 : Int).toNat) (fun i σ H' => ∃ y5 ps, σ = [some (.ref d), some (.int (m : Nat)), some (.ref p), some (.ref t), some (.ref F), y5, y6, y7, y8, y9] ∧ DeckD H' d l (n + 8 + 10 * 16 + 1 + 9 * i) ∧ Fr d l H H' ∧ H' p = some (.tup (bs.map V.int)) ∧ H' t = some (.tup (os.map V.int)) ∧ H' F = some (.lst (pVs ps)) ∧ ps.length = nk ∧ CovOk m ps)
        ⟨_, ps, rfl, D8.mono (by omega), fr7.trans fr8, ts8 _ _ hp7, ts8 _ _ ht7, fr8 _ _ oF.1 oF.2 hF7, lps, okp⟩ ?_ ?_
      · rintro i σ H9 hi ⟨y5, ps, rfl, D9, fr9, hp9, ht9, hF9, lps, okp⟩
        have hi' : i < 3 := by have : i < (y2 : Int).toNat := hi; omega
        refine ⟨.ref d, rfl, .int (m : Nat), rfl, d, l, _, m, rfl, D9, by omega, by omega, m6, fun p1 H10 D10 fr10 okp1 => ?_⟩
        have ts10 := Ts.frD D9 fr10
        have hF10 := fr10 _ _ oF.1 oF.2 hF9
        have lV : (pVs ps).length = nk := by unfold pVs; rw [List.length_map, lps]
        refine ⟨.ref F, rfl, .ref d, rfl, .ref F, rfl, F, _, rfl, .inl (SqL.of hF10), ?_⟩
        rw [lV]
        refine ⟨d, l, _, _, rfl, D10, by omega, by omega, by omega, fun H11 u D11 fr11 u0 u1 => ?_⟩
        obtain ⟨k, rfl⟩ := Int.eq_ofNat_of_zero_le u0
        have ts11 := Ts.frD D10 fr11
        have hF11 := fr11 _ _ oF.1 oF.2 hF10
        refine ⟨F, _, _, k, rfl, rfl, hF11, ixN_k (by rw [lV]; omega), ?_⟩
        refine ⟨_, ps.set k p1, rfl, (D11.upd oF.1 oF.2).mono (by push_cast; omega), ((fr9.trans fr10).trans fr11).upd nF0, ?_, ?_, ?_, by rw [List.length_set, lps], fun z hz => ?_⟩
        · rw [upd_ne (ne_of (ts11 _ _ (ts10 _ _ hp9)) hF11 (by intro z; cases z))]; exact ts11 _ _ (ts10 _ _ hp9)
        · rw [upd_ne (ne_of (ts11 _ _ (ts10 _ _ ht9)) hF11 (by intro z; cases z))]; exact ts11 _ _ (ts10 _ _ ht9)
        · rw [upd_same]
          unfold pVs
          rw [List.map_set]
        · rcases List.mem_or_eq_of_mem_set hz with h | h
          · exact okp z h
          · rw [h]; exact okp1
      · rintro σ H9 ⟨y5, ps, rfl, D9, fr9, hp9, ht9, hF9, lps, okp⟩
        refine ⟨.int (m : Nat), rfl, .ref F, rfl, F, _, rfl, .inl ⟨SqL.of hF9, fun tp ntp => ?_⟩⟩
        have w1 := same_upd (o := (HO.tup (pVs ps))) ntp
        have hk1 : upd H9 tp (HO.tup (pVs ps)) tp = some (HO.tup (pVs ps)) := upd_same
        generalize upd H9 tp (HO.tup (pVs ps)) = K1 at w1 hk1 ⊢
        refine ⟨sl2, fun cv ncv => ?_⟩
        have w2 := same_upd (o := (HO.tup [V.int (m : Nat), V.ref tp])) ncv
        have hk2 : upd K1 cv (HO.tup [V.int (m : Nat), V.ref tp]) cv = some (HO.tup [V.int (m : Nat), V.ref tp]) := upd_same
        generalize upd K1 cv (HO.tup [V.int (m : Nat), V.ref tp]) = K2 at w2 hk2 ⊢
        refine ⟨.ref p, rfl, .ref t, rfl, sl2, fun c nc => ?_⟩
        have w3 := same_upd (o := (HO.tup [V.ref p, V.ref t])) nc
        have hk3 : upd K2 c (HO.tup [V.ref p, V.ref t]) c = some (HO.tup [V.ref p, V.ref t]) := upd_same
        generalize upd K2 c (HO.tup [V.ref p, V.ref t]) = K3 at w3 hk3 ⊢
        refine ⟨sl2, fun r nr => ?_⟩
        have w4 := same_upd (o := (HO.tup [V.ref cv, V.ref c])) nr
        have hk4 : upd K3 r (HO.tup [V.ref cv, V.ref c]) r = some (HO.tup [V.ref cv, V.ref c]) := upd_same
        generalize upd K3 r (HO.tup [V.ref cv, V.ref c]) = K4 at w4 hk4 ⊢
        have sZ := ((w1.trans w2).trans w3).trans w4
        exact q r cv c m ps bs os K4 ((D9.same sZ).mono (by omega)) (fr9.trans (Fr.of sZ)) hk4 ⟨tp, w4 _ _ (w3 _ _ hk2), w4 _ _ (w3 _ _ (w2 _ _ hk1))⟩ okp (by omega) ⟨p, t, w4 _ _ hk3, sZ _ _ hp9, sZ _ _ ht9⟩ ⟨lb, lo, okb, oko, m6⟩

end
end Gk

set_option Elab.async false
set_option linter.all false
set_option maxRecDepth 100000
set_option maxHeartbeats 0
set_option pp.maxSteps 1500
set_option pp.deepTerms false
namespace Gk
open PySem PySem.Spec PyProof.Rows L2
section
variable {P : Program} {w : World} {K : PySem.W.Frag} {mg : Str → Option Value} {base : Heap}
theorem Tabs.fr {H H' : Hp} {Ps : List Addr} {d l : Addr} {n : Int} (t : Tabs H Ps) (D : DeckD H d l n) (f : Fr d l H H') : Tabs H' Ps := fun P hP => tab_frD D f (t P hP)
theorem sh_strsT {m : Nat} {ps : List (List Nat)} (h : CovOk m ps) : SeqAt.shaped (.tuple (ps.map fun p => PyData.str (SX.S p))) = true := by
  unfold SeqAt.shaped
  rw [Bool.and_eq_true]
  refine ⟨?_, decide_eq_true ?_⟩
  · simp only [PyData.canLay0, lay_strs ps h]
  · have := depth_strs ps
    simp only [PyData.depth]
    omega
theorem ne_strsT (ps : List (List Nat)) : (!PyData.eqv (.tuple (ps.map fun p => PyData.str (SX.S p))) (.tuple [])) = !ps.isEmpty := by cases ps <;> rfl
theorem ChOk.flip {m : Nat} {a b : List Int} (h : ChOk m a b) : ChOk m b a := ⟨h.lb, h.la, h.ob, h.oa, h.m6⟩
def sp_law (K : PySem.W.Frag) (Ps : List Addr) : Sp := fun vs H Q _ => ∃ (a : Addr) (ns : List Int), vs = [.ref a] ∧ SqL K H a (ns.map V.int) ∧ ns.length ≤ 63 ∧ Tabs H Ps ∧ ∀ H', Q (.bl true) H'
theorem ok_law (T : Tx K mg) (B : Tb base T) : FnOk P w K mg base CX0 9 T.f_law T.fd_law ["_law_script"] (sp_law K T.tabs) := by
  refine T.F_law.ok sc_law (fun vs H Q E h => ?_) (fun cdv A outer s H vs Q E hr h => ?_)
  · obtain ⟨a, ns, rfl, _⟩ := h
    rfl
  · obtain ⟨a, ns, rfl, hS, hlen, tabs, q⟩ := h
    refine ⟨_, (pss_cons (ps_set (i := 1) sc_law.nd rfl (by first | exact .inl rfl | exact .inr rfl) (pe_call (ok_deck T) (hr.mono (by decide)) (by rfl) T.g_deck T.F_deck.kp T.b_deck .nil pass0 (pa_cons (pv 0) pa_nil))) (C8.pss_cut (ps_if (pt_cut (pt_cmpR op_eq (pe_call (ok_draw T) (hr.mono (by decide)) (by rfl) T.g_draw T.F_draw.kp T.b_draw .nil pass0 (pa_cons (pv 1) (pa_cons pe_int pa_nil))) pe_int (nomark _))) (pss_cons (ps_asg (pe_call (ok_great T) (hr.mono (by decide)) (by rfl) T.g_great T.F_great.kp T.b_great .nil pass0 (pa_cons (pv 1) pa_nil)) (pg_tup rfl (pgs_cons (pg_name (i := 2) sc_law.nd rfl (by first | exact .inl rfl | exact .inr rfl)) (pgs_cons (pg_name (i := 3) sc_law.nd rfl (by first | exact .inl rfl | exact .inr rfl)) pgs_nil)))) (pss_one (ps_if (pt_not (pt_val (pe_call (ok_right T B) (hr.mono (by decide)) (by rfl) T.g_right T.F_right.kp T.b_right .nil pass0 (pa_cons (pv 2) (pa_cons (pv 3) pa_nil))))) (pss_one (ps_ret pe_bl)) pss_nil))) pss_nil) (pss_cons (ps_for PassesOwn.never rfl (pi_range1 (by rfl) T.m_range (pa_cons pe_int pa_nil)) (pg_name (i := 4) sc_law.nd rfl (by first | exact .inl rfl | exact .inr rfl)) (pss_cons (ps_set (i := 5) sc_law.nd rfl (by first | exact .inl rfl | exact .inr rfl) (pe_call (ok_many T) (hr.mono (by decide)) (by rfl) T.g_many T.F_many.kp T.b_many .nil pass0 (pa_cons (pv 1) pa_nil))) (pss_cons (ps_set (i := 2) sc_law.nd rfl (by first | exact .inl rfl | exact .inr rfl) (pe_call (ok_cover T) (hr.mono (by decide)) (by rfl) T.g_cover T.F_cover.kp T.b_cover .nil pass0 (pa_cons (pv 1) (pa_cons (pv 5) pa_nil)))) (pss_one (ps_for PassesOwn.never rfl (pi_range1 (by rfl) T.m_range (pa_cons pe_int pa_nil)) (pg_name (i := 6) sc_law.nd rfl (by first | exact .inl rfl | exact .inr rfl)) (pss_cons (ps_set (i := 7) sc_law.nd rfl (by first | exact .inl rfl | exact .inr rfl) (pe_call (ok_draw T) (hr.mono (by decide)) (by rfl) T.g_draw T.F_draw.kp T.b_draw .nil pass0 (pa_cons (pv 1) (pa_cons pe_int pa_nil)))) (pss_cons (ps_set (i := 3) sc_law.nd rfl (by first | exact .inl rfl | exact .inr rfl) (pe_call (ok_change T) (hr.mono (by decide)) (by rfl) T.g_change T.F_change.kp T.b_change .nil pass0 (pa_cons (pv 1) (pa_cons (pv 5) pa_nil)))) (C8.pss_cut (ps_if (pt_cut (pw_and (pt_cmpR op_gt (pv 7) pe_int (nomark _)) (pw_and1 (pt_cmpR (op_neD hr.units) (pe_ix ix_tup (pv 2) pe_int (fun _ _ => rfl)) (pe_tup pa_nil) (nomark _)))).pt) (pss_cons (ps_setLc (i := 8) (own := [("_law_j", 9)]) (by rfl) sc_law.nd rfl rfl (sw_true rfl rfl rfl (by decide +kernel)) (pi_range1 (by rfl) T.m_range (pa_cons pe_int pa_nil)) (blkOk_by (own := [("_law_j", 9)]) (N := ["_law_script", "_law_deck_here", "_law_cover_here", "_law_change_here", "_law_turn", "_law_many_here", "_law_k", "_law_way", "_law_ends", "_law_j"]) (sc := defScope s_law) (by decide +kernel)) (fun _ _ _ _ _ => (pg_name (i := 9) sc_law.nd rfl (by first | exact .inl rfl | exact .inr rfl))) (fun _ _ _ _ _ => pts_nil) (fun _ _ _ _ _ => (pe_ix (show IxR _ (rIxT K) from ix_tup) (pe_ix (show IxR _ (rIxT K) from ix_tup) (pv 2) pe_int (fun _ _ => rfl)) (pe_call (ok_draw T) (hr.mono (by decide)) (by rfl) T.g_draw T.F_draw.kp T.b_draw .nil pass0 (pa_cons (pv 1) (pa_cons (pe_callB (show CallR _ _ (rLenK K) from call_len_seq) (by rfl) T.m_len PySem.boot_len (pa_cons (pe_ix (show IxR _ (rIxT K) from ix_tup) (pv 2) pe_int (fun _ _ => rfl)) pa_nil)) pa_nil))) (fun _ _ => rfl)))) (pss_one (ps_set (i := 3) sc_law.nd rfl (by first | exact .inl rfl | exact .inr rfl) (pe_tup (pa_cons (pe_call (ok_row_of T) (hr.mono (by decide)) (by rfl) T.g_row_of T.F_row_of.kp T.b_row_of .nil pass0 (pa_cons (pv 1) (pa_cons (pe_ix ix_list (pv 8) pe_int (fun _ _ => rfl)) pa_nil))) (pa_cons (pe_ix ix_list (pe_lst (pa_cons (pe_ix ix_tup (pv 3) pe_int (fun _ _ => rfl)) (pa_cons (pe_call (ok_row_of T) (hr.mono (by decide)) (by rfl) T.g_row_of T.F_row_of.kp T.b_row_of .nil pass0 (pa_cons (pv 1) (pa_cons (pe_ix ix_list (pv 8) pe_int (fun _ _ => rfl)) pa_nil))) pa_nil))) (pe_op op_sub (pv 7) pe_int) (fun _ _ => rfl)) pa_nil)))))) pss_nil) (pss_one (ps_if (pt_not (pt_val (pe_call (ok_right T B) (hr.mono (by decide)) (by rfl) T.g_right T.F_right.kp T.b_right .nil pass0 (pa_cons (pv 2) (pa_cons (pv 3) pa_nil))))) (pss_one (ps_ret pe_bl)) pss_nil)))))))))) (pss_one (ps_ret pe_bl))))), ?_⟩
    refine ⟨.ref a, rfl, a, ns, rfl, hS, hlen, fun H1 d l s1 D1 => ?_⟩
    have t1 := (Gr.of s1).tabs tabs
    refine ⟨fun σ H' => ∃ y2 y3 y4 y5 y6 y7 y8 y9, σ = [some (.ref a), some (.ref d), y2, y3, y4, y5, y6, y7, y8, y9] ∧ DeckD H' d l 400 ∧ Tabs H' T.tabs, ?_, ?_⟩
    · refine ⟨fun z H' => DeckD H' d l 1 ∧ Tabs H' T.tabs, ?_, ?_⟩
      · refine ⟨.ref d, rfl, d, l, 8, _, rfl, D1, by omega, by decide, by decide, fun H2 v D2 fr2 _ _ => ⟨rfl, _, rfl, D2.mono (by omega), t1.fr D1 fr2⟩⟩
      · rintro z H2 ⟨D2, t2⟩
        refine ite2 (fun _ => ?_) (fun _ => ⟨_, _, _, _, _, _, _, _, rfl, D2.mono (by omega), t2⟩)
        refine ⟨.ref d, rfl, d, l, _, rfl, D2, by omega, fun r cv c m ps a' b' H3 D3 fr3 hr3 hcv okp l16 hch ok => ?_⟩
        have t3 := t2.fr D2 fr3
        refine ⟨r, _, rfl, SqT.of hr3, rfl, _, _, rfl, _, _, rfl, rfl, ?_⟩
        refine ⟨.ref cv, rfl, .ref c, rfl, cv, c, m, ps, a', b', rfl, hcv, okp, by omega, hch, ok, t3, fun H4 g4 => ⟨_, rfl, iteF ?_⟩⟩
        exact ⟨_, _, _, _, _, _, _, _, rfl, (D3.gr g4).mono (by omega), g4.tabs t3⟩
    rintro σ H1 ⟨y2, y3, y4, y5, y6, y7, y8, y9, rfl, D1, t1⟩
    refine ⟨3, rfl, by decide, by decide, ?_⟩
    refine for_range (lo := 0) (n := (3 : Int).toNat) (fun i σ H' => ∃ y2 y3 y4 y5 y6 y7 y8 y9, σ = [some (.ref a), some (.ref d), y2, y3, y4, y5, y6, y7, y8, y9] ∧ DeckD H' d l (400 + 500 * i) ∧ Tabs H' T.tabs)
      ⟨_, _, _, _, _, _, _, _, rfl, D1.mono (by omega), t1⟩ ?_ ?_
    · rintro i σ H2 hi ⟨y2, y3, y4, y5, y6, y7, y8, y9, rfl, D2, t2⟩
      have hi' : i < 3 := hi
      refine ⟨.ref d, rfl, d, l, _, rfl, D2, by omega, fun m H3 D3 fr3 m1 m6 => ?_⟩
      have t3 := t2.fr D2 fr3
      refine ⟨.ref d, rfl, .int m, rfl, d, l, _, m, rfl, D3, by omega, m1, m6, fun cv ps H4 D4 fr4 hcv okp l16 => ?_⟩
      have t4 := t3.fr D3 fr4
      refine ⟨4, rfl, by decide, by decide, ?_⟩
      refine for_range (lo := 0) (n := (4 : Int).toNat) (fun k σ H' => ∃ y3 y6 y7 y8 y9, σ = [some (.ref a), some (.ref d), some (.ref cv), y3, some (.int (0 + (i : Int))), some (.int m), y6, y7, y8, y9] ∧ DeckD H' d l (400 + 500 * i + 302 + 40 * k) ∧ Tabs H' T.tabs ∧ CovAt H' cv m ps)
        ⟨_, _, _, _, _, rfl, D4.mono (by omega), t4, hcv⟩ ?_ ?_
      · rintro k σ H5 hk ⟨y3, y6, y7, y8, y9, rfl, D5, t5, hcv5⟩
        have hk' : k < 4 := hk
        refine ⟨.ref d, rfl, d, l, 3, _, rfl, D5, by omega, by decide, by decide, fun H6 w' D6 fr6 w0 w1 => ?_⟩
        have t6 := t5.fr D5 fr6
        have hcv6 := hcv5.ts (Ts.frD D5 fr6)
        refine ⟨.ref d, rfl, .int m, rfl, d, l, _, m, rfl, D6, by omega, m1, m6, fun c a' b' H7 D7 fr7 hch ok => ?_⟩
        have t7 := t6.fr D6 fr7
        have hcv7 := hcv6.ts (Ts.frD D6 fr7)
        -- a change between rows of products
        refine ⟨fun σ H' => ∃ c a' b' y8 y9, σ = [some (.ref a), some (.ref d), some (.ref cv), some (.ref c), some (.int (0 + (i : Int))), some (.int m), some (.int (0 + (k : Int))), some (.int w'), y8, y9] ∧ DeckD H' d l (400 + 500 * i + 302 + 40 * k + 40) ∧ Tabs H' T.tabs ∧ CovAt H' cv m ps ∧ ChAt H' c a' b' ∧ ChOk m a' b', ?_, ?_⟩
        · refine ⟨fun z H' => Same H7 H' ∧ (z = true → 0 < w' ∧ ps ≠ []), ?_, ?_⟩
          · refine ⟨.int w', rfl, _, _, rfl, rfl, _, rfl, ite2 (fun e => ?_) (fun e => ⟨Same.refl _, fun z => by cases z⟩)⟩
            have hw : 0 < w' := by simpa using e
            obtain ⟨t, h1, ht⟩ := id hcv7
            refine ⟨.ref cv, rfl, cv, _, _, .ref t, rfl, rfl, SqT.of h1, rfl, Nat.zero_le _, fun e1 n1 => ?_⟩
            have u1 := same_upd (o := HO.tup []) n1
            refine ⟨.tuple (ps.map fun p => .str (SX.S p)), .tuple [], .tup (SqT.of (u1 _ _ ht)) (dpStrs ps), .tup (SqT.of upd_same) .nil, sh_strsT okp, rfl, _, rfl, u1, fun z => ⟨hw, fun h => ?_⟩⟩
            rw [ne_strsT, h] at z
            cases z
          · rintro z H8 ⟨s8, hz⟩
            refine ite2 (fun e => ?_) (fun e => ?_)
            · obtain ⟨hw, hne⟩ := hz e
              have lpos : 0 < ps.length := List.length_pos_iff.mpr hne
              have lV : (pVs ps).length = ps.length := by unfold pVs; rw [List.length_map]
              have D8 := D7.same s8
              have t8 := (Gr.of s8).tabs t7
              obtain ⟨t, h1, ht⟩ := hcv7.gr (Gr.of s8)
              have hch8 := hch.same s8
              refine ⟨2, rfl, by decide, by decide, fun L nL => ?_⟩
              have oL := D8.off nL
              refine lc_range (lo := 0) (n := (2 : Int).toNat) (fun j H' => DeckD H' d l (400 + 500 * i + 302 + 40 * k + 1 + 13 + j) ∧ Fr d l H8 (hd1 L H') ∧ H' cv = some (.tup [.int m, .ref t]) ∧ H' t = some (.tup (pVs ps)) ∧ ∃ qs : List (List Nat), H' L = some (.lst (pVs qs)) ∧ qs.length = j ∧ CovOk m qs)
                ⟨(D8.same (same_upd nL)).mono (by omega), fun b o h1 h2 e => by rw [hd1_at (ne_of_none e nL), upd_ne (ne_of_none e nL)]; exact e, same_upd nL _ _ h1, same_upd nL _ _ ht, [], upd_same, rfl, fun p hp => by cases hp⟩ ?_ ?_
              · rintro j H9 hj ⟨D9, fr9, hc9, ht9, qs, hL, lq, okq⟩
                have hj' : j < 2 := hj
                refine ⟨rfl, .ref cv, rfl, cv, _, _, .ref t, rfl, rfl, SqT.of hc9, rfl, .ref d, rfl, .ref cv, rfl, cv, _, _, .ref t, rfl, rfl, SqT.of hc9, rfl, t, _, rfl, .inr (SqT.of ht9), ?_⟩
                rw [lV]
                refine ⟨d, l, _, _, rfl, D9, by omega, by omega, by omega, fun H10 u D10 fr10 u0 u1 => ?_⟩
                obtain ⟨k', rfl⟩ := Int.eq_ofNat_of_zero_le u0
                have hk2 : k' < ps.length := by omega
                have ts10 := Ts.frD D9 fr10
                have hat : atI (pVs ps) ((k' : Nat) : Int) = some (.str (SX.S ps[k'])) := atI_nat (by unfold pVs; rw [List.getElem?_map, List.getElem?_eq_getElem hk2]; rfl)
                have hL10 := fr10 _ _ oL.1 oL.2 hL
                have ntL : t ≠ L := ne_of ht9 hL (by intro z; cases z)
                have ncL : cv ≠ L := ne_of hc9 hL (by intro z; cases z)
                refine ⟨t, _, _, _, rfl, rfl, SqT.of (ts10 _ _ ht9), hat, _, hL10, ?_, (D10.upd oL.1 oL.2).mono (by push_cast; omega), ?_, by rw [upd_ne ncL]; exact ts10 _ _ hc9, by rw [upd_ne ntL]; exact ts10 _ _ ht9, qs ++ [ps[k']], ?_, by rw [List.length_append, lq]; rfl, fun r hr => ?_⟩
                · unfold pVs
                  rw [List.length_map]
                  exact Nat.lt_of_lt_of_le (show _ < 64 by omega) (by decide)
                · intro b o h1 h2 e
                  have z := fr9 b o h1 h2 e
                  have nb : b ≠ L := fun h => by rw [h] at e; rw [nL] at e; cases e
                  rw [hd1_at nb] at z ⊢
                  rw [upd_ne nb]
                  exact fr10 _ _ h1 h2 z
                · rw [upd_same]
                  unfold pVs
                  rw [List.map_append]
                  rfl
                · rcases List.mem_append.mp hr with h | h
                  · exact okq r h
                  · rw [List.mem_singleton.mp h]; exact okp _ (List.getElem_mem hk2)
              · rintro H9 ⟨D9, fr9, hc9, ht9, qs, hL, lq, okq⟩
                have lq : qs.length = 2 := lq
                obtain ⟨p1, p2, rfl⟩ : ∃ p1 p2, qs = [p1, p2] := by
                  match qs, lq with
                  | [p1, p2], _ => exact ⟨p1, p2, rfl⟩
                have ok1 := okq p1 (by simp)
                have ok2 := okq p2 (by simp)
                have fr89 : Fr d l H8 H9 := fun b o h1 h2 e => hd1_le _ _ (fr9 b o h1 h2 e)
                have ts89 := Ts.frD D8 fr89
                have t9 := t8.fr D8 fr89
                have hL9 : H9 L = some (.lst [V.str (SX.S p1), .str (SX.S p2)]) := hL
                refine ⟨.ref d, rfl, .ref L, rfl, L, _, 0, .str (SX.S p1), rfl, rfl, SqL.of hL9, rfl, d, l, _, m, p1, rfl, D9, by omega, ok1.1, m6, fun r1 bs1 H10 D10 fr10 lb1 okb1 hr1 => ?_⟩
                have ts10 := Ts.frD D9 fr10
                have hL10 := fr10 _ _ oL.1 oL.2 hL9
                have hch10 := (hch8.ts ts89).ts ts10
                obtain ⟨ra, rb, hc, ha, hb⟩ := id hch10
                refine ⟨.ref c, rfl, c, _, _, .ref rb, rfl, rfl, SqT.of hc, rfl, .ref d, rfl, .ref L, rfl, L, _, 1, .str (SX.S p2), rfl, rfl, SqL.of hL10, rfl, d, l, _, m, p2, rfl, D10, by omega, ok2.1, m6, fun r2 bs2 H11 D11 fr11 lb2 okb2 hr2 => ⟨sl2, fun e1 n1 => ?_⟩⟩
                have ts11 := Ts.frD D10 fr11
                have u1 := same_upd (o := HO.lst [V.ref rb, .ref r2]) n1
                have hrb11 := u1 _ _ (ts11 _ _ hb)
                have hr2' := u1 _ _ hr2
                have hr1' := u1 _ _ (ts11 _ _ hr1)
                obtain ⟨rx, bx, hat, hrx, lbx, okx⟩ : ∃ rx bx, atI [V.ref rb, .ref r2] (w' - 1) = some (.ref rx) ∧ (upd H11 e1 (.lst [V.ref rb, .ref r2])) rx = some (.tup (bx.map V.int)) ∧ bx.length = m ∧ Row01' bx := by
                  have : w' = 1 ∨ w' = 2 := by omega
                  rcases this with rfl | rfl
                  · exact ⟨rb, b', rfl, hrb11, ok.lb, ok.ob⟩
                  · exact ⟨r2, bs2, rfl, hr2', lb2, okb2⟩
                refine ⟨.int w', rfl, _, _, rfl, rfl, e1, _, _, .ref rx, rfl, rfl, SqL.of upd_same, hat, sl2, fun c2 n2 => ?_⟩
                have u2 := same_upd (o := HO.tup [V.ref r1, .ref rx]) n2
                have ua := u1.trans u2
                have ts12 : Ts H8 (upd (upd H11 e1 (.lst [V.ref rb, .ref r2])) c2 (.tup [V.ref r1, .ref rx])) := ((ts89.trans ts10).trans ts11).trans fun b xs e => ua _ _ e
                refine ⟨c2, bs1, bx, _, _, rfl, (D11.same ua).mono (by omega), (Gr.of ua).tabs ((t9.fr D9 fr10).fr D10 fr11), ⟨t, ts12 _ _ h1, ts12 _ _ ht⟩, ⟨r1, rx, upd_same, u2 _ _ hr1', u2 _ _ hrx⟩, ⟨lb1, lbx, okb1, okx, m6⟩⟩
            · exact ⟨c, a', b', _, _, rfl, (D7.same s8).mono (by omega), (Gr.of s8).tabs t7, hcv7.gr (Gr.of s8), hch.same s8, ok⟩
        · rintro σ H8 ⟨c, a', b', y8, y9, rfl, D8, t8, hcv8, hch8, ok8⟩
          refine ⟨.ref cv, rfl, .ref c, rfl, cv, c, m, ps, a', b', rfl, hcv8, okp, by omega, hch8, ok8, t8, fun H9 g9 => ⟨_, rfl, iteF ?_⟩⟩
          exact ⟨_, _, _, _, _, rfl, (D8.gr g9).mono (by push_cast; omega), g9.tabs t8, hcv8.gr g9⟩
      · rintro σ H5 ⟨y3, y6, y7, y8, y9, rfl, D5, t5, hcv5⟩
        exact ⟨_, _, _, _, _, _, _, _, rfl, D5.mono (by
          have : (((4 : Int).toNat : Nat) : Int) = 4 := rfl
          rw [this]
          push_cast
          omega), t5⟩
    · rintro σ H2 ⟨y2, y3, y4, y5, y6, y7, y8, y9, rfl, _, _⟩
      exact q H2

end
def d_show_row : He.DefD := ⟨("show_row", none), "show_row", "show_row", defArgs s_show_row, defBody s_show_row, defScope s_show_row, [], []⟩
def d_holds_row : He.DefD := ⟨("holds_row", none), "holds_row", "holds_row", defArgs s_holds_row, defBody s_holds_row, defScope s_holds_row, [], []⟩
def d_holds_all : He.DefD := ⟨("holds_all", none), "holds_all", "holds_all", defArgs s_holds_all, defBody s_holds_all, defScope s_holds_all, [], []⟩
def d_meet : He.DefD := ⟨("meet", none), "meet", "meet", defArgs s_meet, defBody s_meet, defScope s_meet, [], []⟩
def d_cube_of : He.DefD := ⟨("cube_of", none), "cube_of", "cube_of", defArgs s_cube_of, defBody s_cube_of, defScope s_cube_of, [], []⟩
def d_told_of : He.DefD := ⟨("told_of", none), "told_of", "told_of", defArgs s_told_of, defBody s_told_of, defScope s_told_of, [], []⟩
def d_cover_word : He.DefD := ⟨("cover_word", none), "cover_word", "cover_word", defArgs s_cover_word, defBody s_cover_word, defScope s_cover_word, [], []⟩
def d_cover_greatest : He.DefD := ⟨("cover_greatest", none), "cover_greatest", "cover_greatest", defArgs s_cover_greatest, defBody s_cover_greatest, defScope s_cover_greatest, [], []⟩
def d_judged : He.DefD := ⟨("judged", none), "judged", "judged", defArgs s_judged, defBody s_judged, defScope s_judged, [], []⟩
def d_first_holding : He.DefD := ⟨("first_holding", none), "first_holding", "first_holding", defArgs s_first_holding, defBody s_first_holding, defScope s_first_holding, [], []⟩
def d_flashes : He.DefD := ⟨("flashes", none), "flashes", "flashes", defArgs s_flashes, defBody s_flashes, defScope s_flashes, [], []⟩
def d_deck : He.DefD := ⟨("_law_deck", none), "_law_deck", "_law_deck", defArgs s_deck, defBody s_deck, defScope s_deck, [], []⟩
def d_draw : He.DefD := ⟨("_law_draw", none), "_law_draw", "_law_draw", defArgs s_draw, defBody s_draw, defScope s_draw, [], []⟩
def d_many : He.DefD := ⟨("_law_many", none), "_law_many", "_law_many", defArgs s_many, defBody s_many, defScope s_many, [], []⟩
def d_row : He.DefD := ⟨("_law_row", none), "_law_row", "_law_row", defArgs s_row, defBody s_row, defScope s_row, [], []⟩
def d_change : He.DefD := ⟨("_law_change", none), "_law_change", "_law_change", defArgs s_change, defBody s_change, defScope s_change, [], []⟩
def d_product : He.DefD := ⟨("_law_product", none), "_law_product", "_law_product", defArgs s_product, defBody s_product, defScope s_product, [], []⟩
def d_cover : He.DefD := ⟨("_law_cover", none), "_law_cover", "_law_cover", defArgs s_cover, defBody s_cover, defScope s_cover, [], []⟩
def d_holds : He.DefD := ⟨("_law_holds", none), "_law_holds", "_law_holds", defArgs s_holds, defBody s_holds, defScope s_holds, [], []⟩
def d_rows : He.DefD := ⟨("_law_rows", none), "_law_rows", "_law_rows", defArgs s_rows, defBody s_rows, defScope s_rows, [], []⟩
def d_told : He.DefD := ⟨("_law_told", none), "_law_told", "_law_told", defArgs s_told, defBody s_told, defScope s_told, [], []⟩
def d_meets : He.DefD := ⟨("_law_meets", none), "_law_meets", "_law_meets", defArgs s_meets, defBody s_meets, defScope s_meets, [], []⟩
def d_sorts : He.DefD := ⟨("_law_sorts", none), "_law_sorts", "_law_sorts", defArgs s_sorts, defBody s_sorts, defScope s_sorts, [], []⟩
def d_most : He.DefD := ⟨("_law_most", none), "_law_most", "_law_most", defArgs s_most, defBody s_most, defScope s_most, [], []⟩
def d_row_of : He.DefD := ⟨("_law_row_of", none), "_law_row_of", "_law_row_of", defArgs s_row_of, defBody s_row_of, defScope s_row_of, [], []⟩
def d_great : He.DefD := ⟨("_law_great", none), "_law_great", "_law_great", defArgs s_great, defBody s_great, defScope s_great, [], []⟩
def d_right : He.DefD := ⟨("_law_right", none), "_law_right", "_law_right", defArgs s_right, defBody s_right, defScope s_right, [], []⟩
def d_law : He.DefD := ⟨("law", none), "law", "law", defArgs s_law, defBody s_law, defScope s_law, [], []⟩
def fn : List He.DefD := [d_show_row, d_holds_row, d_holds_all, d_meet, d_cube_of, d_told_of, d_cover_word, d_cover_greatest, d_judged, d_first_holding, d_flashes, d_deck, d_draw, d_many, d_row, d_change, d_product, d_cover, d_holds, d_rows, d_told, d_meets, d_sorts, d_most, d_row_of, d_great, d_right, d_law]
def fa : List He.Fa := [.glo "show_row", .glo "holds_row", .glo "holds_all", .glo "meet", .glo "cube_of", .glo "told_of", .glo "cover_word", .glo "cover_greatest", .glo "judged", .glo "first_holding", .glo "flashes", .glo "_law_deck", .glo "_law_draw", .glo "_law_many", .glo "_law_row", .glo "_law_change", .glo "_law_product", .glo "_law_cover", .glo "_law_holds", .glo "_law_rows", .glo "_law_told", .glo "_law_meets", .glo "_law_sorts", .glo "_law_most", .glo "_law_row_of", .glo "_law_great", .glo "_law_right", .glo "law", .free "all", .free "any", .free "bool", .free "enumerate", .free "int", .free "isinstance", .free "len", .free "list", .free "max", .free "range", .free "str", .free "sum", .free "tuple", .free "zip"]
def tf : List He.Defn := [("show_row", none), ("holds_all", none), ("meet", none), ("cube_of", none), ("told_of", none), ("cover_greatest", none)]
abbrev RR : PySem.W.OpenRow := PySem.W.OpenLaw.row PySem.Challenge.rw_glitchnet_k38_how_often_covers_change
def yes : PySem.W.Frag → Bool := fun _ => true
abbrev hk : PySem.W.Hook := He.hookX 4 fa fn [] tf yes
def ob (s : PySem.W.SharedT) : He.AlX := He.obsX 4 fa fn [] tf yes (HandSHeadRun.getT s)
theorem ob_eq (s : PySem.W.SharedT) : ob s = hk.obs s.abs := He.obsX_eq (HandSHeadRun.getT_eq s)
theorem run (w : World) : HandSHeadRun.RunEq RR (PySem.W.view RR.prog [31]) hk ob 3000 [("show_row" : PySem.Str), ("holds_row" : PySem.Str), ("holds_all" : PySem.Str), ("meet" : PySem.Str), ("cube_of" : PySem.Str), ("told_of" : PySem.Str), ("cover_word" : PySem.Str), ("cover_greatest" : PySem.Str), ("judged" : PySem.Str), ("first_holding" : PySem.Str), ("flashes" : PySem.Str), ("_law_deck" : PySem.Str), ("_law_draw" : PySem.Str), ("_law_many" : PySem.Str), ("_law_row" : PySem.Str), ("_law_change" : PySem.Str), ("_law_product" : PySem.Str), ("_law_cover" : PySem.Str), ("_law_holds" : PySem.Str), ("_law_rows" : PySem.Str), ("_law_told" : PySem.Str), ("_law_meets" : PySem.Str), ("_law_sorts" : PySem.Str), ("_law_most" : PySem.Str), ("_law_row_of" : PySem.Str), ("_law_great" : PySem.Str), ("_law_right" : PySem.Str)] w := by
  intro os
  kernel_rfl
theorem facts {w : World} {K : PySem.W.Frag} {h : Heap} {mg : Str → Option Value} {f : Addr} (X : K.In h) (G : h.Ns mainGlobals mg) (hfa : mg ("law" : Str) = some (.ref f)) (c : He.SaysX fa fn [] tf yes w h K) : LamX.LawAtS PySem.Challenge.rw_glitchnet_k38_how_often_covers_change w K CX0 9 63 "_law_script" mg f h := by
  obtain ⟨fd0, D0⟩ := c.t.d.def_ 0 (d := d_show_row) rfl
  have F0 : Fun K "show_row" "show_row" s_show_row (He.fAd K ("show_row", none)) fd0 := fun_of D0
  have b0 := F0.binds (ps := ["row"]) fun _ _ _ _ _ _ us hl => match us, hl with | [_], _ => rfl
  obtain ⟨fd1, D1⟩ := c.t.d.def_ 1 (d := d_holds_row) rfl
  have F1 : Fun K "holds_row" "holds_row" s_holds_row (He.fAd K ("holds_row", none)) fd1 := fun_of D1
  have b1 := F1.binds (ps := ["product", "row"]) fun _ _ _ _ _ _ us hl => match us, hl with | [_, _], _ => rfl
  obtain ⟨fd2, D2⟩ := c.t.d.def_ 2 (d := d_holds_all) rfl
  have F2 : Fun K "holds_all" "holds_all" s_holds_all (He.fAd K ("holds_all", none)) fd2 := fun_of D2
  have b2 := F2.binds (ps := ["product", "other"]) fun _ _ _ _ _ _ us hl => match us, hl with | [_, _], _ => rfl
  obtain ⟨fd3, D3⟩ := c.t.d.def_ 3 (d := d_meet) rfl
  have F3 : Fun K "meet" "meet" s_meet (He.fAd K ("meet", none)) fd3 := fun_of D3
  have b3 := F3.binds (ps := ["product", "other"]) fun _ _ _ _ _ _ us hl => match us, hl with | [_, _], _ => rfl
  obtain ⟨fd4, D4⟩ := c.t.d.def_ 4 (d := d_cube_of) rfl
  have F4 : Fun K "cube_of" "cube_of" s_cube_of (He.fAd K ("cube_of", none)) fd4 := fun_of D4
  have b4 := F4.binds (ps := ["change"]) fun _ _ _ _ _ _ us hl => match us, hl with | [_], _ => rfl
  obtain ⟨fd5, D5⟩ := c.t.d.def_ 5 (d := d_told_of) rfl
  have F5 : Fun K "told_of" "told_of" s_told_of (He.fAd K ("told_of", none)) fd5 := fun_of D5
  have b5 := F5.binds (ps := ["cover", "row"]) fun _ _ _ _ _ _ us hl => match us, hl with | [_, _], _ => rfl
  obtain ⟨fd6, D6⟩ := c.t.d.def_ 6 (d := d_cover_word) rfl
  have F6 : Fun K "cover_word" "cover_word" s_cover_word (He.fAd K ("cover_word", none)) fd6 := fun_of D6
  have b6 := F6.binds (ps := ["cover", "change"]) fun _ _ _ _ _ _ us hl => match us, hl with | [_, _], _ => rfl
  obtain ⟨fd7, D7⟩ := c.t.d.def_ 7 (d := d_cover_greatest) rfl
  have F7 : Fun K "cover_greatest" "cover_greatest" s_cover_greatest (He.fAd K ("cover_greatest", none)) fd7 := fun_of D7
  have b7 := F7.binds (ps := ["cover", "change"]) fun _ _ _ _ _ _ us hl => match us, hl with | [_, _], _ => rfl
  obtain ⟨fd8, D8⟩ := c.t.d.def_ 8 (d := d_judged) rfl
  have F8 : Fun K "judged" "judged" s_judged (He.fAd K ("judged", none)) fd8 := fun_of D8
  have b8 := F8.binds (ps := ["cover", "change"]) fun _ _ _ _ _ _ us hl => match us, hl with | [_, _], _ => rfl
  obtain ⟨fd9, D9⟩ := c.t.d.def_ 9 (d := d_first_holding) rfl
  have F9 : Fun K "first_holding" "first_holding" s_first_holding (He.fAd K ("first_holding", none)) fd9 := fun_of D9
  have b9 := F9.binds (ps := ["products", "change"]) fun _ _ _ _ _ _ us hl => match us, hl with | [_, _], _ => rfl
  obtain ⟨fd10, D10⟩ := c.t.d.def_ 10 (d := d_flashes) rfl
  have F10 : Fun K "flashes" "flashes" s_flashes (He.fAd K ("flashes", none)) fd10 := fun_of D10
  have b10 := F10.binds (ps := ["product", "change"]) fun _ _ _ _ _ _ us hl => match us, hl with | [_, _], _ => rfl
  obtain ⟨fd11, D11⟩ := c.t.d.def_ 11 (d := d_deck) rfl
  have F11 : Fun K "_law_deck" "_law_deck" s_deck (He.fAd K ("_law_deck", none)) fd11 := fun_of D11
  have b11 := F11.binds (ps := ["_law_script"]) fun _ _ _ _ _ _ us hl => match us, hl with | [_], _ => rfl
  obtain ⟨fd12, D12⟩ := c.t.d.def_ 12 (d := d_draw) rfl
  have F12 : Fun K "_law_draw" "_law_draw" s_draw (He.fAd K ("_law_draw", none)) fd12 := fun_of D12
  have b12 := F12.binds (ps := ["_law_deck_here", "_law_most_here"]) fun _ _ _ _ _ _ us hl => match us, hl with | [_, _], _ => rfl
  obtain ⟨fd13, D13⟩ := c.t.d.def_ 13 (d := d_many) rfl
  have F13 : Fun K "_law_many" "_law_many" s_many (He.fAd K ("_law_many", none)) fd13 := fun_of D13
  have b13 := F13.binds (ps := ["_law_deck_here"]) fun _ _ _ _ _ _ us hl => match us, hl with | [_], _ => rfl
  obtain ⟨fd14, D14⟩ := c.t.d.def_ 14 (d := d_row) rfl
  have F14 : Fun K "_law_row" "_law_row" s_row (He.fAd K ("_law_row", none)) fd14 := fun_of D14
  have b14 := F14.binds (ps := ["_law_deck_here", "_law_many_here"]) fun _ _ _ _ _ _ us hl => match us, hl with | [_, _], _ => rfl
  obtain ⟨fd15, D15⟩ := c.t.d.def_ 15 (d := d_change) rfl
  have F15 : Fun K "_law_change" "_law_change" s_change (He.fAd K ("_law_change", none)) fd15 := fun_of D15
  have b15 := F15.binds (ps := ["_law_deck_here", "_law_many_here"]) fun _ _ _ _ _ _ us hl => match us, hl with | [_, _], _ => rfl
  obtain ⟨fd16, D16⟩ := c.t.d.def_ 16 (d := d_product) rfl
  have F16 : Fun K "_law_product" "_law_product" s_product (He.fAd K ("_law_product", none)) fd16 := fun_of D16
  have b16 := F16.binds (ps := ["_law_deck_here", "_law_many_here"]) fun _ _ _ _ _ _ us hl => match us, hl with | [_, _], _ => rfl
  obtain ⟨fd17, D17⟩ := c.t.d.def_ 17 (d := d_cover) rfl
  have F17 : Fun K "_law_cover" "_law_cover" s_cover (He.fAd K ("_law_cover", none)) fd17 := fun_of D17
  have b17 := F17.binds (ps := ["_law_deck_here", "_law_many_here"]) fun _ _ _ _ _ _ us hl => match us, hl with | [_, _], _ => rfl
  obtain ⟨fd18, D18⟩ := c.t.d.def_ 18 (d := d_holds) rfl
  have F18 : Fun K "_law_holds" "_law_holds" s_holds (He.fAd K ("_law_holds", none)) fd18 := fun_of D18
  have b18 := F18.binds (ps := ["_law_product_here", "_law_row_here"]) fun _ _ _ _ _ _ us hl => match us, hl with | [_, _], _ => rfl
  obtain ⟨fd19, D19⟩ := c.t.d.def_ 19 (d := d_rows) rfl
  have F19 : Fun K "_law_rows" "_law_rows" s_rows (He.fAd K ("_law_rows", none)) fd19 := fun_of D19
  have b19 := F19.binds (ps := ["_law_many_here"]) fun _ _ _ _ _ _ us hl => match us, hl with | [_], _ => rfl
  obtain ⟨fd20, D20⟩ := c.t.d.def_ 20 (d := d_told) rfl
  have F20 : Fun K "_law_told" "_law_told" s_told (He.fAd K ("_law_told", none)) fd20 := fun_of D20
  have b20 := F20.binds (ps := ["_law_cover_here", "_law_row_here"]) fun _ _ _ _ _ _ us hl => match us, hl with | [_, _], _ => rfl
  obtain ⟨fd21, D21⟩ := c.t.d.def_ 21 (d := d_meets) rfl
  have F21 : Fun K "_law_meets" "_law_meets" s_meets (He.fAd K ("_law_meets", none)) fd21 := fun_of D21
  have b21 := F21.binds (ps := ["_law_product_here", "_law_change_here"]) fun _ _ _ _ _ _ us hl => match us, hl with | [_, _], _ => rfl
  obtain ⟨fd22, D22⟩ := c.t.d.def_ 22 (d := d_sorts) rfl
  have F22 : Fun K "_law_sorts" "_law_sorts" s_sorts (He.fAd K ("_law_sorts", none)) fd22 := fun_of D22
  have b22 := F22.binds (ps := ["_law_cover_here", "_law_change_here"]) fun _ _ _ _ _ _ us hl => match us, hl with | [_, _], _ => rfl
  obtain ⟨fd23, D23⟩ := c.t.d.def_ 23 (d := d_most) rfl
  have F23 : Fun K "_law_most" "_law_most" s_most (He.fAd K ("_law_most", none)) fd23 := fun_of D23
  have b23 := F23.binds (ps := ["_law_cover_here", "_law_change_here"]) fun _ _ _ _ _ _ us hl => match us, hl with | [_, _], _ => rfl
  obtain ⟨fd24, D24⟩ := c.t.d.def_ 24 (d := d_row_of) rfl
  have F24 : Fun K "_law_row_of" "_law_row_of" s_row_of (He.fAd K ("_law_row_of", none)) fd24 := fun_of D24
  have b24 := F24.binds (ps := ["_law_deck_here", "_law_product_here"]) fun _ _ _ _ _ _ us hl => match us, hl with | [_, _], _ => rfl
  obtain ⟨fd25, D25⟩ := c.t.d.def_ 25 (d := d_great) rfl
  have F25 : Fun K "_law_great" "_law_great" s_great (He.fAd K ("_law_great", none)) fd25 := fun_of D25
  have b25 := F25.binds (ps := ["_law_deck_here"]) fun _ _ _ _ _ _ us hl => match us, hl with | [_], _ => rfl
  obtain ⟨fd26, D26⟩ := c.t.d.def_ 26 (d := d_right) rfl
  have F26 : Fun K "_law_right" "_law_right" s_right (He.fAd K ("_law_right", none)) fd26 := fun_of D26
  have b26 := F26.binds (ps := ["_law_cover_here", "_law_change_here"]) fun _ _ _ _ _ _ us hl => match us, hl with | [_, _], _ => rfl
  obtain ⟨fd27, D27⟩ := c.t.d.def_ 27 (d := d_law) rfl
  have F27 : Fun K "law" "law" s_law (He.fAd K ("law", none)) fd27 := fun_of D27
  have b27 := F27.binds (ps := ["_law_script"]) fun _ _ _ _ _ _ us hl => match us, hl with | [_], _ => rfl
  have e := hfa.symm.trans (He.glo_ok X G (c.t.d.fact 27 (f := .glo "law") rfl))
  cases e
  let T : Tx K mg := { f_show_row := _, fd_show_row := _, F_show_row := F0, g_show_row := He.glo_ok X G (c.t.d.fact 0 (f := .glo "show_row") rfl), b_show_row := b0, c_show_row := (He.cT K ("show_row", none)).1, P_show_row := (He.cT K ("show_row", none)).2, cd_show_row := code_of F0, f_holds_row := _, fd_holds_row := _, F_holds_row := F1, g_holds_row := He.glo_ok X G (c.t.d.fact 1 (f := .glo "holds_row") rfl), b_holds_row := b1, f_holds_all := _, fd_holds_all := _, F_holds_all := F2, g_holds_all := He.glo_ok X G (c.t.d.fact 2 (f := .glo "holds_all") rfl), b_holds_all := b2, c_holds_all := (He.cT K ("holds_all", none)).1, P_holds_all := (He.cT K ("holds_all", none)).2, cd_holds_all := code_of F2, f_meet := _, fd_meet := _, F_meet := F3, g_meet := He.glo_ok X G (c.t.d.fact 3 (f := .glo "meet") rfl), b_meet := b3, c_meet := (He.cT K ("meet", none)).1, P_meet := (He.cT K ("meet", none)).2, cd_meet := code_of F3, f_cube_of := _, fd_cube_of := _, F_cube_of := F4, g_cube_of := He.glo_ok X G (c.t.d.fact 4 (f := .glo "cube_of") rfl), b_cube_of := b4, c_cube_of := (He.cT K ("cube_of", none)).1, P_cube_of := (He.cT K ("cube_of", none)).2, cd_cube_of := code_of F4, f_told_of := _, fd_told_of := _, F_told_of := F5, g_told_of := He.glo_ok X G (c.t.d.fact 5 (f := .glo "told_of") rfl), b_told_of := b5, c_told_of := (He.cT K ("told_of", none)).1, P_told_of := (He.cT K ("told_of", none)).2, cd_told_of := code_of F5, f_cover_word := _, fd_cover_word := _, F_cover_word := F6, g_cover_word := He.glo_ok X G (c.t.d.fact 6 (f := .glo "cover_word") rfl), b_cover_word := b6, f_cover_greatest := _, fd_cover_greatest := _, F_cover_greatest := F7, g_cover_greatest := He.glo_ok X G (c.t.d.fact 7 (f := .glo "cover_greatest") rfl), b_cover_greatest := b7, c_cover_greatest := (He.cT K ("cover_greatest", none)).1, P_cover_greatest := (He.cT K ("cover_greatest", none)).2, cd_cover_greatest := code_of F7, f_judged := _, fd_judged := _, F_judged := F8, g_judged := He.glo_ok X G (c.t.d.fact 8 (f := .glo "judged") rfl), b_judged := b8, f_first_holding := _, fd_first_holding := _, F_first_holding := F9, g_first_holding := He.glo_ok X G (c.t.d.fact 9 (f := .glo "first_holding") rfl), b_first_holding := b9, f_flashes := _, fd_flashes := _, F_flashes := F10, g_flashes := He.glo_ok X G (c.t.d.fact 10 (f := .glo "flashes") rfl), b_flashes := b10, f_deck := _, fd_deck := _, F_deck := F11, g_deck := He.glo_ok X G (c.t.d.fact 11 (f := .glo "_law_deck") rfl), b_deck := b11, f_draw := _, fd_draw := _, F_draw := F12, g_draw := He.glo_ok X G (c.t.d.fact 12 (f := .glo "_law_draw") rfl), b_draw := b12, f_many := _, fd_many := _, F_many := F13, g_many := He.glo_ok X G (c.t.d.fact 13 (f := .glo "_law_many") rfl), b_many := b13, f_row := _, fd_row := _, F_row := F14, g_row := He.glo_ok X G (c.t.d.fact 14 (f := .glo "_law_row") rfl), b_row := b14, f_change := _, fd_change := _, F_change := F15, g_change := He.glo_ok X G (c.t.d.fact 15 (f := .glo "_law_change") rfl), b_change := b15, f_product := _, fd_product := _, F_product := F16, g_product := He.glo_ok X G (c.t.d.fact 16 (f := .glo "_law_product") rfl), b_product := b16, f_cover := _, fd_cover := _, F_cover := F17, g_cover := He.glo_ok X G (c.t.d.fact 17 (f := .glo "_law_cover") rfl), b_cover := b17, f_holds := _, fd_holds := _, F_holds := F18, g_holds := He.glo_ok X G (c.t.d.fact 18 (f := .glo "_law_holds") rfl), b_holds := b18, f_rows := _, fd_rows := _, F_rows := F19, g_rows := He.glo_ok X G (c.t.d.fact 19 (f := .glo "_law_rows") rfl), b_rows := b19, f_told := _, fd_told := _, F_told := F20, g_told := He.glo_ok X G (c.t.d.fact 20 (f := .glo "_law_told") rfl), b_told := b20, f_meets := _, fd_meets := _, F_meets := F21, g_meets := He.glo_ok X G (c.t.d.fact 21 (f := .glo "_law_meets") rfl), b_meets := b21, f_sorts := _, fd_sorts := _, F_sorts := F22, g_sorts := He.glo_ok X G (c.t.d.fact 22 (f := .glo "_law_sorts") rfl), b_sorts := b22, f_most := _, fd_most := _, F_most := F23, g_most := He.glo_ok X G (c.t.d.fact 23 (f := .glo "_law_most") rfl), b_most := b23, f_row_of := _, fd_row_of := _, F_row_of := F24, g_row_of := He.glo_ok X G (c.t.d.fact 24 (f := .glo "_law_row_of") rfl), b_row_of := b24, f_great := _, fd_great := _, F_great := F25, g_great := He.glo_ok X G (c.t.d.fact 25 (f := .glo "_law_great") rfl), b_great := b25, f_right := _, fd_right := _, F_right := F26, g_right := He.glo_ok X G (c.t.d.fact 26 (f := .glo "_law_right") rfl), b_right := b26, f_law := _, fd_law := _, F_law := F27, g_law := He.glo_ok X G (c.t.d.fact 27 (f := .glo "law") rfl), b_law := b27, m_all := He.free_ok X G (c.t.d.fact 28 (f := .free "all") rfl), m_any := He.free_ok X G (c.t.d.fact 29 (f := .free "any") rfl), m_bool := He.free_ok X G (c.t.d.fact 30 (f := .free "bool") rfl), m_enumerate := He.free_ok X G (c.t.d.fact 31 (f := .free "enumerate") rfl), m_int := He.free_ok X G (c.t.d.fact 32 (f := .free "int") rfl), m_isinstance := He.free_ok X G (c.t.d.fact 33 (f := .free "isinstance") rfl), m_len := He.free_ok X G (c.t.d.fact 34 (f := .free "len") rfl), m_list := He.free_ok X G (c.t.d.fact 35 (f := .free "list") rfl), m_max := He.free_ok X G (c.t.d.fact 36 (f := .free "max") rfl), m_range := He.free_ok X G (c.t.d.fact 37 (f := .free "range") rfl), m_str := He.free_ok X G (c.t.d.fact 38 (f := .free "str") rfl), m_sum := He.free_ok X G (c.t.d.fact 39 (f := .free "sum") rfl), m_tuple := He.free_ok X G (c.t.d.fact 40 (f := .free "tuple") rfl), m_zip := He.free_ok X G (c.t.d.fact 41 (f := .free "zip") rfl) }
  refine ⟨fd27, tf.map (He.cT K), sp_law K T.tabs, ?_, ?_, ?_, ?_, ?_, ?_⟩
  · rintro p hp
    obtain ⟨d, hd, rfl⟩ := List.mem_map.mp hp
    exact c.empty d hd
  · rintro p hp
    obtain ⟨d, hd, rfl⟩ := List.mem_map.mp hp
    exact c.out d hd
  · rintro p hp
    obtain ⟨d, hd, rfl⟩ := List.mem_map.mp hp
    exact PySem.W.codeHd_of_K X (c.hd d hd)
  · obtain ⟨oc, od, kV, doc, pm, an, cdv, ct, osl, rfl, lk, hcd⟩ := F27.ex
    exact fun s v => .of_eq rfl
  · intro H a ns hl hbits hT hS
    refine ⟨a, ns, rfl, hS, hl, fun P hP => ?_, fun _ => rfl⟩
    have hP : P ∈ (tf.map (He.cT K)).map (·.2) := hP
    obtain ⟨p, hp, rfl⟩ := List.mem_map.mp hP
    exact ⟨#[], hT p hp, by trivial⟩
  · intro base KB GB hTB
    have B : Tb base T := ⟨tab_of (hTB (He.cT K ("show_row", none)) (List.mem_map.mpr ⟨_, (show (("show_row", none) : He.Defn) ∈ tf by decide), rfl⟩)), tab_of (hTB (He.cT K ("holds_all", none)) (List.mem_map.mpr ⟨_, (show (("holds_all", none) : He.Defn) ∈ tf by decide), rfl⟩)), tab_of (hTB (He.cT K ("meet", none)) (List.mem_map.mpr ⟨_, (show (("meet", none) : He.Defn) ∈ tf by decide), rfl⟩)), tab_of (hTB (He.cT K ("cube_of", none)) (List.mem_map.mpr ⟨_, (show (("cube_of", none) : He.Defn) ∈ tf by decide), rfl⟩)), tab_of (hTB (He.cT K ("told_of", none)) (List.mem_map.mpr ⟨_, (show (("told_of", none) : He.Defn) ∈ tf by decide), rfl⟩)), tab_of (hTB (He.cT K ("cover_greatest", none)) (List.mem_map.mpr ⟨_, (show (("cover_greatest", none) : He.Defn) ∈ tf by decide), rfl⟩))⟩
    exact ok_law T B
end Gk
open PySem PySem.W PyProof.Rows
set_option maxRecDepth 100000 in
set_option maxHeartbeats 0 in
theorem PySem.Challenge.cw_glitchnet_k38_how_often_covers_change_holds : PySem.Challenge.rw_glitchnet_k38_how_often_covers_change.Holds := by
  w_on; o_law
  refine HandSHeadRun.head_any (r := OpenLaw.row PySem.Challenge.rw_glitchnet_k38_how_often_covers_change) (q := view (OpenLaw.row PySem.Challenge.rw_glitchnet_k38_how_often_covers_change).prog [31]) (H := Gk.hk) (ob := Gk.ob) (M := 3000) (loose := [("show_row" : PySem.Str), ("holds_row" : PySem.Str), ("holds_all" : PySem.Str), ("meet" : PySem.Str), ("cube_of" : PySem.Str), ("told_of" : PySem.Str), ("cover_word" : PySem.Str), ("cover_greatest" : PySem.Str), ("judged" : PySem.Str), ("first_holding" : PySem.Str), ("flashes" : PySem.Str), ("_law_deck" : PySem.Str), ("_law_draw" : PySem.Str), ("_law_many" : PySem.Str), ("_law_row" : PySem.Str), ("_law_change" : PySem.Str), ("_law_product" : PySem.Str), ("_law_cover" : PySem.Str), ("_law_holds" : PySem.Str), ("_law_rows" : PySem.Str), ("_law_told" : PySem.Str), ("_law_meets" : PySem.Str), ("_law_sorts" : PySem.Str), ("_law_most" : PySem.Str), ("_law_row_of" : PySem.Str), ("_law_great" : PySem.Str), ("_law_right" : PySem.Str)]) (d := HandSHeadRun.topDef (OpenLaw.row PySem.Challenge.rw_glitchnet_k38_how_often_covers_change).prog 31) (kwd := []) Gk.ob_eq
    (by kernel_rfl) (fun s => by kernel_rfl) Gk.run (by kernel_rfl) (by kernel_rfl) (by kernel_rfl) (by rfl) (by first | assumption | decide +kernel) (by decide +kernel) ⟨rfl, rfl, rfl, rfl, rfl, by decide +kernel⟩ ?hw ?hc
  case hw => w_witness2
  case hc =>
    refine LamX.walk_ofTsE (l := PySem.Challenge.rw_glitchnet_k38_how_often_covers_change) (n := 63) (k := 9) (x := "_law_script") (CX := fun _ => L2.CX0) rfl (by decide) (by kernel_rfl) ⟨rfl, by decide, by decide⟩ ?F (fun _ _ _ _ _ z => z)
    intro w mg fa h Y G hmg0
    obtain ⟨K, KX, c⟩ := Y
    have hmg : mg ("law" : PySem.Str) = some (.ref fa) := by
      have e : (HandSHeadRun.topDef (OpenLaw.row PySem.Challenge.rw_glitchnet_k38_how_often_covers_change).prog 31).name = ("law" : PySem.Str) := by kernel_rfl
      rw [← e]
      exact hmg0
    exact ⟨K, KX, Gk.facts KX G hmg c⟩
