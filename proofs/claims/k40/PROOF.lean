import PyProof.Rows.All
import Wide.All
import OpenK.AllK
import Wide.FinOn
import KE.GoesMore
import HandS.ForMost
import HandS.IsInst
import HandS.TupLe
import HandS.TupAny
import HandS.TupMul
import HandS.More
import HandS.Codes
import HandS.Conv
import HandS.Deep
import HandS.TupSets
import HandS.Style
import HandS.Strs
import HandS.AnyAll
import HandS.GenList
import HandS.JoinGen
import HandS.Zip
import HandS.Rev
import HandS.SetFor
import HandS.Head0
import HandS.Head1
import HandS.Head2
import HandS.HeadEnd
import HandS.HeadHook1
import HandS.HeadHook2
import HandS.HeadHook3
import HandS.HeadHook4
import HandS.HeadWalk
import HandS.Defaults
import HandS.ReplaceLit
import PySem.Challenge.RW_glitchnet_k40_covers_run
import HandS.SortInts
set_option Elab.async false
set_option linter.all false
set_option maxRecDepth 100000
set_option maxHeartbeats 1000000
namespace Gk
open PySem PySem.Spec PyProof.Rows L2
/-! ### the text -/
def topS (i : Nat) : Stmt := PySem.Challenge.pw_glitchnet_k40_covers_run.main.body.getD i (.Pass ⟨0, 0, 0, 0⟩)
abbrev s_show_row : Stmt := topS 1
abbrev s_holds_row : Stmt := topS 3
abbrev s_holds_all : Stmt := topS 4
abbrev s_meet : Stmt := topS 5
abbrev s_cube_of : Stmt := topS 6
abbrev s_told_of : Stmt := topS 8
abbrev s_cover_word : Stmt := topS 9
abbrev s_cover_greatest : Stmt := topS 10
abbrev s_judged : Stmt := topS 11
abbrev s_first_holding : Stmt := topS 12
abbrev s_flashes : Stmt := topS 13
abbrev s_literals_of : Stmt := topS 15
abbrev s_cover_wave : Stmt := topS 16
abbrev s_told_at : Stmt := topS 17
abbrev s_holds_at : Stmt := topS 18
abbrev s_deck : Stmt := topS 20
abbrev s_draw : Stmt := topS 21
abbrev s_many : Stmt := topS 22
abbrev s_row : Stmt := topS 23
abbrev s_change : Stmt := topS 24
abbrev s_product : Stmt := topS 25
abbrev s_cover : Stmt := topS 26
abbrev s_worth : Stmt := topS 27
abbrev s_wave : Stmt := topS 28
abbrev s_long : Stmt := topS 29
abbrev s_delays : Stmt := topS 30
abbrev s_right : Stmt := topS 31
abbrev s_law : Stmt := topS 32
theorem sc_show_row : FnScope ["row", "worth"] ["row"] (defScope s_show_row) := ⟨rfl, rfl, rfl, by decide +kernel, rfl, by decide +kernel, by decide +kernel⟩
theorem sc_holds_row : FnScope ["product", "row"] ["product", "row"] (defScope s_holds_row) := ⟨rfl, rfl, rfl, by decide +kernel, rfl, by decide +kernel, by decide +kernel⟩
theorem sc_holds_all : FnScope ["product", "other", "sign", "held"] ["product", "other"] (defScope s_holds_all) := ⟨rfl, rfl, rfl, by decide +kernel, rfl, by decide +kernel, by decide +kernel⟩
theorem sc_meet : FnScope ["product", "other", "one", "two"] ["product", "other"] (defScope s_meet) := ⟨rfl, rfl, rfl, by decide +kernel, rfl, by decide +kernel, by decide +kernel⟩
theorem sc_cube_of : FnScope ["change", "a", "b", "before", "after"] ["change"] (defScope s_cube_of) := ⟨rfl, rfl, rfl, by decide +kernel, rfl, by decide +kernel, by decide +kernel⟩
theorem sc_told_of : FnScope ["cover", "row", "product"] ["cover", "row"] (defScope s_told_of) := ⟨rfl, rfl, rfl, by decide +kernel, rfl, by decide +kernel, by decide +kernel⟩
theorem sc_cover_word : FnScope ["cover", "change", "a", "b"] ["cover", "change"] (defScope s_cover_word) := ⟨rfl, rfl, rfl, by decide +kernel, rfl, by decide +kernel, by decide +kernel⟩
theorem sc_cover_greatest : FnScope ["cover", "change", "a", "b", "products", "flashing", "product"] ["cover", "change"] (defScope s_cover_greatest) := ⟨rfl, rfl, rfl, by decide +kernel, rfl, by decide +kernel, by decide +kernel⟩
theorem sc_judged : FnScope ["cover", "change", "a", "b", "products", "k", "product"] ["cover", "change"] (defScope s_judged) := ⟨rfl, rfl, rfl, by decide +kernel, rfl, by decide +kernel, by decide +kernel⟩
theorem sc_first_holding : FnScope ["products", "change", "cube", "k", "product"] ["products", "change"] (defScope s_first_holding) := ⟨rfl, rfl, rfl, by decide +kernel, rfl, by decide +kernel, by decide +kernel⟩
theorem sc_flashes : FnScope ["product", "change", "a", "b"] ["product", "change"] (defScope s_flashes) := ⟨rfl, rfl, rfl, by decide +kernel, rfl, by decide +kernel, by decide +kernel⟩
theorem sc_literals_of : FnScope ["product", "place", "sign"] ["product"] (defScope s_literals_of) := ⟨rfl, rfl, rfl, by decide +kernel, rfl, by decide +kernel, by decide +kernel⟩
theorem sc_cover_wave : FnScope ["cover", "delays", "change", "first", "now", "times", "time", "part", "delay"] ["cover", "delays", "change"] (defScope s_cover_wave) := ⟨rfl, rfl, rfl, by decide +kernel, rfl, by decide +kernel, by decide +kernel⟩
theorem sc_told_at : FnScope ["cover", "delays", "change", "time", "product", "part"] ["cover", "delays", "change", "time"] (defScope s_told_at) := ⟨rfl, rfl, rfl, by decide +kernel, rfl, by decide +kernel, by decide +kernel⟩
theorem sc_holds_at : FnScope ["product", "part", "change", "time", "a", "b", "place", "delay", "worth"] ["product", "part", "change", "time"] (defScope s_holds_at) := ⟨rfl, rfl, rfl, by decide +kernel, rfl, by decide +kernel, by decide +kernel⟩
theorem sc_deck : FnScope ["_law_script"] ["_law_script"] (defScope s_deck) := ⟨rfl, rfl, rfl, by decide +kernel, rfl, by decide +kernel, by decide +kernel⟩
theorem sc_draw : FnScope ["_law_deck_here", "_law_most", "_law_cells", "_law_digit", "_law_cell", "_law_number"] ["_law_deck_here", "_law_most"] (defScope s_draw) := ⟨rfl, rfl, rfl, by decide +kernel, rfl, by decide +kernel, by decide +kernel⟩
theorem sc_many : FnScope ["_law_deck_here", "_law_way"] ["_law_deck_here"] (defScope s_many) := ⟨rfl, rfl, rfl, by decide +kernel, rfl, by decide +kernel, by decide +kernel⟩
theorem sc_row : FnScope ["_law_deck_here", "_law_many_here", "_law_k"] ["_law_deck_here", "_law_many_here"] (defScope s_row) := ⟨rfl, rfl, rfl, by decide +kernel, rfl, by decide +kernel, by decide +kernel⟩
theorem sc_change : FnScope ["_law_deck_here", "_law_many_here", "_law_way", "_law_row_here", "_law_place", "_law_worth_here"] ["_law_deck_here", "_law_many_here"] (defScope s_change) := ⟨rfl, rfl, rfl, by decide +kernel, rfl, by decide +kernel, by decide +kernel⟩
theorem sc_product : FnScope ["_law_deck_here", "_law_many_here", "_law_way", "_law_k", "_law_worth_here"] ["_law_deck_here", "_law_many_here"] (defScope s_product) := ⟨rfl, rfl, rfl, by decide +kernel, rfl, by decide +kernel, by decide +kernel⟩
theorem sc_cover : FnScope ["_law_deck_here", "_law_many_here", "_law_way", "_law_found", "_law_k", "_law_sort", "_law_product_here", "_law_place"] ["_law_deck_here", "_law_many_here"] (defScope s_cover) := ⟨rfl, rfl, rfl, by decide +kernel, rfl, by decide +kernel, by decide +kernel⟩
theorem sc_worth : FnScope ["_law_cover_here", "_law_delays_here", "_law_change_here", "_law_time", "_law_product_here", "_law_row_here", "_law_here", "_law_on", "_law_place", "_law_sign"] ["_law_cover_here", "_law_delays_here", "_law_change_here", "_law_time"] (defScope s_worth) := ⟨rfl, rfl, rfl, by decide +kernel, rfl, by decide +kernel, by decide +kernel⟩
theorem sc_wave : FnScope ["_law_cover_here", "_law_delays_here", "_law_change_here", "_law_first", "_law_times", "_law_time", "_law_row_here"] ["_law_cover_here", "_law_delays_here", "_law_change_here"] (defScope s_wave) := ⟨rfl, rfl, rfl, by decide +kernel, rfl, by decide +kernel, by decide +kernel⟩
theorem sc_long : FnScope ["_law_deck_here", "_law_most", "_law_total", "_law_k"] ["_law_deck_here", "_law_most"] (defScope s_long) := ⟨rfl, rfl, rfl, by decide +kernel, rfl, by decide +kernel, by decide +kernel⟩
theorem sc_delays : FnScope ["_law_deck_here", "_law_cover_here", "_law_way", "_law_most", "_law_back", "_law_count", "_law_found", "_law_product_here", "_law_row_here", "_law_sign"] ["_law_deck_here", "_law_cover_here"] (defScope s_delays) := ⟨rfl, rfl, rfl, by decide +kernel, rfl, by decide +kernel, by decide +kernel⟩
theorem sc_right : FnScope ["_law_cover_here", "_law_delays_here", "_law_change_here", "_law_due", "_law_again", "_law_found", "_law_word", "_law_one"] ["_law_cover_here", "_law_delays_here", "_law_change_here"] (defScope s_right) := ⟨rfl, rfl, rfl, by decide +kernel, rfl, by decide +kernel, by decide +kernel⟩
theorem sc_law : FnScope ["_law_script", "_law_deck_here", "_law_turn", "_law_many_here", "_law_change_here", "_law_cover_here", "_law_k"] ["_law_script"] (defScope s_law) := ⟨rfl, rfl, rfl, by decide +kernel, rfl, by decide +kernel, by decide +kernel⟩
structure Tx (K : PySem.W.Frag) (mg : Str → Option Value) where
  f_show_row : Addr
  fd_show_row : FuncData
  F_show_row : Fun K "show_row" "show_row" s_show_row f_show_row fd_show_row
  g_show_row : mg "show_row" = some (.ref f_show_row)
  b_show_row : Binds K fd_show_row ["row"] []
  c_show_row : Addr
  P_show_row : Addr
  cd_show_row : fd_show_row.code = .ref c_show_row
  f_holds_row : Addr
  fd_holds_row : FuncData
  F_holds_row : Fun K "holds_row" "holds_row" s_holds_row f_holds_row fd_holds_row
  g_holds_row : mg "holds_row" = some (.ref f_holds_row)
  b_holds_row : Binds K fd_holds_row ["product", "row"] []
  f_holds_all : Addr
  fd_holds_all : FuncData
  F_holds_all : Fun K "holds_all" "holds_all" s_holds_all f_holds_all fd_holds_all
  g_holds_all : mg "holds_all" = some (.ref f_holds_all)
  b_holds_all : Binds K fd_holds_all ["product", "other"] []
  c_holds_all : Addr
  P_holds_all : Addr
  cd_holds_all : fd_holds_all.code = .ref c_holds_all
  f_meet : Addr
  fd_meet : FuncData
  F_meet : Fun K "meet" "meet" s_meet f_meet fd_meet
  g_meet : mg "meet" = some (.ref f_meet)
  b_meet : Binds K fd_meet ["product", "other"] []
  c_meet : Addr
  P_meet : Addr
  cd_meet : fd_meet.code = .ref c_meet
  f_cube_of : Addr
  fd_cube_of : FuncData
  F_cube_of : Fun K "cube_of" "cube_of" s_cube_of f_cube_of fd_cube_of
  g_cube_of : mg "cube_of" = some (.ref f_cube_of)
  b_cube_of : Binds K fd_cube_of ["change"] []
  c_cube_of : Addr
  P_cube_of : Addr
  cd_cube_of : fd_cube_of.code = .ref c_cube_of
  f_told_of : Addr
  fd_told_of : FuncData
  F_told_of : Fun K "told_of" "told_of" s_told_of f_told_of fd_told_of
  g_told_of : mg "told_of" = some (.ref f_told_of)
  b_told_of : Binds K fd_told_of ["cover", "row"] []
  c_told_of : Addr
  P_told_of : Addr
  cd_told_of : fd_told_of.code = .ref c_told_of
  f_cover_word : Addr
  fd_cover_word : FuncData
  F_cover_word : Fun K "cover_word" "cover_word" s_cover_word f_cover_word fd_cover_word
  g_cover_word : mg "cover_word" = some (.ref f_cover_word)
  b_cover_word : Binds K fd_cover_word ["cover", "change"] []
  f_cover_greatest : Addr
  fd_cover_greatest : FuncData
  F_cover_greatest : Fun K "cover_greatest" "cover_greatest" s_cover_greatest f_cover_greatest fd_cover_greatest
  g_cover_greatest : mg "cover_greatest" = some (.ref f_cover_greatest)
  b_cover_greatest : Binds K fd_cover_greatest ["cover", "change"] []
  c_cover_greatest : Addr
  P_cover_greatest : Addr
  cd_cover_greatest : fd_cover_greatest.code = .ref c_cover_greatest
  f_judged : Addr
  fd_judged : FuncData
  F_judged : Fun K "judged" "judged" s_judged f_judged fd_judged
  g_judged : mg "judged" = some (.ref f_judged)
  b_judged : Binds K fd_judged ["cover", "change"] []
  f_first_holding : Addr
  fd_first_holding : FuncData
  F_first_holding : Fun K "first_holding" "first_holding" s_first_holding f_first_holding fd_first_holding
  g_first_holding : mg "first_holding" = some (.ref f_first_holding)
  b_first_holding : Binds K fd_first_holding ["products", "change"] []
  f_flashes : Addr
  fd_flashes : FuncData
  F_flashes : Fun K "flashes" "flashes" s_flashes f_flashes fd_flashes
  g_flashes : mg "flashes" = some (.ref f_flashes)
  b_flashes : Binds K fd_flashes ["product", "change"] []
  f_literals_of : Addr
  fd_literals_of : FuncData
  F_literals_of : Fun K "literals_of" "literals_of" s_literals_of f_literals_of fd_literals_of
  g_literals_of : mg "literals_of" = some (.ref f_literals_of)
  b_literals_of : Binds K fd_literals_of ["product"] []
  f_cover_wave : Addr
  fd_cover_wave : FuncData
  F_cover_wave : Fun K "cover_wave" "cover_wave" s_cover_wave f_cover_wave fd_cover_wave
  g_cover_wave : mg "cover_wave" = some (.ref f_cover_wave)
  b_cover_wave : Binds K fd_cover_wave ["cover", "delays", "change"] []
  f_told_at : Addr
  fd_told_at : FuncData
  F_told_at : Fun K "told_at" "told_at" s_told_at f_told_at fd_told_at
  g_told_at : mg "told_at" = some (.ref f_told_at)
  b_told_at : Binds K fd_told_at ["cover", "delays", "change", "time"] []
  c_told_at : Addr
  P_told_at : Addr
  cd_told_at : fd_told_at.code = .ref c_told_at
  f_holds_at : Addr
  fd_holds_at : FuncData
  F_holds_at : Fun K "holds_at" "holds_at" s_holds_at f_holds_at fd_holds_at
  g_holds_at : mg "holds_at" = some (.ref f_holds_at)
  b_holds_at : Binds K fd_holds_at ["product", "part", "change", "time"] []
  f_deck : Addr
  fd_deck : FuncData
  F_deck : Fun K "_law_deck" "_law_deck" s_deck f_deck fd_deck
  g_deck : mg "_law_deck" = some (.ref f_deck)
  b_deck : Binds K fd_deck ["_law_script"] []
  f_draw : Addr
  fd_draw : FuncData
  F_draw : Fun K "_law_draw" "_law_draw" s_draw f_draw fd_draw
  g_draw : mg "_law_draw" = some (.ref f_draw)
  b_draw : Binds K fd_draw ["_law_deck_here", "_law_most"] []
  f_many : Addr
  fd_many : FuncData
  F_many : Fun K "_law_many" "_law_many" s_many f_many fd_many
  g_many : mg "_law_many" = some (.ref f_many)
  b_many : Binds K fd_many ["_law_deck_here"] []
  f_row : Addr
  fd_row : FuncData
  F_row : Fun K "_law_row" "_law_row" s_row f_row fd_row
  g_row : mg "_law_row" = some (.ref f_row)
  b_row : Binds K fd_row ["_law_deck_here", "_law_many_here"] []
  f_change : Addr
  fd_change : FuncData
  F_change : Fun K "_law_change" "_law_change" s_change f_change fd_change
  g_change : mg "_law_change" = some (.ref f_change)
  b_change : Binds K fd_change ["_law_deck_here", "_law_many_here"] []
  f_product : Addr
  fd_product : FuncData
  F_product : Fun K "_law_product" "_law_product" s_product f_product fd_product
  g_product : mg "_law_product" = some (.ref f_product)
  b_product : Binds K fd_product ["_law_deck_here", "_law_many_here"] []
  f_cover : Addr
  fd_cover : FuncData
  F_cover : Fun K "_law_cover" "_law_cover" s_cover f_cover fd_cover
  g_cover : mg "_law_cover" = some (.ref f_cover)
  b_cover : Binds K fd_cover ["_law_deck_here", "_law_many_here"] []
  f_worth : Addr
  fd_worth : FuncData
  F_worth : Fun K "_law_worth" "_law_worth" s_worth f_worth fd_worth
  g_worth : mg "_law_worth" = some (.ref f_worth)
  b_worth : Binds K fd_worth ["_law_cover_here", "_law_delays_here", "_law_change_here", "_law_time"] []
  f_wave : Addr
  fd_wave : FuncData
  F_wave : Fun K "_law_wave" "_law_wave" s_wave f_wave fd_wave
  g_wave : mg "_law_wave" = some (.ref f_wave)
  b_wave : Binds K fd_wave ["_law_cover_here", "_law_delays_here", "_law_change_here"] []
  f_long : Addr
  fd_long : FuncData
  F_long : Fun K "_law_long" "_law_long" s_long f_long fd_long
  g_long : mg "_law_long" = some (.ref f_long)
  b_long : Binds K fd_long ["_law_deck_here", "_law_most"] []
  f_delays : Addr
  fd_delays : FuncData
  F_delays : Fun K "_law_delays" "_law_delays" s_delays f_delays fd_delays
  g_delays : mg "_law_delays" = some (.ref f_delays)
  b_delays : Binds K fd_delays ["_law_deck_here", "_law_cover_here"] []
  f_right : Addr
  fd_right : FuncData
  F_right : Fun K "_law_right" "_law_right" s_right f_right fd_right
  g_right : mg "_law_right" = some (.ref f_right)
  b_right : Binds K fd_right ["_law_cover_here", "_law_delays_here", "_law_change_here"] []
  f_law : Addr
  fd_law : FuncData
  F_law : Fun K "law" "law" s_law f_law fd_law
  g_law : mg "law" = some (.ref f_law)
  b_law : Binds K fd_law ["_law_script"] []
  m_all : mg "all" = none
  m_any : mg "any" = none
  m_bool : mg "bool" = none
  m_enumerate : mg "enumerate" = none
  m_int : mg "int" = none
  m_isinstance : mg "isinstance" = none
  m_len : mg "len" = none
  m_list : mg "list" = none
  m_range : mg "range" = none
  m_set : mg "set" = none
  m_sorted : mg "sorted" = none
  m_str : mg "str" = none
  m_sum : mg "sum" = none
  m_tuple : mg "tuple" = none
  m_zip : mg "zip" = none
structure Tb (base : Heap) {K : PySem.W.Frag} {mg : Str → Option Value} (T : Tx K mg) : Prop where
  TB_show_row : GxR.TabB base mg T.c_show_row T.P_show_row
  TB_holds_all : GxR.TabB base mg T.c_holds_all T.P_holds_all
  TB_meet : GxR.TabB base mg T.c_meet T.P_meet
  TB_cube_of : GxR.TabB base mg T.c_cube_of T.P_cube_of
  TB_told_of : GxR.TabB base mg T.c_told_of T.P_told_of
  TB_cover_greatest : GxR.TabB base mg T.c_cover_greatest T.P_cover_greatest
  TB_told_at : GxR.TabB base mg T.c_told_at T.P_told_at
def Tx.tabs {K : PySem.W.Frag} {mg : Str → Option Value} (T : Tx K mg) : List Addr := [T.P_show_row, T.P_holds_all, T.P_meet, T.P_cube_of, T.P_told_of, T.P_cover_greatest, T.P_told_at]
/-! ### generator expressions whose elements may call -/
theorem inv_moved {X : Cx} {cp : List (Addr × Obj)} {σ : L2.St} {H : Hp} {s s' : Shared} (I : Inv X cp σ H s) (os : s'.os = s.os) (bare : AllBare s'.gens) (k : ∀ b o, s.heap.get? b = some o → s'.heap.get? b = some o) : Inv X cp σ H s' :=
  I.call' (ch := []) os (Un.kept k) (I.hok.kept k) bare fun b hb => absurd hb (by simp)
/-- the context of a generator expression's frame: C its frame, s, H the entry, fp its iterator's objects -/
abbrev gblk (X : Cx) (A : Around) (s : Shared) (H : Hp) (cenv : Env) (fp : List Addr) : Cx :=
  { X with A := A, s_0 := s, H_0 := H, env := cenv, outer := X.stack, stack := cenv :: X.stack, ex := fp, fn := fun _ => false, pn := [], xe := fun _ _ => False }
section
variable {X : Cx} {pins : List (Addr × Obj)} {σ : L2.St} {H : Hp} {s : Shared}
theorem gen_start {scope : Scope} {own : List (Str × Nat)} {fp : List Addr} {A : Around} {code it : Value} {s5 : Shared} {cp : List (Addr × Obj)}
    (I : Inv X pins σ H s) (ok : BlkOk X.N X.env.scope scope own) (nocell : ∀ y ∈ scope.names, y.2 ≠ .cell) (hN : X.N.Nodup) (hfp : ∀ b ∈ fp, FpOk X pins H b ∧ b < s.heap.objs.size)
    (hh : A.handled = none) (hfr : A.frames = some (genEnv scope (cloFrom X.env.cells scope.names []) s.heap.objs.size code builtinsNs X.env :: X.stack))
    (os : s5.os = s.os) (bare : AllBare s5.gens) (kp : ∀ b o, s.heap.get? b = some o → s5.heap.get? b = some o)
    (hns : s5.heap.Ns s.heap.objs.size fun y => if y = ".0" then some it else none)
    (hcp : ∀ p ∈ cp, s.heap.objs.size < p.1 ∧ s5.heap.get? p.1 = some p.2 ∧ ∀ v, p.2.data ≠ .cell v) :
    Inv (gblk X A s H (genEnv scope (cloFrom X.env.cells scope.names []) s.heap.objs.size code builtinsNs X.env) fp) cp (wipe σ (own.map (·.2))) H s5 := by
  have hfree : ∀ y ∈ scope.names, y.2 = .free → ∃ c, X.env.cells.lookup y.1 = some c := fun y hy e => by
    rcases ok.free y hy e with k | k
    · exact I.ok.has _ (.inl k)
    · exact I.ok.has _ (.inr k)
  generalize hcenv : genEnv scope (cloFrom X.env.cells scope.names []) s.heap.objs.size code builtinsNs X.env = cenv at hfr ⊢
  have hL : cenv.locals = s.heap.objs.size := by rw [← hcenv]; rfl
  have hcl : cenv.cells = cloFrom X.env.cells scope.names [] := by rw [← hcenv]; rfl
  have hsc : cenv.scope = scope := by rw [← hcenv]; rfl
  have cm : ∀ {y c}, (y, c) ∈ cloFrom X.env.cells scope.names [] → X.env.cells.lookup y = some c ∧ c < s.heap.objs.size := fun {y c} hm => by
    rcases cloFrom_mem hm with hm | ⟨h1, rfl⟩
    · cases hm
    · obtain ⟨c, hc⟩ := hfree _ h1 rfl
      rw [hc]
      obtain ⟨w, z⟩ := I.cell _ _ hc
      exact ⟨rfl, z.lt⟩
  have mem : ∀ {y c}, cenv.cells.lookup y = some c → X.env.cells.lookup y = some c ∧ c < s.heap.objs.size := fun {y c} e => by
    rw [hcl] at e
    exact cm (PySem.mem_of_lookup e)
  have look : ∀ {y}, scope.names.lookup y = some .free → ∃ c, cenv.cells.lookup y = some c ∧ X.env.cells.lookup y = some c := fun {y} hl => by
    have hy : (y, NameKind.free) ∈ scope.names := PySem.mem_of_lookup hl
    obtain ⟨c', e'⟩ := mem_lookup (cloFrom_has (cells := X.env.cells) (acc := []) hy)
    rw [← hcl] at e'
    exact ⟨c', e', (mem e').1⟩
  have okB : (gblk X A s H cenv fp).Ok := by
    refine ⟨I.ok.mod, by show cenv.scope.kind = _; rw [hsc]; exact ok.kind, by show cenv.globals = _; rw [← hcenv]; exact I.ok.glob, by show cenv.builtins = _; rw [← hcenv]; rfl, by show s.heap.objs.size ≤ cenv.locals; rw [hL]; exact Nat.le_refl _,
      fun y z c e1 e2 => I.ok.inj y z c (mem e1).1 (mem e2).1, fun y hy => ?_, fun y c z e => (by cases z), fun _ => hh, hfr, .inr ⟨rfl, by show cenv.frame = some cenv.locals; rw [← hcenv]; rfl⟩, fun b hb => ⟨?_, fun y c e z => ?_⟩, I.bs, Nat.le_trans I.ok.bsz I.sz, fun b o e hb => ?_, fun b hb z => ?_, I.stack, I.stkFree⟩
    · have hy' : scope.names.lookup y = some .cell ∨ scope.names.lookup y = some .free := by
        rw [← hsc]
        exact hy
      rcases hy' with e | e
      · exact absurd rfl (nocell _ (PySem.mem_of_lookup e))
      · obtain ⟨c, h1, _⟩ := look e
        exact ⟨c, h1⟩
    · show b ≠ cenv.locals
      rw [hL]; exact Nat.ne_of_lt (hfp b hb).2
    · exact (hfp b hb).1.2.2.2.2.1 y c (mem e).1 z
    · rcases (hfp b hb).1.2.2.2.1 with z | z
      · exact I.ok.noex b o e z
      · exact absurd (Nat.lt_of_lt_of_le (Heap.lt_size e) (Nat.le_trans I.ok.bsz z)) (Nat.lt_irrefl _)
    · rcases List.mem_cons.mp (I.stkSub b z) with z | z
      · exact (hfp b hb).1.2.1 z
      · exact (hfp b hb).1.2.2.1 z
  refine ⟨okB, os, bare, Un.kept kp, ⟨_, (by show s5.heap.Ns cenv.locals _; rw [hL]; exact hns), fun i y av e1 e2 e3 => ?_⟩, fun y c e => ?_, ?_, fun y c e => I.freeC y c (mem e).1, fun p hp => ?_, I.hok.kept kp, by rw [wipe_length]; exact I.len⟩
  · obtain ⟨e2, hne⟩ := wipe_some e2
    have e3 : Vis scope y := by rw [← hsc]; exact e3
    have no : ∀ k, scope.names.lookup y = some k → ¬ (k = .local ∨ k = .cell) := fun k e hh => by
      rcases ok.own _ (PySem.mem_of_lookup e) hh with e' | e'
      · obtain ⟨p, hp, hpy⟩ := List.mem_map.mp e'
        have e3 := ok.ix p hp
        have : p.1 = y := hpy
        rw [this] at e3
        exact hne (List.mem_map.mpr ⟨p, hp, nodup_ix hN e3 e1⟩)
      · exact e' (List.mem_of_getElem? e1)
    have hfr2 : scope.names.lookup y = some .free := by
      rcases e3 with e | e | e
      · exact absurd (.inl rfl) (no _ e)
      · exact absurd (.inr rfl) (no _ e)
      · exact e
    obtain ⟨m, hn, hl⟩ := I.loc
    have hvis : Vis X.env.scope y := (ok.free _ (PySem.mem_of_lookup hfr2) rfl).elim (fun k => .inr (.inl k)) (fun k => .inr (.inr k))
    obtain ⟨w, r, q⟩ := hl i y av e1 e2 hvis
    refine ⟨w, r, .inr ⟨.inr (by show cenv.scope.names.lookup y = some .free; rw [hsc]; exact hfr2), ?_⟩⟩
    obtain ⟨c, h1, h2⟩ := look hfr2
    rcases q with ⟨k, _⟩ | ⟨_, c', e', z⟩
    · have k : X.env.scope.names.lookup y = some .local := k
      rcases ok.free _ (PySem.mem_of_lookup hfr2) rfl with k' | k' <;> rw [show X.env.scope.names.lookup y = _ from k'] at k <;> cases k
    · rw [h2] at e'; cases e'
      exact ⟨c, h1, z.keeps kp⟩
  · obtain ⟨w, z⟩ := I.cell y c (mem e).1
    exact ⟨w, z.keeps kp⟩
  · show H cenv.locals = none
    rw [hL]; exact I.hok.fresh (Nat.le_refl _)
  · have hp : p ∈ cp := by simpa using hp
    obtain ⟨h1, h2, h3⟩ := hcp p hp
    refine ⟨h2, I.hok.fresh (Nat.le_of_lt h1), by show p.1 ≠ cenv.locals; rw [hL]; exact Nat.ne_of_gt h1, fun z => ?_, h3⟩
    rcases List.mem_cons.mp (I.stkSub _ z) with z | z
    · exact absurd (Nat.lt_trans I.lt h1) (by rw [z]; exact Nat.lt_irrefl _)
    · exact I.nofs (Nat.le_of_lt h1) z
end
/-! ### the talk of a generator and who asks it -/
section
variable {α : Type}
/-- handed out: x; the asker's state a (laid down in the pins cp) goes to one with Nx -/
def YG (Xg : Cx) (fp : List Addr) (tn : Nat → Heap → Prop) (AC : α → List (Addr × Obj) → Prop) (Yd : α → V → Hp → (α → Hp → Prop) → Prop) : Protocol := fun _ s0 v s kap =>
  ∃ (a : α) (x : V) (σ : L2.St) (H : Hp) (i : Nat) (cp : List (Addr × Obj)) (Nx : α → Hp → Prop), RelV x v ∧ AC a cp ∧ (∀ p ∈ cp, s0.heap.get? p.1 = some p.2) ∧ Inv Xg cp σ H s ∧ tn i s.heap ∧ (∀ b ∈ fp, H b = none) ∧ Yd a x H Nx ∧
    ∀ a' cp' s', Nx a' H → AC a' cp' → Inv Xg cp' σ H s' → tn i s'.heap → kap (.send .none) s'
def RG (Xg : Cx) (AC : α → List (Addr × Obj) → Prop) (End : α → Hp → Prop) : GenEnd := fun _ s0 r s =>
  ((r = .ok (.ret .none) ∨ r = .ok .next) ∧ ∃ (a : α) (σ : L2.St) (H : Hp) (cp : List (Addr × Obj)), AC a cp ∧ (∀ p ∈ cp, s0.heap.get? p.1 = some p.2) ∧ Inv Xg cp σ H s ∧ End a H) ∨ ∃ e, r = .error e ∧ False
/-- a generator's turns -/
def tGx (J : It) (g : TG) (tt : TT) (te : TE) (σ0 : L2.St) (vs : List Nat) (End : α → Hp → Prop) (Yd : α → V → Hp → (α → Hp → Prop) → Prop) (W : Nat → Nat → α → Hp → Prop) : Prop :=
  ∀ i m a H, W i m a H → (J.stop i H ∧ End a H) ∨ (J.go i H ∧ ∃ Nx : α → Hp → Prop, (∀ a' H', Nx a' H' → ∃ m', m' < m ∧ W (i + 1) m' a' H') ∧
    ∀ x H', J.yld i H x H' → g x σ0 H' fun σ2 H2 => wipe σ2 vs = σ0 ∧ tt σ2 H2 fun b H3 => if b = true then te σ2 H3 fun y H4 => Yd a y H4 Nx else Nx a H3)
theorem wipe_wipe_some {σ σ2 : L2.St} {vs : List Nat} (h : wipe σ2 vs = σ) : ∀ (j : Nat) v, σ[j]? = some (some v) → σ2[j]? = some (some v) := fun j v e => by
  rw [← h] at e
  exact (wipe_some e).1
theorem seg_gx {X : Cx} {A A' : Around} {s_0 : Shared} {H_0 : Hp} {elt tg iter : Expr} {ifs : List Expr} {scope : Scope} {pos : Pos} {it : Addr} {fp : List Addr} {tn : Nat → Heap → Prop} {J : It} {cenv : Env} {g : TG} {tt : TT} {te : TE} {σ0 : L2.St} {vs : List Nat}
    {AC : α → List (Addr × Obj) → Prop} {End : α → Hp → Prop} {Yd : α → V → Hp → (α → Hp → Prop) → Prop} {W : Nat → Nat → α → Hp → Prop}
    (hA : A.over (.compLoop (.GeneratorExp elt [⟨tg, iter, ifs, 0⟩] scope pos) 0 (.ref it) .none cenv) [] = A') (hc : X.calm = true) (hco : cenv.scope.isCoroutine = false)
    (T : Turn X.prog X.w X.K tg J fp it tn) (pg : PG (gblk X A' s_0 H_0 cenv fp) tg g) (pt : PTs (gblk X A' s_0 H_0 cenv fp) ifs tt) (pe : PE (gblk X A' s_0 H_0 cenv fp) elt te)
    (hAC : ∀ a cp, AC a cp → ∀ p ∈ cp, ∀ b ∈ fp, p.1 ≠ b) (turn : tGx J g tt te σ0 vs End Yd W) :
    ∀ (m n i : Nat) (a : α) (H : Hp) (s₀ s : Shared) (cp : List (Addr × Obj)), m < n → W i m a H → AC a cp → (∀ p ∈ cp, s₀.heap.get? p.1 = some p.2) → Inv (gblk X A' s_0 H_0 cenv fp) cp σ0 H s → tn i s.heap → (∀ b ∈ fp, H b = none) →
      Seg (model X.prog X.w) A (RG (gblk X A' s_0 H_0 cenv fp) AC End) (YG (gblk X A' s_0 H_0 cenv fp) fp tn AC Yd) n s₀
        (.compLoop (.GeneratorExp elt [⟨tg, iter, ifs, 0⟩] scope pos) 0 (.ref it) .none cenv)
        ((model X.prog X.w).den (.compLoop (.GeneratorExp elt [⟨tg, iter, ifs, 0⟩] scope pos) 0 (.ref it) .none cenv)) [] s := by
  have stat : ∀ {a : α} {cp : List (Addr × Obj)} {σ' : L2.St} {H' : Hp} {s' : Shared}, AC a cp → Inv (gblk X A' s_0 H_0 cenv fp) cp σ' H' s' → (∀ b ∈ fp, H' b = none) → ∀ b ∈ fp, FpOk (gblk X A' s_0 H_0 cenv fp) cp H' b := fun {a cp σ' H' s'} hac I' hn b hb =>
    ⟨hn b hb, (I'.ok.exf b hb).1, I'.ok.exfs b hb, .inl hb, fun x c e => (I'.ok.exf b hb).2 x c e, fun p hp => hAC a cp hac p (by simpa using hp) b hb⟩
  intro m
  induction m using Nat.strongRecOn with
  | ind m ih =>
    intro n i a H s₀ s cp hmn w hac tie I st nf
    show Seg _ A _ _ _ s₀ _ ((compTurn (.GeneratorExp elt [⟨tg, iter, ifs, 0⟩] scope pos) 0 (.ref it) .none cenv).onRaise (leaving cenv)) [] s
    rw [compTurn_gen, Sem.onRaise_eq_wrap]
    refine seg_bind_wrap (wpAny_standAt ?_)
    rcases turn i m a H w with ⟨stop, hend⟩ | ⟨go, Nx, hNx, step⟩
    · refine seg_bind_wrap ?_
      rw [hA]
      refine thnF (T.done (gblk X A' s_0 H_0 cenv fp) rfl rfl rfl hc i cp s σ0 H (fun _ _ => False) I (stat hac I nf) st stop) fun r s1 ⟨hr, I1⟩ => ?_
      subst hr
      exact seg_end (.ok .next) (.inl ⟨.inr rfl, a, _, H, cp, hac, tie, I1, hend⟩)
    · refine seg_bind_wrap ?_
      rw [hA]
      refine thnF (T.item (gblk X A' s_0 H_0 cenv fp) rfl rfl rfl hc i cp s σ0 H (fun _ _ => False) I (stat hac I nf) st go) fun r s1 ⟨u, hr, h1⟩ => ?_
      subst hr
      refine seg_bind_wrap ?_
      rw [hA]
      refine thnF h1 fun _ s2 ⟨x, H2, I2, r2, y2, st2, n2⟩ => ?_
      have I2' := I2.pinned (stat hac I2 n2) (T.obj _ _ st2)
      refine seg_bind_wrap ?_
      rw [hA]
      refine thnF (pg.run _ s2 _ H2 x u _ I2' r2 (step x H2 y2)) fun _ s3 ⟨σ3, H3, I3, hw3, q3⟩ => ?_
      refine seg_bind_wrap ?_
      rw [hA]
      refine thnF (pt.run _ s3 σ3 H3 _ I3 q3) fun b s4 ⟨H4, I4, q4⟩ => ?_
      have hl : σ0.length = σ3.length := by rw [← hw3, wipe_length]
      have fin : ∀ {s' : Shared} {H' : Hp}, Inv (gblk X A' s_0 H_0 cenv fp) (cp ++ pinsAt fp s2.heap) σ3 H' s' → Inv (gblk X A' s_0 H_0 cenv fp) cp σ0 H' s' ∧ tn (i + 1) s'.heap ∧ ∀ b ∈ fp, H' b = none := fun {s' H'} I' => by
        have pin' : ∀ b ∈ fp, ∀ o, s2.heap.get? b = some o → s'.heap.get? b = some o ∧ H' b = none := fun b hb o e =>
          let z := I'.pin (b, o) (List.mem_append_right _ (List.mem_append_right _ (mem_pinsAt hb e)))
          ⟨z.1, z.2.1⟩
        refine ⟨(I'.unpinned (pins := cp)).weak hl (wipe_wipe_some hw3), T.keep _ _ _ st2 fun b hb o e => (pin' b hb o e).1, fun b hb => ?_⟩
        obtain ⟨o, e, _⟩ := T.obj _ _ st2 b hb
        exact (pin' b hb o e).2
      cases b with
      | false =>
        simp only [Bool.false_eq_true, if_false] at q4 ⊢
        obtain ⟨m', hm, w'⟩ := hNx a H4 q4
        obtain ⟨J1, J2, J3⟩ := fin I4
        exact seg_again rfl (ih m' hm n (i + 1) a H4 s₀ s4 cp (by omega) w' hac tie J1 J2 J3)
      | true =>
        simp only [if_true] at q4 ⊢
        have hy : ∀ v, yieldOut cenv v = yieldValue v := fun v => by simp only [yieldOut, hco, Bool.false_eq_true, if_false]
        simp only [hy]
        rw [Sem.bind_eq_wrap', Sem.bind_eq_wrap', Sem.wrap_wrap, Sem.wrap_wrap]
        refine seg_wrap ?_
        rw [hA]
        refine thnF (pe.run _ s4 σ3 H4 _ I4 q4) fun yv s5 ⟨y, H5, I5, r5, q5⟩ => ?_
        obtain ⟨J1, J2, J3⟩ := fin I5
        -- at least one more
        cases n with
        | zero => exact absurd hmn (Nat.not_lt_zero _)
        | succ n =>
          refine seg_at (seg_yield rfl rfl rfl ⟨a, y, σ0, H5, i + 1, cp, Nx, r5, hac, tie, J1, J2, J3, q5, fun a' cp' s' nx hac' I' st' => ?_⟩)
          obtain ⟨m', hm, w'⟩ := hNx a' H5 nx
          exact seg_again rfl (ih m' hm n (i + 1) a' H5 s' s' cp' (by omega) w' hac' (fun p hp => (I'.pin p (List.mem_append_right _ hp)).1) I' st' J3)
end
/-! ### a generator that is made -/
section
variable {X : Cx} {pins : List (Addr × Obj)} {σ : L2.St} {H : Hp} {s : Shared}
def GenObj (o : Obj) (g : Nat) : Prop := ∃ nm qn, o.cls = .type "generator" ∧ o.data = .fields #[.int g 0, nm, qn] ∧ o.slots = #[]
theorem GenObj.isGen {o : Obj} {g : Nat} (h : GenObj o g) {a : Addr} {hp : Heap} (e : hp.get? a = some o) : hp.IsGen a g := by
  obtain ⟨nm, qn, h1, h2, h3⟩ := h
  exact ⟨o, nm, qn, e, h1, h2, h3⟩
/-- the generator u, made and not begun, in the state s5 -/
def Gx (X : Cx) (pins : List (Addr × Obj)) (σ : L2.St) (A : Around) (J : It) (g : TG) (tt : TT) (te : TE) (vs : List Nat) (H4 : Hp) (u : Value) (s5 : Shared) : Prop :=
  ∃ (A' : Around) (s_0 : Shared) (H_0 : Hp) (cenv : Env) (fp : List Addr) (ga : Addr) (gn : Nat) (go : Obj) (tn : Nat → Heap → Prop) (gs : GenState),
    u = .ref ga ∧ GenObj go gn ∧ s5.gens[gn]? = some gs ∧ gs.bare = true ∧ Inv (gblk X A' s_0 H_0 cenv fp) [(ga, go)] (wipe σ vs) H4 s5 ∧ tn 0 s5.heap ∧ (∀ b ∈ fp, H4 b = none) ∧ (∀ b ∈ fp, b < ga) ∧
    (∀ i h h', tn i h → (∀ b ∈ fp, ∀ o, h.get? b = some o → h'.get? b = some o) → tn i h') ∧ (∀ cp σ' H' s', Inv (gblk X A' s_0 H_0 cenv fp) cp σ' H' s' → Inv X pins σ H' s') ∧
    ∀ (α : Type) (AC : α → List (Addr × Obj) → Prop) (End : α → Hp → Prop) (Yd : α → V → Hp → (α → Hp → Prop) → Prop) (W : Nat → Nat → α → Hp → Prop) (m n : Nat) (a : α) (cp : List (Addr × Obj)) (s' : Shared),
      tGx J g tt te (wipe σ vs) vs End Yd W → W 0 m a H4 → m < n → (∀ a cp, AC a cp → ∀ p ∈ cp, ∀ b ∈ fp, p.1 ≠ b) → AC a cp → Inv (gblk X A' s_0 H_0 cenv fp) cp (wipe σ vs) H4 s' → tn 0 s'.heap →
      gs.Goes (model X.prog X.w) A (RG (gblk X A' s_0 H_0 cenv fp) AC End) (YG (gblk X A' s_0 H_0 cenv fp) fp tn AC Yd) n (.send .none) s'
/-- what stands about an asker -/
structure Near (A B : Around) : Prop where
  hd : B.handled = A.handled
  fr : B.frames = A.frames
  gd : B.guards = A.guards
  dp : B.depth = A.depth
  un : B.units ≤ A.units + 8
theorem gx_make {c P : Addr} {elt tg iter : Expr} {ifs : List Expr} {gpos : Pos} {scope : Scope} {own : List (Str × Nat)} {wi : TI} {g : TG} {tt : TT} {te : TE} {k : Nat} {Q' : Value → Shared → Prop} {R : It → Hp → Prop} {A : Around}
    (hr : Room (k + 1) X.A) (near : Near X.A A) (hc : X.calm = true) (hN : X.N.Nodup) (TB : GxR.TabB X.base X.mg c P) (hcode : X.env.code = .ref c) (hco : scope.isCoroutine = false) (hdot : scope.names.lookup (".0" : Str) = some NameKind.local)
    (nocell : ∀ y ∈ scope.names, y.2 ≠ .cell) (ok : BlkOk X.N X.env.scope scope own) (hi : PI X tg iter wi)
    (hg : ∀ (A' : Around) (s : Shared) (H : Hp) (C : Addr) (cl : List (Str × Addr)) (code : Value) (fp : List Addr), Room k A' → A'.guards = X.A.guards → PG (gblk X A' s H (genEnv scope cl C code builtinsNs X.env) fp) tg g)
    (ht : ∀ (A' : Around) (s : Shared) (H : Hp) (C : Addr) (cl : List (Str × Addr)) (code : Value) (fp : List Addr), Room k A' → A'.guards = X.A.guards → PTs (gblk X A' s H (genEnv scope cl C code builtinsNs X.env) fp) ifs tt)
    (he : ∀ (A' : Around) (s : Shared) (H : Hp) (C : Addr) (cl : List (Str × Addr)) (code : Value) (fp : List Addr), Room k A' → A'.guards = X.A.guards → PE (gblk X A' s H (genEnv scope cl C code builtinsNs X.env) fp) elt te)
    (hs : ∀ v, genFold iter X.env v = pure v) (I : Inv X pins σ H s) (h : wi σ H fun J H1 => GxR.TabG H1 P ∧ R J H1)
    (hQ : ∀ J H1 H2 u s5, R J H1 → GxR.Tabbed P H1 H2 → Gx X pins σ A J g tt te (own.map (·.2)) H2 u s5 → Q' u s5) :
    wpAny (model X.prog X.w) X.A (eval (.GeneratorExp elt [⟨tg, iter, ifs, 0⟩] scope gpos) X.env) Q' X.xe s := by
  have hfree : ∀ y ∈ scope.names, y.2 = .free → ∃ c, X.env.cells.lookup y.1 = some c := fun y hy e => by
    rcases ok.free y hy e with k | k
    · exact I.ok.has _ (.inl k)
    · exact I.ok.has _ (.inr k)
  refine wpAny_GeneratorExp_make hco (closure_ok hfree) nocell hdot ok.kind (by have := hr.dp; omega) ?_ hs
  refine thn (hi.run pins s σ H _ I h) fun xv s1 hx => thn hx fun itv s2 h2 => ?_
  obtain ⟨it, fp, tn, J, H2, rfl, I2, T, st2, f2, ⟨ps, hP, ht3⟩, q⟩ := h2
  refine ⟨I2.nolimit, ?_⟩
  have hPs : s2.heap.get? P = some { cls := .none, data := .fields ps } := I2.hok P _ hP
  have cd : PySem.W.CodeHd s2.heap c P := TB.code.keeps fun b u e => I2.bk b u e
  have nP : ∀ b, H2 b = none → b ≠ P := fun b e z => by
    rw [z, hP] at e
    cases e
  have cont : ∀ (code : Value) (h3 : Heap) (tk : Nat) (ps' : Array Value), Heap.ExtBut P s2.heap h3 → s2.heap.objs.size ≤ h3.objs.size → h3.get? P = some { cls := .none, data := .fields ps' } → (∃ more, ps' = ps ++ more) → TriplesOk ps'.toList →
      wpAny (model X.prog X.w) X.A (builtinsFor X.env.globals X.env.builtins) (fun bi s₄ =>
        ∀ h', h'.Ns s₄.heap.objs.size (fun y => if y = ".0" then some (Value.ref it) else none) → Heap.SameBut s₄.heap.objs.size (s₄.heap.push { cls := .type "frame", data := .dict #[] }) h' →
          Q' (.ref h'.objs.size) { s₄ with
            gens := s₄.gens.push (.fresh (.compStart (.GeneratorExp elt [⟨tg, iter, ifs, 0⟩] scope gpos) 0 (.ref it) .none (genEnv scope (cloFrom X.env.cells scope.names []) s₄.heap.objs.size code bi X.env))),
            toks := s₄.toks + 1 + 1 + 1,
            heap := h'.push { cls := .type "generator", data := .fields #[.int s₄.gens.size 0, .str "<genexpr>" (s₄.toks + 1), .str (X.env.qual ++ "<genexpr>") (s₄.toks + 1 + 1)] } }) X.xe { s2 with heap := h3, toks := tk } := by
    rintro code h3 tk ps' hx hsz hP3 ⟨more, rfl⟩ ht4
    obtain ⟨bm, ob, e1, e2, e3, e4, e5, e6, e7, e8⟩ := TB.bm
    refine wpAny_builtinsFor (m := X.mg) (by rw [I2.ok.glob]; exact (I2.mod.glob.keeps I2.bk).extBut hx TB.gP) e1 e2 (hx _ _ e4 (I2.bk _ _ e5)) e6 e7 e8 ?_
    intro h' hns hsb
    have I3 : Inv X pins σ (upd H2 P (.tbl (ps ++ more))) { s2 with heap := h3, toks := tk } := GxR.inv_tab (g' := s2.gens) (d' := s2.drawn) I2 hP (fun b o hb e => hx b o hb e) hP3 I2.bare
    have lt2 : ∀ b ∈ fp, b < s2.heap.objs.size := fun b hb => by
      obtain ⟨o, e, _⟩ := T.obj _ _ st2 b hb
      exact Heap.lt_size e
    have f3 : ∀ b ∈ fp, FpOk X pins (upd H2 P (.tbl (ps ++ more))) b ∧ b < ({ s2 with heap := h3, toks := tk } : Shared).heap.objs.size := fun b hb => by
      refine ⟨⟨?_, (f2 b hb).2⟩, Nat.lt_of_lt_of_le (lt2 b hb) hsz⟩
      rw [upd_ne (nP b (f2 b hb).1)]
      exact (f2 b hb).1
    have st3 : tn 0 h3 := T.keep _ _ _ st2 fun b hb o e => hx b o (nP b (f2 b hb).1) e
    generalize hs4 : ({ s2 with heap := h3, toks := tk } : Shared) = s4 at I3 f3 hns hsb ⊢
    have h4 : s4.heap = h3 := by rw [← hs4]
    have hsz4 : h'.objs.size = s4.heap.objs.size + 1 := by rw [hsb.1, Heap.size_push]
    have keep' : ∀ b o, s4.heap.get? b = some o → h'.get? b = some o := fun b o e => hsb.extBut b o (Nat.ne_of_lt (Heap.lt_size e)) (Heap.get?_push_of_some _ e)
    generalize hgo : ({ cls := .type "generator", data := .fields #[.int s4.gens.size 0, .str "<genexpr>" (s4.toks + 1), .str (X.env.qual ++ "<genexpr>") (s4.toks + 1 + 1)] } : Obj) = go
    have hGO : GenObj go s4.gens.size := by rw [← hgo]; exact ⟨_, _, rfl, rfl, rfl⟩
    have k5 : ∀ b o, s4.heap.get? b = some o → (h'.push go).get? b = some o := fun b o e => Heap.get?_push_of_some _ (keep' b o e)
    have pg := fun A' => hg A' s4 (upd H2 P (.tbl (ps ++ more))) s4.heap.objs.size (cloFrom X.env.cells scope.names []) code fp
    have pt := fun A' => ht A' s4 (upd H2 P (.tbl (ps ++ more))) s4.heap.objs.size (cloFrom X.env.cells scope.names []) code fp
    have pe := fun A' => he A' s4 (upd H2 P (.tbl (ps ++ more))) s4.heap.objs.size (cloFrom X.env.cells scope.names []) code fp
    generalize hce : genEnv scope (cloFrom X.env.cells scope.names []) s4.heap.objs.size code builtinsNs X.env = cenv at pg pt pe ⊢
    have hscn : cenv.scope = scope := by rw [← hce]; rfl
    generalize hA' : A.over (.compLoop (.GeneratorExp elt [⟨tg, iter, ifs, 0⟩] scope gpos) 0 (.ref it) .none cenv) [] = A'
    have hfrA : A'.frames = some (cenv :: X.stack) := by
      rw [← hA']
      show pushEnvs [cenv] A.frames = _
      rw [near.fr, I2.ok.frames]
      rfl
    have hhd : A'.handled = none := by
      rw [← hA']
      show A.handled = none
      rw [near.hd]
      exact hr.hd
    have rm : Room k A' := by
      refine ⟨hhd, ?_, ?_⟩
      · have := hr.dp
        have := near.dp
        rw [← hA']
        show A.depth + 0 + 1 + 3 * k + 5 < _
        omega
      · have := hr.un
        have := near.un
        rw [← hA']
        show A.units + 0 + 3 + 16 * k + 200 < _
        omega
    have gdA : A'.guards = X.A.guards := by
      rw [← hA']
      show pushGuards [] A.guards = _
      rw [near.gd]
      rfl
    have I5 : Inv (gblk X A' s4 (upd H2 P (.tbl (ps ++ more))) cenv fp) [(h'.objs.size, go)] (wipe σ (own.map (·.2))) (upd H2 P (.tbl (ps ++ more)))
        { s4 with gens := s4.gens.push (.fresh (.compStart (.GeneratorExp elt [⟨tg, iter, ifs, 0⟩] scope gpos) 0 (.ref it) .none cenv)), toks := s4.toks + 1 + 1 + 1, heap := h'.push go } := by
      subst hce
      refine gen_start (it := .ref it) I3 ok nocell hN f3 hhd hfrA rfl (I3.bare.push rfl) k5 (hns.push _) fun p hp => ?_
      have e : p = (h'.objs.size, go) := by simpa using hp
      subst e
      refine ⟨by show s4.heap.objs.size < h'.objs.size; omega, Heap.get?_push_size _ (by rw [← hgo]; rfl), fun v z => ?_⟩
      rw [← hgo] at z
      cases z
    refine hQ J H2 _ _ _ q ⟨⟨_, upd_same, ht4⟩, fun b hb => upd_ne hb⟩ ⟨A', s4, _, cenv, fp, h'.objs.size, s4.gens.size, go, tn, _, rfl, hGO, Array.getElem?_push_size .., rfl, I5, ?_, fun b hb => (f3 b hb).1.1, fun b hb => ?_, T.keep, fun cp σ' H' s' I' => ?_, ?_⟩
    · exact T.keep _ _ _ st3 fun b _ o e => k5 b o (by rw [h4]; exact e)
    · have := (f3 b hb).2
      rw [hsz4]
      exact Nat.lt_succ_of_lt this
    · exact I3.call' (ch := fp) I'.os I'.base I'.hok I'.bare fun b hb => ⟨(f3 b hb).1.2.2.2.1, (f3 b hb).1.2.1, (f3 b hb).1.2.2.2.2.1, (f3 b hb).1.2.2.2.2.2⟩
    · intro α AC End Yd W m n a cp s' turn w hmn hAC hac I' st'
      refine ⟨rfl, ?_⟩
      have loop := seg_gx (A := A) (pos := gpos) (iter := iter) (scope := scope) hA' hc (by rw [hscn]; exact hco) T (pg A' rm gdA) (pt A' rm gdA) (pe A' rm gdA) hAC turn m n 0 a _ s' s' cp hmn w hac (fun p hp => (I'.pin p (List.mem_append_right _ hp)).1) I' st' fun b hb => (f3 b hb).1.1
      show Seg _ A _ _ _ s' _ ((compStart (.GeneratorExp elt [⟨tg, iter, ifs, 0⟩] scope gpos) 0 (.ref it) .none cenv).onRaise (leaving cenv)) [] s'
      unfold compStart
      rw [Sem.onRaise_eq_wrap]
      show Seg _ A _ _ _ s' _ ((ask >>= _).wrap _ _ _ _) [] s'
      refine seg_bind_wrap (wpAny_askSetting ?_)
      split
      · exact seg_again rfl loop
      · first
          | exact seg_bind_wrap (wpAny_rule (seg_bind_wrap (wpAny_standAt (seg_bind_wrap (T.self _ 0 s' _ _ st' (seg_again rfl loop))))))
          | (refine seg_bind_wrap (wpAny_rule ?_); show Seg _ A _ _ _ s' _ ((standAt iter.pos >>= _).wrap _ _ _ _) [] s'; exact seg_bind_wrap (wpAny_standAt (seg_bind_wrap (T.self _ 0 s' _ _ st' (seg_again rfl loop)))))
  cases hf : codeAmong gpos ps.toList with
  | none =>
    refine wpAny_genexprCodeX hcode (cd.code hPs ht3) (cd.tab hPs) hf fun c' h' tk hx hge hlt hco' _ htab' _ => ?_
    obtain ⟨o1, vs, f1, tf, fl, tg, inF, tx, tt, op, _, _, _, _, _, _, _, _, _, htr, _⟩ := hco'
    exact cont _ h' tk _ hx (Nat.le_trans hge (Nat.le_of_lt hlt)) htab'.2 ⟨_, rfl⟩ htr
  | some cv =>
    refine wpAny_genexprCode_hit hcode (cd.code hPs ht3) hf ?_
    exact cont cv s2.heap s2.toks ps (Heap.ExtBut.refl _ _) (Nat.le_refl _) hPs ⟨#[], by simp⟩ ht3
end
/-! ### asking -/
section
variable {α : Type} {X : Cx} {A A' : Around} {s_0 : Shared} {H_0 : Hp} {cenv : Env} {fp : List Addr} {tn : Nat → Heap → Prop} {AC : α → List (Addr × Obj) → Prop} {End : α → Hp → Prop} {Yd : α → V → Hp → (α → Hp → Prop) → Prop} {ga : Addr} {gn n : Nat} {go : Obj}
theorem next_gx2 {gs : GenState} {s : Shared} {Q : Option Value → Shared → Prop} {E : Value → Shared → Prop} (hh : A.handled = none) (hroom : A.depth < recursionLimit) (hl : s.heap.NoLimit) (hG : GenObj go gn) (e : s.heap.get? ga = some go) (hgs : s.gens[gn]? = some gs)
    (hgo : gs.Goes (model X.prog X.w) A.in1 (RG (gblk X A' s_0 H_0 cenv fp) AC End) (YG (gblk X A' s_0 H_0 cenv fp) fp tn AC Yd) n (.send .none) (s.setGen gn .running))
    (item : ∀ (a : α) (x : V) (σ : L2.St) (H : Hp) (i : Nat) (cp : List (Addr × Obj)) (Nx : α → Hp → Prop) (v : Value) (s1 : Shared) (gs' : GenState), RelV x v → AC a cp → (∀ p ∈ cp, s.heap.get? p.1 = some p.2) → Inv (gblk X A' s_0 H_0 cenv fp) cp σ H s1 → tn i s1.heap → Yd a x H Nx → s1.gens[gn]? = some gs' →
      (∀ a' cp' s', Nx a' H → AC a' cp' → Inv (gblk X A' s_0 H_0 cenv fp) cp' σ H s' → tn i s'.heap → ∃ m, n = m + 1 ∧ gs'.Goes (model X.prog X.w) A.in1 (RG (gblk X A' s_0 H_0 cenv fp) AC End) (YG (gblk X A' s_0 H_0 cenv fp) fp tn AC Yd) m (.send .none) s') → Q (some v) s1)
    (done : ∀ (a : α) (σ : L2.St) (H : Hp) (cp : List (Addr × Obj)) (s1 : Shared), AC a cp → (∀ p ∈ cp, s.heap.get? p.1 = some p.2) → Inv (gblk X A' s_0 H_0 cenv fp) cp σ H s1 → End a H → Q none s1) :
    wpAny (model X.prog X.w) A (pyNext (.ref ga)) Q E s := by
  have hgl : gn < s.gens.size := (Array.getElem?_eq_some_iff.mp hgs).1
  refine GenW.wpAny_gsz (n := gn + 1) hgl (next_genG (Er := fun _ _ => False) hh hl hroom (hG.isGen e) hgs hgo (fun v s₁ gs' hbare hv => ?_) (fun s₁ hp h' hk => ?_) fun e s₁ he => he.elim)
  · intro hsz
    obtain ⟨a, x, σ, H, i, cp, Nx, r, hac, tie, I, st, nf, hy, kap⟩ := hv
    have hsz1 : gn < s₁.gens.size := by
      have q : (s₁.setGen gn gs').gens.size = s₁.gens.size := GenW.setGen_size _ _ _
      have hsz' : gn + 1 ≤ (s₁.setGen gn gs').gens.size := hsz
      omega
    refine item a x σ H i cp Nx v (s₁.setGen gn gs') gs' r hac tie (inv_moved I rfl (allBare_setGen I.bare hbare) fun _ _ q => q) st hy (setGen_at hsz1) fun a' cp' s' nx hac' I' st' => ?_
    have z := kap a' cp' s' nx hac' I' st'
    cases n with
    | zero => exact z.elim
    | succ m => exact ⟨m, rfl, z⟩
  · intro _
    obtain ⟨a, σ, H, cp, hac, tie, I, q⟩ := hp
    exact done a σ H cp _ hac tie (inv_moved I rfl (allBare_setGen I.bare rfl) hk) q
theorem next_gx {gs : GenState} {s : Shared} {Q : Option Value → Shared → Prop} {E : Value → Shared → Prop} (hh : A.handled = none) (hroom : A.depth < recursionLimit) (hl : s.heap.NoLimit) (hG : GenObj go gn) (e : s.heap.get? ga = some go) (hgs : s.gens[gn]? = some gs)
    (hgo : gs.Goes (model X.prog X.w) A.in1 (RG (gblk X A' s_0 H_0 cenv fp) AC End) (YG (gblk X A' s_0 H_0 cenv fp) fp tn AC Yd) n (.send .none) (s.setGen gn .running))
    (item : ∀ (a : α) (x : V) (σ : L2.St) (H : Hp) (i : Nat) (cp : List (Addr × Obj)) (Nx : α → Hp → Prop) (v : Value) (s1 : Shared) (gs' : GenState), RelV x v → AC a cp → Inv (gblk X A' s_0 H_0 cenv fp) cp σ H s1 → tn i s1.heap → Yd a x H Nx → s1.gens[gn]? = some gs' →
      (∀ a' cp' s', Nx a' H → AC a' cp' → Inv (gblk X A' s_0 H_0 cenv fp) cp' σ H s' → tn i s'.heap → ∃ m, n = m + 1 ∧ gs'.Goes (model X.prog X.w) A.in1 (RG (gblk X A' s_0 H_0 cenv fp) AC End) (YG (gblk X A' s_0 H_0 cenv fp) fp tn AC Yd) m (.send .none) s') → Q (some v) s1)
    (done : ∀ (a : α) (σ : L2.St) (H : Hp) (cp : List (Addr × Obj)) (s1 : Shared), AC a cp → Inv (gblk X A' s_0 H_0 cenv fp) cp σ H s1 → End a H → Q none s1) :
    wpAny (model X.prog X.w) A (pyNext (.ref ga)) Q E s :=
  next_gx2 hh hroom hl hG e hgs hgo (fun a x σ H i cp Nx v s1 gs' r hac _ I st hy at_ kap => item a x σ H i cp Nx v s1 gs' r hac I st hy at_ kap) fun a σ H cp s1 hac _ I q => done a σ H cp s1 hac I q
/-- all(..) asks on -/
theorem all_gx {R : Result → Shared → Prop} {Stop : Hp → Prop} {End : Unit → Hp → Prop} (hh : A.handled = none) (hroom : A.depth < recursionLimit) (hG : GenObj go gn)
    (yes : ∀ (σ : L2.St) (H : Hp) (cp : List (Addr × Obj)) (s1 : Shared), Inv (gblk X A' s_0 H_0 cenv fp) cp σ H s1 → End () H → R (.ok (.ret (.bool true))) s1)
    (no : ∀ (σ : L2.St) (H : Hp) (cp : List (Addr × Obj)) (s1 : Shared), Inv (gblk X A' s_0 H_0 cenv fp) cp σ H s1 → Stop H → R (.ok (.ret (.bool false))) s1) :
    ∀ (n : Nat) (s : Shared), s.heap.NoLimit → s.heap.get? ga = some go → (∃ gs, s.gens[gn]? = some gs ∧ gs.Goes (model X.prog X.w) A.in1.in1 (RG (gblk X A' s_0 H_0 cenv fp) (fun _ cp => cp = [(ga, go)]) End)
      (YG (gblk X A' s_0 H_0 cenv fp) fp tn (fun _ cp => cp = [(ga, go)]) (fun _ y H Nx => ∃ b : Bool, y = .bl b ∧ if b = true then Nx () H else Stop H)) n (.send .none) (s.setGen gn .running)) →
      codeAny (model X.prog X.w) A (.builtin "all.loop" ⟨[.ref ga], []⟩) R s := by
  intro n
  induction n with
  | zero =>
    rintro s hl e ⟨gs, hgs, hgo⟩
    refine codeAny_builtin F.entry_all_loop ?_
    rw [Around.under_plainId F.plain_all_loop _]
    show wpAny _ A.in1 (pyNext (.ref ga) >>= _) _ _ s
    refine wpAny_bind (next_gx (A := A.in1) hh hroom hl hG e hgs hgo (fun a x σ H i cp Nx v s1 gs' r hac I st hy at_ kap => ?_) fun a σ H cp s1 hac I q => ?_)
    · obtain ⟨b, rfl, hb⟩ := hy
      cases (show v = Value.bool b from r)
      refine wpAny_bind (wpAny_holding (wpAny_truthy_bool ?_))
      refine wpAny_bind (wpAny_letGo ?_)
      cases b with
      | true =>
        obtain ⟨m, hm, _⟩ := kap () cp s1 hb hac I st
        cases hm
      | false =>
        simp only [Bool.false_eq_true, if_false] at hb ⊢
        exact wpAny_bind (wpAny_rule (wpAny_pure (no σ H cp s1 I hb)))
    · exact wpAny_bind (wpAny_rule (wpAny_pure (yes σ H cp s1 I q)))
  | succ n ih =>
    rintro s hl e ⟨gs, hgs, hgo⟩
    refine codeAny_builtin F.entry_all_loop ?_
    rw [Around.under_plainId F.plain_all_loop _]
    show wpAny _ A.in1 (pyNext (.ref ga) >>= _) _ _ s
    refine wpAny_bind (next_gx (A := A.in1) hh hroom hl hG e hgs hgo (fun a x σ H i cp Nx v s1 gs' r hac I st hy at_ kap => ?_) fun a σ H cp s1 hac I q => ?_)
    · obtain ⟨b, rfl, hb⟩ := hy
      cases (show v = Value.bool b from r)
      refine wpAny_bind (wpAny_holding (wpAny_truthy_bool ?_))
      refine wpAny_bind (wpAny_letGo ?_)
      cases b with
      | true =>
        simp only [if_true] at hb ⊢
        subst hac
        refine wpAny_pure ⟨plainId_quiet F.plain_all_loop _, ih s1 I.nolimit (I.pin (ga, go) (List.mem_append_right _ List.mem_cons_self)).1 ⟨gs', at_, ?_⟩⟩
        obtain ⟨m, hm, z⟩ := kap () [(ga, go)] (s1.setGen gn .running) hb rfl (inv_moved I rfl (allBare_setGen I.bare rfl) fun _ _ q => q) st
        cases hm
        exact z
      | false =>
        simp only [Bool.false_eq_true, if_false] at hb ⊢
        exact wpAny_bind (wpAny_rule (wpAny_pure (no σ H cp s1 I hb)))
    · exact wpAny_bind (wpAny_rule (wpAny_pure (yes σ H cp s1 I q)))
end
section
variable {X : Cx}
/-- all(elt for tg in iter ..) -/
def tAllX (P : Addr) (wi : TI) (g : TG) (tt : TT) (te : TE) (vs : List Nat) : TE := fun σ H Q => wi σ H fun J H1 => GxR.TabG H1 P ∧ ∀ H2, GxR.Tabbed P H1 H2 → ∃ W : Nat → Nat → Unit → Hp → Prop, (∃ m, W 0 m () H2) ∧
  tGx J g tt te (wipe σ vs) vs (fun _ H => Q (.bl true) H) (fun _ y H Nx => ∃ b : Bool, y = .bl b ∧ if b = true then Nx () H else Q (.bl false) H) W
theorem pe_allX {c P : Addr} {elt tg iter : Expr} {ifs : List Expr} {p pos gpos : Pos} {scope : Scope} {own : List (Str × Nat)} {wi : TI} {g : TG} {tt : TT} {te : TE} {k : Nat}
    (hr : Room (k + 1) X.A) (hc : X.calm = true) (hN : X.N.Nodup) (hgl : Gl X "all") (hm : X.mg "all" = none) (hb : bootBuiltins "all" = some (.builtin "all")) (TB : GxR.TabB X.base X.mg c P) (hcode : X.env.code = .ref c)
    (hco : scope.isCoroutine = false) (hdot : scope.names.lookup (".0" : Str) = some NameKind.local) (nocell : ∀ y ∈ scope.names, y.2 ≠ .cell) (ok : BlkOk X.N X.env.scope scope own) (hi : PI X tg iter wi)
    (hg : ∀ (A' : Around) (s : Shared) (H : Hp) (C : Addr) (cl : List (Str × Addr)) (code : Value) (fp : List Addr), Room k A' → A'.guards = X.A.guards → PG (gblk X A' s H (genEnv scope cl C code builtinsNs X.env) fp) tg g)
    (ht : ∀ (A' : Around) (s : Shared) (H : Hp) (C : Addr) (cl : List (Str × Addr)) (code : Value) (fp : List Addr), Room k A' → A'.guards = X.A.guards → PTs (gblk X A' s H (genEnv scope cl C code builtinsNs X.env) fp) ifs tt)
    (he : ∀ (A' : Around) (s : Shared) (H : Hp) (C : Addr) (cl : List (Str × Addr)) (code : Value) (fp : List Addr), Room k A' → A'.guards = X.A.guards → PE (gblk X A' s H (genEnv scope cl C code builtinsNs X.env) fp) elt te)
    (hs : ∀ v, genFold iter X.env v = pure v)
    (hst : starEach [.GeneratorExp elt [⟨tg, iter, ifs, 0⟩] scope gpos] X.env = (false, eval (.GeneratorExp elt [⟨tg, iter, ifs, 0⟩] scope gpos) X.env) :: starEach [] X.env := by rfl) :
    PE X (.Call (.Name "all" p) [.GeneratorExp elt [⟨tg, iter, ifs, 0⟩] scope gpos] [] pos) (tAllX P wi g tt te (own.map (·.2))) := by
  refine ⟨fun pins s σ H Q I h => ?_⟩
  refine wpAny_Call_Name_kw (ld_blt I hgl hm hb ?_)
  refine PyProof.Rows.callWith_builtin1 ?_ hst (by rfl)
  rw [hst]
  show wpAny _ _ (spliced ((false, eval (.GeneratorExp elt [⟨tg, iter, ifs, 0⟩] scope gpos) X.env) :: backTo pos (starEach [] X.env))) _ _ s
  refine Calls.spliced_cons (gx_make (A := X.A.in1.in1) hr ⟨rfl, rfl, rfl, rfl, (by show X.A.units + 1 + 1 ≤ _; omega)⟩ hc hN TB hcode hco hdot nocell ok hi hg ht he hs I h fun J H1 H2 u s5 hR hT hG => ?_)
  obtain ⟨A', s_0, H_0, cenv, fp, ga, gn, go, tn, gs, rfl, hGO, hgs, hbare, I5, st5, nf, hlt, keep, back, goes⟩ := hG
  obtain ⟨W, ⟨m, w0⟩, turn⟩ := hR H2 hT
  refine Calls.spliced_nil ?_
  have pin5 := (I5.pin (ga, go) (List.mem_append_right _ List.mem_cons_self)).1
  refine call_function_tree F.kind_all F.plain_all F.entry_all (F.args_all1 _) ?_
  unfold Builtin.«all»
  refine wpAny_bind (m := oneArg "all" _) (wpAny_pure ?_)
  refine wpAny_bind (wpAny_pyIter_gen (hGO.isGen pin5) ?_)
  refine wpAny_pure ⟨plainId_quiet F.plain_all_loop _, all_gx (A' := A') (s_0 := s_0) (H_0 := H_0) (cenv := cenv) (fp := fp) (tn := tn) (go := go) (gn := gn) (Stop := fun H => Q (.bl false) H) (End := fun _ H => Q (.bl true) H) hr.hd hr.depth hGO
    (fun σ' H' cp s1 I1 q => ⟨.bl true, H', back _ _ _ _ I1, rfl, q⟩) (fun σ' H' cp s1 I1 q => ⟨.bl false, H', back _ _ _ _ I1, rfl, q⟩) (m + 1) s5 I5.nolimit pin5 ⟨gs, hgs, ?_⟩⟩
  refine goes Unit _ _ _ W m (m + 1) () [(ga, go)] _ turn w0 (Nat.lt_succ_self _) (fun a cp hac p hp b hb z => ?_) rfl (inv_moved I5 rfl (allBare_setGen I5.bare rfl) fun _ _ q => q) st5
  subst hac
  have e : p = (ga, go) := by simpa using hp
  subst e
  exact absurd (hlt b hb) (by rw [← z]; exact Nat.lt_irrefl _)
end
/-! ### tuple(..) -/
section
variable {X : Cx} {A A' : Around} {s_0 : Shared} {H_0 : Hp} {cenv : Env} {fp : List Addr} {tn : Nat → Heap → Prop} {ga S : Addr} {gn n : Nat} {go : Obj}
/-- the asker's list S holds what is out -/
def ACl (ga : Addr) (go : Obj) (S : Addr) (ys : List V) (cp : List (Addr × Obj)) : Prop := ∃ (acc : Array Value) (c : Nat), cp = [(ga, go), (S, lstObj acc c)] ∧ Vals ys acc.toList
def YdL (ys : List V) (y : V) (H : Hp) (Nx : List V → Hp → Prop) : Prop := ys.length < sizeLine ∧ Nx (ys ++ [y]) H
theorem ext_gx {R : Result → Shared → Prop} {End : List V → Hp → Prop} {res : Value} (hh : A.handled = none) (hroom : A.depth < recursionLimit) (hG : GenObj go gn) (hSa : S ≠ ga) (far : (gblk X A' s_0 H_0 cenv fp).s_0.heap.objs.size ≤ S) (hSc : ∀ x c, cenv.cells.lookup x = some c → c ≠ S)
    (keep : ∀ i h h', tn i h → (∀ b ∈ fp, ∀ o, h.get? b = some o → h'.get? b = some o) → tn i h') (hSf : ∀ b ∈ fp, b ≠ S)
    (yes : ∀ (σ : L2.St) (H : Hp) (ys : List V) (acc : Array Value) (c : Nat) (s1 : Shared), Inv (gblk X A' s_0 H_0 cenv fp) [(ga, go), (S, lstObj acc c)] σ H s1 → Vals ys acc.toList → End ys H → R (.ok (.ret res)) s1) :
    ∀ (n : Nat) (s : Shared), s.heap.NoLimit → s.heap.get? ga = some go → (∃ gs, s.gens[gn]? = some gs ∧ gs.Goes (model X.prog X.w) A.in1.in1 (RG (gblk X A' s_0 H_0 cenv fp) (ACl ga go S) End)
      (YG (gblk X A' s_0 H_0 cenv fp) fp tn (ACl ga go S) YdL) n (.send .none) (s.setGen gn .running)) →
      codeAny (model X.prog X.w) A (.builtin "list.extend.loop" ⟨[.ref S, .ref ga, res], []⟩) R s := by
  intro n
  induction n with
  | zero =>
    rintro s hl e ⟨gs, hgs, hgo⟩
    refine codeAny_builtin F.entry_extend_loop ?_
    rw [Around.under_plainId F.plain_extend_loop _]
    show wpAny _ A.in1 (pyNext (.ref ga) >>= _) _ _ s
    refine wpAny_bind (next_gx (A := A.in1) hh hroom hl hG e hgs hgo (fun ys x σ H i cp Nx v s1 gs' r hac I st hy at_ kap => ?_) fun ys σ H cp s1 hac I q => ?_)
    · obtain ⟨acc, c, rfl, rv⟩ := hac
      have pS := I.pin (S, lstObj acc c) (List.mem_append_right _ (List.mem_cons_of_mem _ List.mem_cons_self))
      have I0 : Inv (gblk X A' s_0 H_0 cenv fp) [(ga, go)] σ H s1 := I.pins_of fun p hp => I.pin p (List.mem_append_right _ (by rw [List.mem_singleton.mp hp]; exact List.mem_cons_self))
      have I1 := I0.turned (t' := s1.toks) (h' := s1.heap.update S (Obj.mapSeq (·.push v))) (it := S) (fun b o hb q => (Heap.get?_update_other _ _ (Ne.symm hb)).trans q) pS.2.1 pS.2.2.1 (.inr far) hSc (fun p hp => by rw [List.mem_singleton.mp (show p ∈ [(ga, go)] by simpa using hp)]; exact Ne.symm hSa)
      have e2 := Heap.get?_update_self (Obj.mapSeq (·.push v)) pS.1 rfl
      obtain ⟨m, hm, _⟩ := kap (ys ++ [x]) [(ga, go), (S, _)] _ hy.2 ⟨acc.push v, _, rfl, by rw [Array.toList_push]; exact rv.append (.cons r .nil)⟩ (I1.pins_of fun p hp => by
        rcases List.mem_cons.mp hp with z | z
        · rw [z]; exact I1.pin (ga, go) (List.mem_append_right _ List.mem_cons_self)
        · rw [List.mem_singleton.mp z]; exact ⟨e2, pS.2.1, pS.2.2.1, pS.2.2.2.1, fun v q => by cases q⟩) (keep _ _ _ st fun b hb o q => (Heap.get?_update_other _ _ (Ne.symm (hSf b hb))).trans q)
      cases hm
    · obtain ⟨acc, c, rfl, rv⟩ := hac
      exact wpAny_pure (yes σ H ys acc c s1 I rv q)
  | succ n ih =>
    rintro s hl e ⟨gs, hgs, hgo⟩
    refine codeAny_builtin F.entry_extend_loop ?_
    rw [Around.under_plainId F.plain_extend_loop _]
    show wpAny _ A.in1 (pyNext (.ref ga) >>= _) _ _ s
    refine wpAny_bind (next_gx (A := A.in1) hh hroom hl hG e hgs hgo (fun ys x σ H i cp Nx v s1 gs' r hac I st hy at_ kap => ?_) fun ys σ H cp s1 hac I q => ?_)
    · obtain ⟨acc, c, rfl, rv⟩ := hac
      have pS := I.pin (S, lstObj acc c) (List.mem_append_right _ (List.mem_cons_of_mem _ List.mem_cons_self))
      have I0 : Inv (gblk X A' s_0 H_0 cenv fp) [(ga, go)] σ H s1 := I.pins_of fun p hp => I.pin p (List.mem_append_right _ (by rw [List.mem_singleton.mp hp]; exact List.mem_cons_self))
      have I1 := I0.turned (t' := s1.toks) (h' := s1.heap.update S (Obj.mapSeq (·.push v))) (it := S) (fun b o hb q => (Heap.get?_update_other _ _ (Ne.symm hb)).trans q) pS.2.1 pS.2.2.1 (.inr far) hSc (fun p hp => by rw [List.mem_singleton.mp (show p ∈ [(ga, go)] by simpa using hp)]; exact Ne.symm hSa)
      have e2 := Heap.get?_update_self (Obj.mapSeq (·.push v)) pS.1 rfl
      have hln := rv.length
      have hlt : acc.size < sizeLine := by
        have := hy.1
        rw [hln] at this
        simpa using this
      have pG := I1.pin (ga, go) (List.mem_append_right _ List.mem_cons_self)
      show wpAny _ A.in1 (updateSeq S (·.push v) >>= _) _ _ _
      refine wpAny_bind ?_
      refine wpAny_updateSeq pS.1 rfl (wpAny_pure ⟨plainId_quiet F.plain_extend_loop _, ih _ I1.nolimit pG.1 ⟨gs', at_, ?_⟩⟩) (Nat.le_of_lt hlt) (by show (acc.push v).size ≤ sizeLine + 1; rw [Array.size_push]; omega)
      obtain ⟨m, hm, z⟩ := kap (ys ++ [x]) [(ga, go), (S, _)] (({ s1 with heap := s1.heap.update S (Obj.mapSeq (·.push v)) } : Shared).setGen gn .running) hy.2 ⟨acc.push v, _, rfl, by rw [Array.toList_push]; exact rv.append (.cons r .nil)⟩ (inv_moved (I1.pins_of fun p hp => by
        rcases List.mem_cons.mp hp with z | z
        · rw [z]; exact pG
        · rw [List.mem_singleton.mp z]; exact ⟨e2, pS.2.1, pS.2.2.1, pS.2.2.2.1, fun v q => by cases q⟩) rfl (allBare_setGen (s := { s1 with heap := s1.heap.update S (Obj.mapSeq (·.push v)) }) I1.bare rfl) fun _ _ q => q) (keep _ _ _ st fun b hb o q => (Heap.get?_update_other _ _ (Ne.symm (hSf b hb))).trans q)
      cases hm
      exact z
    · obtain ⟨acc, c, rfl, rv⟩ := hac
      exact wpAny_pure (yes σ H ys acc c s1 I rv q)
end
section
variable {X : Cx} {pins : List (Addr × Obj)} {σ : L2.St} {s5 : Shared} {J : It} {g : TG} {tt : TT} {te : TE} {vs : List Nat} {H4 : Hp} {u : Value}
/-- all that a generator hands out, in a list of the asker's own -/
theorem collect_gx {A : Around} {E : Value → Shared → Prop} {Q : List Value → Shared → Prop} {End : List V → Hp → Prop} {W : Nat → Nat → List V → Hp → Prop} {m : Nat} (hh : A.handled = none) (hroom : A.depth < recursionLimit) (G : Gx X pins σ A.in1.in1 J g tt te vs H4 u s5)
    (w0 : W 0 m [] H4) (turn : tGx J g tt te (wipe σ vs) vs End YdL W)
    (hQ : ∀ (s' : Shared) (acc : Array Value) (ys : List V) (H' : Hp), Inv X pins σ H' s' → Vals ys acc.toList → End ys H' → Q acc.toList s') : wpAny (model X.prog X.w) A (collect u) Q E s5 := by
  obtain ⟨A', s_0, H_0, cenv, fp, ga, gn, go, tn, gs, rfl, hGO, hgs, hbare, I5, st5, nf, hlt, keep, back, goes⟩ := G
  have pin5 := I5.pin (ga, go) (List.mem_append_right _ List.mem_cons_self)
  have glt : ga < s5.heap.objs.size := Heap.lt_size pin5.1
  have hSI : s5.heap.objs.size ≠ ga := Nat.ne_of_gt glt
  unfold collect
  refine wpAny_bind (wpAny_runValue (codeAny_builtin F.entry_proto_collect ?_))
  rw [Around.under_plainId F.plain_proto_collect _]
  show wpAny _ A.in1 (newList [] >>= fun l => again (.builtin "list.__iadd__" ⟨[l, .ref ga], []⟩)) _ _ s5
  refine wpAny_bind (wpAny_newObj_type ?_)
  refine wpAny_pure ⟨plainId_quiet F.plain_list_iadd _, codeAny_builtin F.entry_list_iadd ?_⟩
  rw [Around.under_plainId F.plain_list_iadd _]
  show wpAny _ A.in1 (Builtin.List.listExtendWith (.ref s5.heap.objs.size) (.ref ga) (.ref s5.heap.objs.size)) _ _ _
  unfold Builtin.List.listExtendWith
  have k1 : ∀ b o, s5.heap.get? b = some o → (s5.heap.push { cls := .type "list", data := .seq ([] : List Value).toArray }).get? b = some o := fun b o e => Heap.get?_push_of_some _ e
  have hT : Shared.TypeIs { s5 with heap := s5.heap.push { cls := .type "list", data := .seq ([] : List Value).toArray } } (.ref ga) "generator" := Heap.IsGen.typeIs (s := { s5 with heap := _ }) (hGO.isGen (k1 _ _ pin5.1))
  refine wpAny_bind (wpAny_typeOf hT ?_)
  have h1 : Builtin.List.listSameRef (.ref s5.heap.objs.size) (.ref ga) = false := by simp [Builtin.List.listSameRef, hSI]
  have h2 : (Value.type "generator" == Value.type "list") = false := by decide
  have h3 : (Value.type "generator" == Value.type "tuple") = false := by decide
  simp only [h1, h2, h3, Bool.or_false, Bool.false_eq_true, if_false]
  refine wpAny_bind (wpAny_pyIter_gen (s := { s5 with heap := _ }) (hGO.isGen (k1 _ _ pin5.1)) ?_)
  refine wpAny_bind (wpAny_holding ?_)
  unfold Builtin.List.listLengthHint
  refine wpAny_bind (wpAny_specialOf hT F.gen_no_len ?_)
  show wpAny _ A.in1 (specialOf (Value.ref ga) (Str.ofString "__length_hint__") >>= _) _ _ _
  refine wpAny_bind (wpAny_specialOf hT F.gen_no_hint ?_)
  refine wpAny_pure ?_
  show wpAny _ A.in1 (rule "list.extend.makes-room" >>= fun _ => Builtin.List.listTouch (.ref s5.heap.objs.size) >>= fun _ =>
    again (.builtin "list.extend.loop" ⟨[.ref s5.heap.objs.size, .ref ga, .ref s5.heap.objs.size], []⟩)) _ _ _
  refine wpAny_bind (wpAny_rule ?_)
  have hS₁ : (s5.heap.push { cls := .type "list", data := .seq ([] : List Value).toArray }).get? s5.heap.objs.size = some { cls := .type "list", data := .seq ([] : List Value).toArray } := Heap.get?_push_size _ rfl
  refine wpAny_bind ?_
  show wpAny _ A.in1 (updateSeq s5.heap.objs.size (·.push .none) >>= fun _ => updateSeq s5.heap.objs.size (·.pop)) _ _ _
  refine wpAny_bind (wpAny_updateSeq hS₁ rfl ?_)
  have hS₂ := Heap.get?_update_self (Obj.mapSeq (·.push Value.none)) hS₁ rfl
  refine wpAny_updateSeq hS₂ rfl ?_
  have hS₃ := Heap.get?_update_self (Obj.mapSeq (·.pop)) hS₂ rfl
  obtain ⟨c3, hS₄⟩ : ∃ c, (((s5.heap.push { cls := .type "list", data := .seq ([] : List Value).toArray }).update s5.heap.objs.size (Obj.mapSeq (·.push Value.none))).update s5.heap.objs.size (Obj.mapSeq (·.pop))).get? s5.heap.objs.size = some (lstObj #[] c) := ⟨_, hS₃⟩
  have k3 : ∀ b o, s5.heap.get? b = some o → (((s5.heap.push { cls := .type "list", data := .seq ([] : List Value).toArray }).update s5.heap.objs.size (Obj.mapSeq (·.push Value.none))).update s5.heap.objs.size (Obj.mapSeq (·.pop))).get? b = some o :=
    fun b o e => (Heap.get?_update_other _ _ (Ne.symm (Nat.ne_of_lt (Heap.lt_size e)))).trans ((Heap.get?_update_other _ _ (Ne.symm (Nat.ne_of_lt (Heap.lt_size e)))).trans (k1 b o e))
  have fS : FpOk (gblk X A' s_0 H_0 cenv fp) [(ga, go)] H4 s5.heap.objs.size := I5.fpOk (Nat.le_refl _) (I5.hok.fresh (Nat.le_refl _))
  have hfS : ∀ b ∈ fp, b ≠ s5.heap.objs.size := fun b hb => Nat.ne_of_lt (Nat.lt_trans (hlt b hb) glt)
  have I6 := inv_moved (s' := { s5 with heap := ((s5.heap.push { cls := .type "list", data := .seq ([] : List Value).toArray }).update s5.heap.objs.size (Obj.mapSeq (·.push Value.none))).update s5.heap.objs.size (Obj.mapSeq (·.pop)) }) I5 rfl I5.bare k3
  refine wpAny_pure ⟨plainId_quiet F.plain_extend_loop _, ext_gx (A := A) (A' := A') (s_0 := s_0) (H_0 := H_0) (cenv := cenv) (fp := fp) (tn := tn) (go := go) (gn := gn) (End := End) hh hroom hGO hSI ?_ fS.2.2.2.2.1 keep hfS
    (fun σ' H' ys acc c s1 I1 rv q => ?_) (m + 1) _ I6.nolimit (k3 _ _ pin5.1) ⟨gs, hgs, ?_⟩⟩
  · exact Nat.le_trans I5.sz (Nat.le_refl _)
  · show wpAny _ A (load s5.heap.objs.size >>= _) _ _ s1
    have pS := (I1.pin (s5.heap.objs.size, lstObj acc c) (List.mem_append_right _ (List.mem_cons_of_mem _ List.mem_cons_self))).1
    refine wpAny_bind (wpAny_load pS ?_)
    exact wpAny_pure (hQ s1 acc ys H' (back _ _ _ _ I1) rv q)
  · refine goes (List V) (ACl ga go s5.heap.objs.size) End YdL W m (m + 1) [] [(ga, go), (s5.heap.objs.size, lstObj #[] c3)] _ turn w0 (Nat.lt_succ_self _) (fun ys cp hac p hp b hb z => ?_) ⟨#[], c3, rfl, .nil⟩
      (inv_moved (I6.pins_of fun p hp => ?_) rfl (allBare_setGen (s := { s5 with heap := _ }) I5.bare rfl) fun _ _ q => q) (keep _ _ _ st5 fun b hb o q => k3 b o q)
    · obtain ⟨acc, c, rfl, _⟩ := hac
      rcases List.mem_cons.mp hp with e | e
      · rw [e] at z
        exact absurd (hlt b hb) (by rw [← z]; exact Nat.lt_irrefl _)
      · rw [List.mem_singleton.mp e] at z
        exact hfS b hb z.symm
    · rcases List.mem_cons.mp hp with e | e
      · rw [e]
        exact I6.pin (ga, go) (List.mem_append_right _ List.mem_cons_self)
      · rw [List.mem_singleton.mp e]
        exact ⟨hS₄, fS.1, fS.2.1, fS.2.2.1, fun v q => by cases q⟩
end
section
variable {X : Cx}
/-- tuple(elt for tg in iter ..) -/
def tTupX (P : Addr) (wi : TI) (g : TG) (tt : TT) (te : TE) (vs : List Nat) : TE := fun σ H Q => wi σ H fun J H1 => GxR.TabG H1 P ∧ ∀ H2, GxR.Tabbed P H1 H2 → ∃ W : Nat → Nat → List V → Hp → Prop, (∃ m, W 0 m [] H2) ∧
  tGx J g tt te (wipe σ vs) vs (fun ys H => ys.length ≤ sizeLine ∧ ∀ p, H p = none → Q (.ref p) (upd H p (.tup ys))) YdL W
theorem pe_tupX {c P : Addr} {elt tg iter : Expr} {ifs : List Expr} {p pos gpos : Pos} {scope : Scope} {own : List (Str × Nat)} {wi : TI} {g : TG} {tt : TT} {te : TE} {k : Nat}
    (hr : Room (k + 1) X.A) (hc : X.calm = true) (hN : X.N.Nodup) (hgl : Gl X "tuple") (hm : X.mg "tuple" = none) (hb : bootBuiltins "tuple" = some (.type "tuple")) (TB : GxR.TabB X.base X.mg c P) (hcode : X.env.code = .ref c)
    (hco : scope.isCoroutine = false) (hdot : scope.names.lookup (".0" : Str) = some NameKind.local) (nocell : ∀ y ∈ scope.names, y.2 ≠ .cell) (ok : BlkOk X.N X.env.scope scope own) (hi : PI X tg iter wi)
    (hg : ∀ (A' : Around) (s : Shared) (H : Hp) (C : Addr) (cl : List (Str × Addr)) (code : Value) (fp : List Addr), Room k A' → A'.guards = X.A.guards → PG (gblk X A' s H (genEnv scope cl C code builtinsNs X.env) fp) tg g)
    (ht : ∀ (A' : Around) (s : Shared) (H : Hp) (C : Addr) (cl : List (Str × Addr)) (code : Value) (fp : List Addr), Room k A' → A'.guards = X.A.guards → PTs (gblk X A' s H (genEnv scope cl C code builtinsNs X.env) fp) ifs tt)
    (he : ∀ (A' : Around) (s : Shared) (H : Hp) (C : Addr) (cl : List (Str × Addr)) (code : Value) (fp : List Addr), Room k A' → A'.guards = X.A.guards → PE (gblk X A' s H (genEnv scope cl C code builtinsNs X.env) fp) elt te)
    (hs : ∀ v, genFold iter X.env v = pure v)
    (hst : starEach [.GeneratorExp elt [⟨tg, iter, ifs, 0⟩] scope gpos] X.env = (false, eval (.GeneratorExp elt [⟨tg, iter, ifs, 0⟩] scope gpos) X.env) :: starEach [] X.env := by rfl) :
    PE X (.Call (.Name "tuple" p) [.GeneratorExp elt [⟨tg, iter, ifs, 0⟩] scope gpos] [] pos) (tTupX P wi g tt te (own.map (·.2))) := by
  refine ⟨fun pins s σ H Q I h => ?_⟩
  refine wpAny_Call_Name_kw (ld_blt I hgl hm hb ?_)
  refine PyProof.Rows.callWith_type1 ?_ hst (by rfl)
  rw [hst]
  show wpAny _ _ (spliced ((false, eval (.GeneratorExp elt [⟨tg, iter, ifs, 0⟩] scope gpos) X.env) :: backTo pos (starEach [] X.env))) _ _ s
  refine Calls.spliced_cons (gx_make (A := X.A.in1.in1.in1.in1) hr ⟨rfl, rfl, rfl, rfl, (by show X.A.units + 1 + 1 + 1 + 1 ≤ _; omega)⟩ hc hN TB hcode hco hdot nocell ok hi hg ht he hs I h fun J H1 H2 u s5 hR hT hG => ?_)
  obtain ⟨W, ⟨m, w0⟩, turn⟩ := hR H2 hT
  refine Calls.spliced_nil ?_
  have ⟨A', s_0, H_0, cenv, fp, ga, gn, go, tn, gs, eu, hGO, hgs, hbare, I5, st5, nf, hlt, keep, back, goes⟩ := hG
  have pin5 := (I5.pin (ga, go) (List.mem_append_right _ List.mem_cons_self)).1
  rw [eu] at hG ⊢
  refine callType_codes (Q₁ := fun obj s₁ => s₁.TypeIs obj "tuple" ∧ EP X pins σ Q obj s₁) F.called_tuple (F.typeCall_tuple_1 _) F.entry_object_init ?_ fun obj s₁ h₁ =>
    ⟨h₁.1, F.args_object_init_2 obj _, object_init_meets F.called_tuple.init.lookup F.called_tuple.made (by decide) X.prog X.w X.A.in1 _ s₁ ⟨h₁.1, rfl, h₁.2⟩⟩
  refine codeAny_of_tree ?_
  show wpAny _ X.A.in1.in1 (do checkBuiltinCall "tuple.__new__" ⟨[.type "tuple", .ref ga], []⟩; again (.builtin "tuple.__new__" ⟨[.type "tuple", .ref ga], []⟩)) _ _ s5
  refine wpAny_bind (wpAny_of_eq (F.newCall_tuple_1 _) (wpAny_pure ⟨plainId_quiet F.plain_tuple_new _, codeAny_builtin F.entry_tuple_new ?_⟩))
  rw [Around.under_plainId F.plain_tuple_new _]
  have hsub := sub_tuple_self
  have hinit := init_tuple_lookup
  have hmh := madeHere_tuple
  have hTI : s5.TypeIs (.ref ga) "generator" := (hGO.isGen pin5).typeIs
  have col : ∀ {Q0 : List Value → Shared → Prop} {E0 : Value → Shared → Prop}, (∀ (s' : Shared) (acc : Array Value), (∃ (ys : List V) (H' : Hp), Inv X pins σ H' s' ∧ Vals ys acc.toList ∧ ys.length ≤ sizeLine ∧ ∀ p, H' p = none → Q (.ref p) (upd H' p (.tup ys))) → Q0 acc.toList s') →
      wpAny (model X.prog X.w) X.A.in1.in1 (collect (.ref ga)) Q0 E0 s5 := fun hq => collect_gx hr.hd hr.depth hG w0 turn (fun s' acc ys H' I' rv q => hq s' acc ⟨ys, H', I', rv, q.1, q.2⟩)
  wp_walk using wpAny_typeOf hTI, col
  rintro s' acc ⟨ys, H', I', rv, small, q⟩
  show wpAny _ _ (Builtin.Tuple.tupleExact acc.toList.toArray >>= fun v => ret v) _ _ _
  unfold Builtin.Tuple.tupleExact
  refine wpAny_bind (wpAny_newObj_type ?_ (by show acc.toList.toArray.size ≤ sizeLine; rw [List.size_toArray, ← rv.length]; exact small))
  refine wpAny_pure ?_
  have free : H' s'.heap.objs.size = none := I'.hok.fresh (Nat.le_refl _)
  refine ⟨⟨_, Heap.get?_push_size _ rfl, rfl⟩, .ref s'.heap.objs.size, upd H' s'.heap.objs.size (.tup ys), I'.laid (t' := s'.toks) (fun b u z => Heap.get?_push_of_some _ z) (Nat.le_refl _) ⟨small, acc.toList, rv, ?_⟩, rfl, q _ free⟩
  exact ⟨_, Heap.get?_push_size _ rfl, rfl, 0, rfl⟩
end
/-! ### a def by its body, its code object known -/
theorem okC {P : Program} {w : World} {K : PySem.W.Frag} {mg : Str → Option Value} {base : Heap} {x qual : Str} {st : Stmt} {f : Addr} {fd : FuncData} {N ps : List Str} {k : Nat} {sp : Sp} (F : Fun K x qual st f fd) (S : FnScope N ps (defScope st)) (len : ∀ vs H Q E, sp vs H Q E → vs.length = ps.length)
    (body : ∀ (A : Around) (outer : List Env) (s : Shared) (H : Hp) (vs : List V) (Q : VK) (E : XK), Room k (A.deeper (envOfC qual (defScope st) s.heap.objs.size f fd.code)) → sp vs H Q E →
      ∃ t, PSs (cxOf CX0 P w K mg base N qual (defScope st) f fd.code A outer s H E).nox (defBody st) t ∧ t { nx := fun _ H' => Q .non H', rt := Q } (start N vs) H) : FnOk P w K mg base CX0 (k + 1) f fd ps sp := by
  obtain ⟨oc, od, kV, doc, pm, an, cdv, ct, osl, rfl, lk, hcd⟩ := F.ex
  refine fn_of lk hcd S len fun A outer s H vs Q E hr hsp => ?_
  obtain ⟨t, h, q⟩ := body A outer s H vs Q E hr hsp
  exact ⟨t, h.nox, q⟩
/-! ### from the head's facts -/
theorem fun_of {K : PySem.W.Frag} {x qual : Str} {st : Stmt} {f : Addr} {fd : FuncData} (F : FunD K x qual (defArgs st) (defBody st) (defScope st) [] [] f fd) : Fun K x qual st f fd := by
  obtain ⟨oc, od, dV, kV, doc, pm, an, cdv, ct, osl, rfl, lk, hcd, hd, _⟩ := F.ex
  rcases hd with ⟨_, rfl⟩ | ⟨z, _⟩
  · exact ⟨⟨oc, od, kV, doc, pm, an, cdv, ct, osl, rfl, lk, hcd⟩, F.kp⟩
  · exact absurd rfl z
theorem code_of {K : PySem.W.Frag} {x qual : Str} {st : Stmt} {p : He.Defn} {fd : FuncData} (F : Fun K x qual st (He.fAd K p) fd) : fd.code = .ref (He.cT K p).1 := by
  obtain ⟨oc, od, kV, doc, pm, an, cdv, ct, osl, rfl, lk, hcd⟩ := F.ex
  obtain ⟨c, rfl⟩ := He.codeIn_ref hcd
  show Value.ref c = Value.ref (He.codeOf K p)
  rw [He.codeOf_eq lk rfl]
theorem tab_of {base : Heap} {mg : Str → Option Value} {c P : Addr} (h : LamX.TabB base mg c P) : GxR.TabB base mg c P := ⟨h.code, h.bm, h.gP⟩
/-! ### heaps whose tables grow -/
def Tabs (H : Hp) (Ps : List Addr) : Prop := ∀ P ∈ Ps, GxR.TabG H P
/-- what is no table stays; tables stay tables -/
def Gr (H H' : Hp) : Prop := (∀ b o, (∀ ps, o ≠ HO.tbl ps) → H b = some o → H' b = some o) ∧ ∀ b, GxR.TabG H b → GxR.TabG H' b
theorem Gr.refl {H : Hp} : Gr H H := ⟨fun _ _ _ e => e, fun _ e => e⟩
theorem Gr.trans {H H1 H2 : Hp} (a : Gr H H1) (b : Gr H1 H2) : Gr H H2 := ⟨fun c o n e => b.1 c o n (a.1 c o n e), fun c e => b.2 c (a.2 c e)⟩
theorem Gr.of {H H' : Hp} (h : ∀ b o, H b = some o → H' b = some o) : Gr H H' := ⟨fun b o _ e => h b o e, fun b ⟨ps, e, t⟩ => ⟨ps, h _ _ e, t⟩⟩
theorem Gr.tab {P : Addr} {H H' : Hp} (t : GxR.TabG H P) (h : GxR.Tabbed P H H') : Gr H H' := by
  obtain ⟨ps, e, _⟩ := t
  refine ⟨fun b o n q => ?_, fun b q => ?_⟩
  · by_cases hb : b = P
    · rw [hb, e] at q
      exact absurd (Option.some.inj q).symm (n ps)
    · rw [h.2 b hb]; exact q
  · by_cases hb : b = P
    · rw [hb]; exact h.1
    · obtain ⟨ps', e', t'⟩ := q
      exact ⟨ps', by rw [h.2 b hb]; exact e', t'⟩
theorem Gr.tup {H H' : Hp} (g : Gr H H') {a : Addr} {xs : List V} (h : H a = some (.tup xs)) : H' a = some (.tup xs) := g.1 a _ (fun _ z => by cases z) h
theorem Gr.lst {H H' : Hp} (g : Gr H H') {a : Addr} {xs : List V} (h : H a = some (.lst xs)) : H' a = some (.lst xs) := g.1 a _ (fun _ z => by cases z) h
theorem Gr.tabs {H H' : Hp} (g : Gr H H') {Ps : List Addr} (h : Tabs H Ps) : Tabs H' Ps := fun P hP => g.2 P (h P hP)
theorem Gr.none {H : Hp} {a : Addr} {o : HO} (n : H a = Option.none) : Gr H (upd H a o) := Gr.of fun b u e => by
  rw [upd_ne (ne_of_none e n)]
  exact e
namespace CwR
/-- behind it a token is out -/
def PEp (X : Cx) (e : Expr) (t : TE) : Prop := ∀ (pins : List (Addr × Obj)) (s : Shared) (σ : L2.St) (H : Hp) (Q : VK), Inv X pins σ H s → t σ H Q → wpAny (model X.prog X.w) X.A (eval e X.env) (fun u s' => 1 ≤ s'.toks ∧ EP X pins σ Q u s') X.xe s
theorem pep_ix {X : Cx} {a : Expr} {i : Int} {j : Nat} {p pos : Pos} {ta : TE} {r : R2} (hr : IxR X r) (ha : PE X a ta) (hs : PlainIx (.Constant (.int i) j p)) : PEp X (.Subscript a (.Constant (.int i) j p) pos) (tOp r ta (tC (.int i))) := by
  intro pins s σ H Q I h
  refine Subscript_ (thn (ha.run pins s σ H _ I h) fun v s1 ⟨x, H1, I1, r1, q1⟩ => wpAny_Constant_int ?_)
  refine wpAny_mono (PySem.wpAny_toks (hr a _ pins { s1 with toks := s1.toks + 1 } σ H1 x (.int i) v (.int i s1.toks) Q (I1.tok _) r1 ⟨_, rfl⟩ q1 (hs _ _))) (fun u s2 q => ⟨?_, q.2⟩) fun _ _ z => z.2
  have h1 : s1.toks + 1 ≤ s2.toks := q.1
  omega
theorem pep_repl {X : Cx} {o : Expr} {to : TE} {y z : Str} {j k : Nat} {c0 c1 apos pos : Pos} (ho : PEp X o to) (hyz : (y == z) = false := by decide)
    (hst : starEach [.Constant (.str y) j c0, .Constant (.str z) k c1] X.env = [(false, eval (.Constant (.str y) j c0) X.env), (false, eval (.Constant (.str z) k c1) X.env)] := by rfl)
    (hbase : attributeBase o "replace" X.env (eval o X.env) = eval o X.env := by rfl) (hline : (apos.endLine == pos.line) = true := by rfl) :
    PEp X (.Call (.Attribute o "replace" apos) [.Constant (.str y) j c0, .Constant (.str z) k c1] [] pos) (CwR.tReplC to y z) := by
  intro pins s σ H Q I h
  refine PySem.Call_method2 hbase hst hline (wpAny_mono (ho pins s σ H _ I h) (fun v s1 q => ?_) fun _ _ z => z)
  obtain ⟨hk, v', H1, I1, r1, x, e1, hb, q⟩ := q
  subst e1
  obtain ⟨tx, e2⟩ := r1
  subst e2
  refine ⟨"str", _, PySem.F.plainAttrs_str, PySem.F.slot_str_replace, PySem.F.type_str_replace, typeIs_str _ _ _, (fun _ e => nomatch e), Calls.callWith_builtin rfl (Calls.evalArgs_plain (Calls.spliced_cons ?_))⟩
  refine Calls.Constant_str (Calls.spliced_cons (Calls.Constant_str (Calls.spliced_nil ?_)))
  refine wpAny_mono (PySem.wpAny_toks (PySem.SC.replace (Q := fun u s' => EP X pins σ Q u s') (by show s1.toks ≠ 0; omega) (by show s1.toks + 1 ≠ 0; omega) (by show s1.toks ≠ s1.toks + 1; omega) hyz hb fun t' k => ⟨.str (Txt.replace x y z), H1, I1.tok k, ⟨t', rfl⟩, q⟩)) (fun u s2 q => ⟨?_, q.2⟩) fun _ _ z => z.2
  have h1 : s1.toks + 1 + 1 ≤ s2.toks := q.1
  omega
theorem pe_replP {X : Cx} {e : Expr} {t : TE} (h : PEp X e t) : PE X e t := ⟨fun pins s σ H Q I q => wpAny_mono (h pins s σ H Q I q) (fun _ _ z => z.2) fun _ _ z => z⟩
end CwR

/-! ### any(..) -/
section
variable {α : Type} {X : Cx} {A A' : Around} {s_0 : Shared} {H_0 : Hp} {cenv : Env} {fp : List Addr} {tn : Nat → Heap → Prop} {AC : α → List (Addr × Obj) → Prop} {End : α → Hp → Prop} {Yd : α → V → Hp → (α → Hp → Prop) → Prop} {ga : Addr} {gn n : Nat} {go : Obj}
/-- any(..) asks on -/
theorem any_gx {R : Result → Shared → Prop} {Stop : Hp → Prop} {End : Unit → Hp → Prop} (hh : A.handled = none) (hroom : A.depth < recursionLimit) (hG : GenObj go gn)
    (yes : ∀ (σ : L2.St) (H : Hp) (cp : List (Addr × Obj)) (s1 : Shared), Inv (gblk X A' s_0 H_0 cenv fp) cp σ H s1 → End () H → R (.ok (.ret (.bool false))) s1)
    (no : ∀ (σ : L2.St) (H : Hp) (cp : List (Addr × Obj)) (s1 : Shared), Inv (gblk X A' s_0 H_0 cenv fp) cp σ H s1 → Stop H → R (.ok (.ret (.bool true))) s1) :
    ∀ (n : Nat) (s : Shared), s.heap.NoLimit → s.heap.get? ga = some go → (∃ gs, s.gens[gn]? = some gs ∧ gs.Goes (model X.prog X.w) A.in1.in1 (RG (gblk X A' s_0 H_0 cenv fp) (fun _ cp => cp = [(ga, go)]) End)
      (YG (gblk X A' s_0 H_0 cenv fp) fp tn (fun _ cp => cp = [(ga, go)]) (fun _ y H Nx => ∃ b : Bool, y = .bl b ∧ if b = true then Stop H else Nx () H)) n (.send .none) (s.setGen gn .running)) →
      codeAny (model X.prog X.w) A (.builtin "any.loop" ⟨[.ref ga], []⟩) R s := by
  intro n
  induction n with
  | zero =>
    rintro s hl e ⟨gs, hgs, hgo⟩
    refine codeAny_builtin F.entry_any_loop ?_
    rw [Around.under_plainId F.plain_any_loop _]
    show wpAny _ A.in1 (pyNext (.ref ga) >>= _) _ _ s
    refine wpAny_bind (next_gx (A := A.in1) hh hroom hl hG e hgs hgo (fun a x σ H i cp Nx v s1 gs' r hac I st hy at_ kap => ?_) fun a σ H cp s1 hac I q => ?_)
    · obtain ⟨b, rfl, hb⟩ := hy
      cases (show v = Value.bool b from r)
      refine wpAny_bind (wpAny_holding (wpAny_truthy_bool ?_))
      refine wpAny_bind (wpAny_letGo ?_)
      cases b with
      | false =>
        obtain ⟨m, hm, _⟩ := kap () cp s1 (by simpa using hb) hac I st
        cases hm
      | true =>
        simp only [if_true] at hb ⊢
        exact wpAny_bind (wpAny_rule (wpAny_pure (no σ H cp s1 I hb)))
    · exact wpAny_bind (wpAny_rule (wpAny_pure (yes σ H cp s1 I q)))
  | succ n ih =>
    rintro s hl e ⟨gs, hgs, hgo⟩
    refine codeAny_builtin F.entry_any_loop ?_
    rw [Around.under_plainId F.plain_any_loop _]
    show wpAny _ A.in1 (pyNext (.ref ga) >>= _) _ _ s
    refine wpAny_bind (next_gx (A := A.in1) hh hroom hl hG e hgs hgo (fun a x σ H i cp Nx v s1 gs' r hac I st hy at_ kap => ?_) fun a σ H cp s1 hac I q => ?_)
    · obtain ⟨b, rfl, hb⟩ := hy
      cases (show v = Value.bool b from r)
      refine wpAny_bind (wpAny_holding (wpAny_truthy_bool ?_))
      refine wpAny_bind (wpAny_letGo ?_)
      cases b with
      | false =>
        simp only [Bool.false_eq_true, if_false] at hb ⊢
        subst hac
        refine wpAny_pure ⟨plainId_quiet F.plain_any_loop _, ih s1 I.nolimit (I.pin (ga, go) (List.mem_append_right _ List.mem_cons_self)).1 ⟨gs', at_, ?_⟩⟩
        obtain ⟨m, hm, z⟩ := kap () [(ga, go)] (s1.setGen gn .running) hb rfl (inv_moved I rfl (allBare_setGen I.bare rfl) fun _ _ q => q) st
        cases hm
        exact z
      | true =>
        simp only [if_true] at hb ⊢
        exact wpAny_bind (wpAny_rule (wpAny_pure (no σ H cp s1 I hb)))
    · exact wpAny_bind (wpAny_rule (wpAny_pure (yes σ H cp s1 I q)))
end
section
variable {X : Cx}
/-- any(elt for tg in iter ..) -/
def tAnyX (P : Addr) (wi : TI) (g : TG) (tt : TT) (te : TE) (vs : List Nat) : TE := fun σ H Q => wi σ H fun J H1 => GxR.TabG H1 P ∧ ∀ H2, GxR.Tabbed P H1 H2 → ∃ W : Nat → Nat → Unit → Hp → Prop, (∃ m, W 0 m () H2) ∧
  tGx J g tt te (wipe σ vs) vs (fun _ H => Q (.bl false) H) (fun _ y H Nx => ∃ b : Bool, y = .bl b ∧ if b = true then Q (.bl true) H else Nx () H) W
theorem pe_anyX {c P : Addr} {elt tg iter : Expr} {ifs : List Expr} {p pos gpos : Pos} {scope : Scope} {own : List (Str × Nat)} {wi : TI} {g : TG} {tt : TT} {te : TE} {k : Nat}
    (hr : Room (k + 1) X.A) (hc : X.calm = true) (hN : X.N.Nodup) (hgl : Gl X "any") (hm : X.mg "any" = none) (hb : bootBuiltins "any" = some (.builtin "any")) (TB : GxR.TabB X.base X.mg c P) (hcode : X.env.code = .ref c)
    (hco : scope.isCoroutine = false) (hdot : scope.names.lookup (".0" : Str) = some NameKind.local) (nocell : ∀ y ∈ scope.names, y.2 ≠ .cell) (ok : BlkOk X.N X.env.scope scope own) (hi : PI X tg iter wi)
    (hg : ∀ (A' : Around) (s : Shared) (H : Hp) (C : Addr) (cl : List (Str × Addr)) (code : Value) (fp : List Addr), Room k A' → A'.guards = X.A.guards → PG (gblk X A' s H (genEnv scope cl C code builtinsNs X.env) fp) tg g)
    (ht : ∀ (A' : Around) (s : Shared) (H : Hp) (C : Addr) (cl : List (Str × Addr)) (code : Value) (fp : List Addr), Room k A' → A'.guards = X.A.guards → PTs (gblk X A' s H (genEnv scope cl C code builtinsNs X.env) fp) ifs tt)
    (he : ∀ (A' : Around) (s : Shared) (H : Hp) (C : Addr) (cl : List (Str × Addr)) (code : Value) (fp : List Addr), Room k A' → A'.guards = X.A.guards → PE (gblk X A' s H (genEnv scope cl C code builtinsNs X.env) fp) elt te)
    (hs : ∀ v, genFold iter X.env v = pure v)
    (hst : starEach [.GeneratorExp elt [⟨tg, iter, ifs, 0⟩] scope gpos] X.env = (false, eval (.GeneratorExp elt [⟨tg, iter, ifs, 0⟩] scope gpos) X.env) :: starEach [] X.env := by rfl) :
    PE X (.Call (.Name "any" p) [.GeneratorExp elt [⟨tg, iter, ifs, 0⟩] scope gpos] [] pos) (tAnyX P wi g tt te (own.map (·.2))) := by
  refine ⟨fun pins s σ H Q I h => ?_⟩
  refine wpAny_Call_Name_kw (ld_blt I hgl hm hb ?_)
  refine PyProof.Rows.callWith_builtin1 ?_ hst (by rfl)
  rw [hst]
  show wpAny _ _ (spliced ((false, eval (.GeneratorExp elt [⟨tg, iter, ifs, 0⟩] scope gpos) X.env) :: backTo pos (starEach [] X.env))) _ _ s
  refine Calls.spliced_cons (gx_make (A := X.A.in1.in1) hr ⟨rfl, rfl, rfl, rfl, (by show X.A.units + 1 + 1 ≤ _; omega)⟩ hc hN TB hcode hco hdot nocell ok hi hg ht he hs I h fun J H1 H2 u s5 hR hT hG => ?_)
  obtain ⟨A', s_0, H_0, cenv, fp, ga, gn, go, tn, gs, rfl, hGO, hgs, hbare, I5, st5, nf, hlt, keep, back, goes⟩ := hG
  obtain ⟨W, ⟨m, w0⟩, turn⟩ := hR H2 hT
  refine Calls.spliced_nil ?_
  have pin5 := (I5.pin (ga, go) (List.mem_append_right _ List.mem_cons_self)).1
  refine call_function_tree F.kind_any F.plain_any F.entry_any (F.args_any1 _) ?_
  unfold Builtin.«any»
  refine wpAny_bind (m := oneArg "any" _) (wpAny_pure ?_)
  refine wpAny_bind (wpAny_pyIter_gen (hGO.isGen pin5) ?_)
  refine wpAny_pure ⟨plainId_quiet F.plain_any_loop _, any_gx (A' := A') (s_0 := s_0) (H_0 := H_0) (cenv := cenv) (fp := fp) (tn := tn) (go := go) (gn := gn) (Stop := fun H => Q (.bl true) H) (End := fun _ H => Q (.bl false) H) hr.hd hr.depth hGO
    (fun σ' H' cp s1 I1 q => ⟨.bl false, H', back _ _ _ _ I1, rfl, q⟩) (fun σ' H' cp s1 I1 q => ⟨.bl true, H', back _ _ _ _ I1, rfl, q⟩) (m + 1) s5 I5.nolimit pin5 ⟨gs, hgs, ?_⟩⟩
  refine goes Unit _ _ _ W m (m + 1) () [(ga, go)] _ turn w0 (Nat.lt_succ_self _) (fun a cp hac p hp b hb z => ?_) rfl (inv_moved I5 rfl (allBare_setGen I5.bare rfl) fun _ _ q => q) st5
  subst hac
  have e : p = (ga, go) := by simpa using hp
  subst e
  exact absurd (hlt b hb) (by rw [← z]; exact Nat.lt_irrefl _)
end

/-! ### sep.join(elt for tg in iter ..) -/
namespace GxJ
open PySem PySem.Spec PyProof.Rows L2 Builtin Builtin.Str
section
variable {X : Cx}
def tJoinX (P : Addr) (to : TE) (wi : TI) (g : TG) (tt : TT) (te : TE) (vs : List Nat) : TE := fun σ H Q => to σ H fun v H0 => ∃ sep : PySem.Str, v = .str sep ∧ wi σ H0 fun J H1 => GxR.TabG H1 P ∧ ∀ H2, GxR.Tabbed P H1 H2 → ∃ W : Nat → Nat → List V → Hp → Prop, (∃ m, W 0 m [] H2) ∧
  tGx J g tt te (wipe σ vs) vs (fun ys H => ∃ ws : List PySem.Str, ys = ws.map V.str ∧ JoinOk sep ws = true ∧ Q (.str (Txt.join sep ws)) H) YdL W
theorem l_strs : ∀ {ws : List PySem.Str} {us : List Value}, Vals (ws.map V.str) us → ∃ l : List (PySem.Str × Tok), strValues l = us ∧ l.map (·.1) = ws
  | [], _, .nil => ⟨[], rfl, rfl⟩
  | y :: ys, _, .cons r t => by
    obtain ⟨k, rfl⟩ := r
    obtain ⟨l, rfl, e⟩ := l_strs t
    exact ⟨(y, k) :: l, rfl, by rw [List.map_cons, e]⟩
theorem pe_joinX {c P : Addr} {o elt tg iter : Expr} {ifs : List Expr} {apos cpos gpos : Pos} {scope : Scope} {own : List (PySem.Str × Nat)} {to : TE} {wi : TI} {g : TG} {tt : TT} {te : TE} {k : Nat}
    (hr : Room (k + 1) X.A) (hc : X.calm = true) (hN : X.N.Nodup) (ho : PE X o to) (TB : GxR.TabB X.base X.mg c P) (hcode : X.env.code = .ref c)
    (hco : scope.isCoroutine = false) (hdot : scope.names.lookup (".0" : PySem.Str) = some NameKind.local) (nocell : ∀ y ∈ scope.names, y.2 ≠ .cell) (ok : BlkOk X.N X.env.scope scope own) (hi : PI X tg iter wi)
    (hg : ∀ (A' : Around) (s : Shared) (H : Hp) (C : Addr) (cl : List (PySem.Str × Addr)) (code : Value) (fp : List Addr), Room k A' → A'.guards = X.A.guards → PG (gblk X A' s H (genEnv scope cl C code builtinsNs X.env) fp) tg g)
    (ht : ∀ (A' : Around) (s : Shared) (H : Hp) (C : Addr) (cl : List (PySem.Str × Addr)) (code : Value) (fp : List Addr), Room k A' → A'.guards = X.A.guards → PTs (gblk X A' s H (genEnv scope cl C code builtinsNs X.env) fp) ifs tt)
    (he : ∀ (A' : Around) (s : Shared) (H : Hp) (C : Addr) (cl : List (PySem.Str × Addr)) (code : Value) (fp : List Addr), Room k A' → A'.guards = X.A.guards → PE (gblk X A' s H (genEnv scope cl C code builtinsNs X.env) fp) elt te)
    (hs : ∀ v, genFold iter X.env v = pure v) (hbase : attributeBase o "join" X.env (eval o X.env) = eval o X.env := by rfl)
    (hfew : ((backTo cpos (starEach [.GeneratorExp elt [⟨tg, iter, ifs, 0⟩] scope gpos] X.env)).all (fun x => !x.1) && (backToKw cpos (keywordEach [] X.env)).all (fun x => x.1.isSome)
      && decide (([.GeneratorExp elt [⟨tg, iter, ifs, 0⟩] scope gpos] : List Expr).length + ([] : List Keyword).length + (if ([] : List Keyword).isEmpty then 0 else 1) < 30)) = true := by rfl)
    (hline : (apos.endLine == cpos.line) = true := by rfl)
    (hst : starEach [.GeneratorExp elt [⟨tg, iter, ifs, 0⟩] scope gpos] X.env = (false, eval (.GeneratorExp elt [⟨tg, iter, ifs, 0⟩] scope gpos) X.env) :: starEach [] X.env := by rfl)
    (hplain : (backTo cpos (starEach [] X.env)).any (·.1) = false := by rfl) :
    PE X (.Call (.Attribute o "join" apos) [.GeneratorExp elt [⟨tg, iter, ifs, 0⟩] scope gpos] [] cpos) (tJoinX P to wi g tt te (own.map (·.2))) := by
  refine ⟨fun pins s σ H Q I h => ?_⟩
  refine wpAny_Call_method_late hbase hfew hline rfl (thn (ho.run pins s σ H _ I h) fun v s1 ⟨x', H1, I1, r1, sep, ex, q1⟩ => ?_)
  subst ex
  obtain ⟨tk, rfl⟩ := (show ∃ t, v = Value.str sep t from r1)
  refine ⟨"str", _, PySem.F.plainAttrs_str, PySem.F.slot_str_join, PySem.F.type_str_join, typeIs_str _ _ _, (fun _ e => nomatch e), ?_⟩
  rw [hst]
  refine Calls.callWith_builtin (by show (false || (backTo cpos (starEach [] X.env)).any (·.1)) = false; rw [hplain] <;> rfl) (Calls.evalArgs_plain ?_)
  show wpAny _ _ (spliced ((false, eval (.GeneratorExp elt [⟨tg, iter, ifs, 0⟩] scope gpos) X.env) :: backTo cpos (starEach [] X.env))) _ _ s1
  refine Calls.spliced_cons (gx_make (A := X.A.in1.in1.in1) hr ⟨rfl, rfl, rfl, rfl, (by show X.A.units + 1 + 1 + 1 ≤ _; omega)⟩ hc hN TB hcode hco hdot nocell ok hi hg ht he hs I1 q1 fun J H2 H3 u s5 hR hT hG => ?_)
  obtain ⟨W, ⟨m, w0⟩, turn⟩ := hR H3 hT
  refine Calls.spliced_nil ?_
  have ⟨A', s_0, H_0, cenv, fp, ga, gn, go, tn, gs, eu, hGO, hgs, hbare, I5, st5, nf, hlt, keep, back, goes⟩ := hG
  have pin5 := (I5.pin (ga, go) (List.mem_append_right _ List.mem_cons_self)).1
  rw [eu] at hG ⊢
  have hTI : s5.TypeIs (.ref ga) "generator" := (hGO.isGen pin5).typeIs
  refine wpAny_call (codeAny_call_builtin F.slot_str_join.plain F.entry_str_join (F.slot_str_join.check _ _ _ _ _ _ _ _ (typeIs_str _ _ _) (F.args_str_join_2 _ _) ?_))
  show wpAny _ X.A.in1 («str.join» ⟨[.str sep tk, .ref ga], []⟩) _ _ s5
  rw [join_tree_other]
  refine wpAny_bind (wpAny_typeOf hTI ?_)
  show wpAny _ X.A.in1 ((pyIter (.ref ga)).tryCatch _ >>= fun it => collect it >>= fun items => joinTail sep items) _ _ s5
  refine wpAny_bind (wpAny_tryCatch (wpAny_pyIter_gen (hGO.isGen pin5) ?_))
  refine wpAny_bind (collect_gx (A := X.A.in1) hr.hd hr.depth hG w0 turn (fun s' acc ys H' I' rv q => ?_))
  obtain ⟨ws, rfl, hok, hq⟩ := q
  obtain ⟨l, hl, el⟩ := l_strs rv
  rw [← hl]
  subst el
  unfold JoinOk at hok
  rw [Bool.not_eq_true'] at hok
  have gj : Gives (joinTail sep (strValues l)) (joinMade sep l) := by
    have g0 := gives_joinTail sep l hok
    cases l with
    | nil => exact g0
    | cons p r => cases r with
      | nil => exact g0
      | cons q r' => exact g0
  exact gj X.prog X.w X.A (wants _ _) s' (post_join l ⟨joinFit_length hok, fun t' k' => ⟨.str _, H', I'.tok k', ⟨t', rfl⟩, hq⟩⟩)
end
end GxJ

/-! ### heaps -/
theorem same_upd {H : Hp} {p : Addr} {o : HO} (h : H p = none) : Same H (upd H p o) := fun b x e => by
  rw [upd_ne (ne_of_none e h)]
  exact e
def Fr (d l : Addr) (H H' : Hp) : Prop := ∀ b o, b ≠ d → b ≠ l → H b = some o → H' b = some o
theorem Fr.trans {d l : Addr} {H H1 H2 : Hp} (a : Fr d l H H1) (b : Fr d l H1 H2) : Fr d l H H2 := fun c o h1 h2 h => b c o h1 h2 (a c o h1 h2 h)
theorem Fr.refl {d l : Addr} {H : Hp} : Fr d l H H := fun _ _ _ _ h => h
theorem Fr.new {d l p : Addr} {H : Hp} {o : HO} (h : H p = none) : Fr d l H (upd H p o) := fun b x _ _ e => same_upd h b x e
theorem Fr.of {d l : Addr} {H H' : Hp} (h : Same H H') : Fr d l H H' := fun b x _ _ e => h b x e
theorem Fr.d {d l : Addr} {H : Hp} {o : HO} : Fr d l H (upd H d o) := fun b x h1 _ e => by rw [upd_ne h1]; exact e
theorem Fr.l {d l : Addr} {H : Hp} {o : HO} : Fr d l H (upd H l o) := fun b x _ h2 e => by rw [upd_ne h2]; exact e
def Deck (H : Hp) (d l : Addr) : Prop := d ≠ l ∧ ∃ (cs : List Int) (z : Int), H d = some (.lst [.ref l, .int z]) ∧ H l = some (.lst (cs.map V.int)) ∧ cs.length ≤ 63 ∧ 0 ≤ z ∧ z < 4294967296
theorem Deck.same {H H' : Hp} {d l : Addr} (D : Deck H d l) (s : Same H H') : Deck H' d l := by
  obtain ⟨ne, cs, z, hd, hl, r⟩ := D
  exact ⟨ne, cs, z, s _ _ hd, s _ _ hl, r⟩
theorem Deck.new {H : Hp} {d l p : Addr} {o : HO} (D : Deck H d l) (h : H p = none) : Deck (upd H p o) d l := D.same (same_upd h)
theorem Deck.ne_new {H : Hp} {d l p : Addr} (D : Deck H d l) (h : H p = none) : p ≠ d ∧ p ≠ l := by
  obtain ⟨ne, cs, z, hd, hl, r⟩ := D
  exact ⟨(ne_of_none hd h).symm, (ne_of_none hl h).symm⟩
theorem p29 : (0 : Int) < 2147483629 := by decide
theorem p47 : (0 : Int) < 2147483647 := by decide
theorem p87 : (0 : Int) < 2147483587 := by decide
theorem sl1 : 1 ≤ sizeLine := by decide
theorem sl2 : 2 ≤ sizeLine := by decide
theorem sl3 : 3 ≤ sizeLine := by decide
theorem sl4 : 4 ≤ sizeLine := by decide
theorem seqIx0 {α : Type} (x : α) (xs : List α) : seqIndex? 0 (x :: xs).length = some 0 := by
  refine (ixN_seq (n := (x :: xs).length) (i := 0) (j := 0) ?_).1
  unfold ixN
  rw [if_pos (by decide), if_pos (by rw [List.length_cons]; omega)]
  rfl
theorem dpInts {K : PySem.W.Frag} {H : Hp} : ∀ cs : List Int, DpAll K H (cs.map V.int) (cs.map PyData.int)
  | [] => .nil
  | c :: r => .cons (.int c) (dpInts r)
theorem shInts (ns : List Int) : SeqAt.shaped (.list (ns.map PyData.int)) = true := by
  unfold SeqAt.shaped
  rw [Bool.and_eq_true]
  refine ⟨?_, ?_⟩
  · simp only [PyData.canLay0, canLayAll_ints]
  · simp only [PyData.depth, depthAll_ints]
    decide
theorem at_pick {xs : List V} {j : Int} (h0 : 0 ≤ j) (h1 : j < xs.length) : ∃ x, atI xs j = some x ∧ x ∈ xs := by
  obtain ⟨k, rfl⟩ : ∃ k : Nat, j = (k : Int) := ⟨j.toNat, (Int.toNat_of_nonneg h0).symm⟩
  have hk : k < xs.length := by omega
  exact ⟨xs[k], atI_nat (List.getElem?_eq_getElem hk), List.getElem_mem hk⟩
theorem units65 {k : Nat} {A : Around} (r : Room k A) : A.units + 65 < cLine := by have := r.un; omega
def rLenK (K : PySem.W.Frag) : List V → Hp → VK → Prop := fun xs H Q => ∃ p ys, xs = [.ref p] ∧ (SqL K H p ys ∨ SqT K H p ys) ∧ Q (.int ys.length) H
def rTupK (K : PySem.W.Frag) : List V → Hp → VK → Prop := fun xs H Q => ∃ p ys, xs = [.ref p] ∧ ((SqL K H p ys ∧ ∀ l, H l = none → Q (.ref l) (upd H l (.tup ys))) ∨ (SqT K H p ys ∧ Q (.ref p) H))
def rLstK (K : PySem.W.Frag) : List V → Hp → VK → Prop := fun xs H Q => ∃ p ys, xs = [.ref p] ∧ (SqL K H p ys ∨ SqT K H p ys) ∧ ∀ l, H l = none → Q (.ref l) (upd H l (.lst ys))
/-- joining ways behind a test, behind an expression -/
def tCutT (t : TT) : TT := fun σ H Q => ∃ Mid : Bool → Hp → Prop, t σ H Mid ∧ ∀ b H1, Mid b H1 → Q b H1
theorem pt_cut {X : Cx} {e : Expr} {t : TT} (h : PT X e t) : PT X e (tCutT t) := ⟨fun pins s σ H Q I hw => by
  obtain ⟨Mid, h1, q⟩ := hw
  exact thn (h.run pins s σ H _ I h1) fun c s1 ⟨H1, I1, m⟩ => ⟨H1, I1, q _ _ m⟩⟩
def tCutE (t : TE) : TE := fun σ H Q => ∃ Mid : VK, t σ H Mid ∧ ∀ v H1, Mid v H1 → Q v H1
theorem pe_cut {X : Cx} {e : Expr} {t : TE} (h : PE X e t) : PE X e (tCutE t) := ⟨fun pins s σ H Q I hw => by
  obtain ⟨Mid, h1, q⟩ := hw
  exact thn (h.run pins s σ H _ I h1) fun u s1 ⟨v, H1, I1, r, m⟩ => ⟨v, H1, I1, r, q _ _ m⟩⟩

/-! ### data made by the law or the program: numbers, truths, texts, lists and tuples of these -/
mutual
inductive Tk (H : Hp) : V → PyData → Prop
  | bl (b : Bool) : Tk H (.bl b) (.bool b)
  | int (i : Int) : Tk H (.int i) (.int i)
  | str (x : Str) : Tk H (.str x) (.str x)
  | lst {a : Addr} {xs : List V} {ds : List PyData} : H a = some (.lst xs) → TkAll H xs ds → Tk H (.ref a) (.list ds)
  | tup {a : Addr} {xs : List V} {ds : List PyData} : H a = some (.tup xs) → TkAll H xs ds → Tk H (.ref a) (.tuple ds)
inductive TkAll (H : Hp) : List V → List PyData → Prop
  | nil : TkAll H [] []
  | cons {v : V} {vs : List V} {d : PyData} {ds : List PyData} : Tk H v d → TkAll H vs ds → TkAll H (v :: vs) (d :: ds)
end
theorem TkAll.length {H : Hp} : ∀ {vs : List V} {ds : List PyData}, TkAll H vs ds → vs.length = ds.length
  | _, _, .nil => rfl
  | _, _, .cons _ t => by rw [List.length_cons, List.length_cons, t.length]
mutual
theorem Tk.same {H H' : Hp} (s : Same H H') : ∀ {v : V} {d : PyData}, Tk H v d → Tk H' v d
  | _, _, .bl b => .bl b
  | _, _, .int i => .int i
  | _, _, .str x => .str x
  | _, _, .lst h t => .lst (s _ _ h) (t.same s)
  | _, _, .tup h t => .tup (s _ _ h) (t.same s)
theorem TkAll.same {H H' : Hp} (s : Same H H') : ∀ {vs : List V} {ds : List PyData}, TkAll H vs ds → TkAll H' vs ds
  | _, _, .nil => .nil
  | _, _, .cons h t => .cons (h.same s) (t.same s)
end
theorem TkAll.get {H : Hp} : ∀ {xs : List V} {ds : List PyData} {j : Nat} {x : V}, TkAll H xs ds → xs[j]? = some x → ∃ d, ds[j]? = some d ∧ Tk H x d
  | _, _, _, _, .nil, h => by simp at h
  | _, _, 0, _, .cons (d := d) a _, h => by
    cases (Option.some.inj h)
    exact ⟨d, rfl, a⟩
  | _, _, j + 1, _, .cons _ t, h => t.get h
theorem TkAll.append {H : Hp} : ∀ {xs ys : List V} {ds es : List PyData}, TkAll H xs ds → TkAll H ys es → TkAll H (xs ++ ys) (ds ++ es)
  | _, _, _, _, .nil, t => t
  | _, _, _, _, .cons a r, t => .cons a (r.append t)
theorem TkAll.ints {H : Hp} : ∀ ns : List Int, TkAll H (ns.map V.int) (ns.map PyData.int)
  | [] => .nil
  | n :: r => .cons (.int n) (TkAll.ints r)
theorem Tk.int_inv {H : Hp} {v : V} {i : Int} (h : Tk H v (.int i)) : v = .int i := by cases h; rfl
theorem Tk.tup_inv {H : Hp} {v : V} {ds : List PyData} (h : Tk H v (.tuple ds)) : ∃ a xs, v = .ref a ∧ H a = some (.tup xs) ∧ TkAll H xs ds := by
  cases h with
  | tup h t => exact ⟨_, _, rfl, h, t⟩
theorem Tk.lst_inv {H : Hp} {v : V} {ds : List PyData} (h : Tk H v (.list ds)) : ∃ a xs, v = .ref a ∧ H a = some (.lst xs) ∧ TkAll H xs ds := by
  cases h with
  | lst h t => exact ⟨_, _, rfl, h, t⟩
theorem TkAll.int_inv {H : Hp} : ∀ {vs : List V} {ns : List Int}, TkAll H vs (ns.map PyData.int) → vs = ns.map V.int
  | _, [], .nil => rfl
  | _, n :: r, .cons h t => by rw [List.map_cons, h.int_inv, t.int_inv]
/-- heaps without one place -/
def hd1 (p : Addr) (H : Hp) : Hp := fun b => if b = p then none else H b
theorem hd1_le {p : Addr} {H : Hp} : Same (hd1 p H) H := fun b o e => by
  unfold hd1 at e
  by_cases h : b = p
  · rw [if_pos h] at e; cases e
  · rw [if_neg h] at e; exact e
theorem hd1_same {p : Addr} {H H' : Hp} (s : Same H H') : Same (hd1 p H) (hd1 p H') := fun b o e => by
  unfold hd1 at e ⊢
  by_cases h : b = p
  · rw [if_pos h] at e; cases e
  · rw [if_neg h] at e ⊢; exact s _ _ e
theorem hd1_upd {p : Addr} {H : Hp} {o : HO} : Same (hd1 p H) (hd1 p (upd H p o)) := fun b x e => by
  unfold hd1 at e ⊢
  by_cases h : b = p
  · rw [if_pos h] at e; cases e
  · rw [if_neg h] at e ⊢; rw [upd_ne h]; exact e
theorem hd1_at {p b : Addr} {H : Hp} (h : b ≠ p) : hd1 p H b = H b := if_neg h
theorem hd1_of {p : Addr} {H H' : Hp} (s : Same H H') (n : H p = none) : Same H (hd1 p H') := fun b o e => by
  rw [hd1_at (ne_of_none e n)]
  exact s _ _ e
theorem same_of_hd1 {p : Addr} {H H' : Hp} {o : HO} (s : Same H (hd1 p H')) : Same H (upd H' p o) := fun b x e => by
  have z := s b x e
  unfold hd1 at z
  by_cases h : b = p
  · rw [if_pos h] at z; cases z
  · rw [if_neg h] at z; rw [upd_ne h]; exact z

/-! ### tables and gates -/
def tabOf (bs : List Bool) : Str := ⟨(bs.map fun b => if b = true then 49 else 48).toArray⟩
def plc (ws : List Int) : Int := ws.foldl (fun p w => 2 * p + w) 0
def gateM (bs : List Bool) (ws : List Int) : Int := if bs.getD (plc ws).toNat false = true then 1 else 0
theorem plc_snoc (ws : List Int) (w : Int) : plc (ws ++ [w]) = 2 * plc ws + w := by
  unfold plc
  rw [List.foldl_append]
  rfl
theorem plc_take {ws : List Int} {i : Nat} {u : Int} (h : ws[i]? = some u) : plc (ws.take (i + 1)) = 2 * plc (ws.take i) + u := by
  rw [List.take_add_one, h]
  exact plc_snoc _ _
theorem plc_bd : ∀ (n : Nat) (ws : List Int), ws.length = n → (∀ w ∈ ws, w = 0 ∨ w = 1) → 0 ≤ plc ws ∧ plc ws < 2 ^ n := by
  intro n
  induction n with
  | zero =>
    intro ws h _
    cases List.eq_nil_of_length_eq_zero h
    decide
  | succ n ih =>
    intro ws h hw
    have hne : ws ≠ [] := fun z => by rw [z] at h; cases h
    obtain ⟨r, x, rfl⟩ : ∃ r x, ws = r ++ [x] := ⟨ws.dropLast, ws.getLast hne, (List.dropLast_concat_getLast hne).symm⟩
    have hr := ih r (by rw [List.length_append] at h; simpa using h) fun w h' => hw w (List.mem_append_left _ h')
    have hx := hw x (by simp)
    rw [plc_snoc, Int.pow_succ]
    omega
theorem gate01 (bs : List Bool) (ws : List Int) : gateM bs ws = 0 ∨ gateM bs ws = 1 := by
  unfold gateM
  split
  · exact .inr rfl
  · exact .inl rfl
theorem int_sign (b : Bool) : PySem.intText? ⟨#[if b = true then 49 else 48]⟩ = some (if b = true then 1 else 0) := by
  cases b <;> decide +kernel
def spGate (K : PySem.W.Frag) : Sp := fun vs H Q _ => ∃ (bs : List Bool) (la : Addr) (ws : List Int), vs = [.str (tabOf bs), .ref la] ∧ SqL K H la (ws.map V.int) ∧ (∀ w ∈ ws, w = 0 ∨ w = 1) ∧ bs.length = 2 ^ ws.length ∧ ws.length ≤ 3 ∧ Q (.int (gateM bs ws)) H
theorem gate_read {bs : List Bool} {ws : List Int} (hw : ∀ w ∈ ws, w = 0 ∨ w = 1) (hb : bs.length = 2 ^ ws.length) (h3 : ws.length ≤ 3) : ∃ b : Bool, 0 ≤ plc ws ∧ plc ws < 2 ^ 63 ∧ plc ws < (tabOf bs).length ∧ (tabOf bs).cps[(plc ws).toNat]? = some (if b = true then 49 else 48) ∧ gateM bs ws = if b = true then 1 else 0 := by
  obtain ⟨p0, p1⟩ := plc_bd _ ws rfl hw
  have p8 : plc ws < 8 := by
    have : (2 : Int) ^ ws.length ≤ 8 := by
      have : ws.length = 0 ∨ ws.length = 1 ∨ ws.length = 2 ∨ ws.length = 3 := by omega
      rcases this with h | h | h | h <;> rw [h] <;> decide
    omega
  have hlt : (plc ws).toNat < bs.length := by
    have : ((2 ^ ws.length : Nat) : Int) = (2 : Int) ^ ws.length := by simp
    omega
  refine ⟨bs[(plc ws).toNat], p0, by omega, ?_, ?_, ?_⟩
  · have : (tabOf bs).length = bs.length := by simp [tabOf, Str.length]
    rw [this]
    omega
  · simp [tabOf, List.getElem?_eq_getElem hlt]
  · unfold gateM
    rw [List.getD_eq_getElem?_getD, List.getElem?_eq_getElem hlt]
    rfl

/-! ### walks -/
theorem gx_tup {α : Type} {K : PySem.W.Frag} {a : Addr} {xs : List V} {g : TG} {tt : TT} {te : TE} {vs : List Nat} {σ0 : L2.St} {End : α → Hp → Prop} {Yd : α → V → Hp → (α → Hp → Prop) → Prop} {a0 : α} {H0 : Hp} (Pv : Nat → α → Hp → Prop) (h0 : Pv 0 a0 H0)
    (hl : ∀ i c H, i ≤ xs.length → Pv i c H → SqT K H a xs)
    (hs : ∀ i x c H, xs[i]? = some x → Pv i c H → g x σ0 H fun σ2 H2 => wipe σ2 vs = σ0 ∧ tt σ2 H2 fun b H3 => if b = true then te σ2 H3 fun y H4 => Yd c y H4 (Pv (i + 1)) else Pv (i + 1) c H3) (hd : ∀ c H, Pv xs.length c H → End c H) :
    ∃ W : Nat → Nat → α → Hp → Prop, (∃ m, W 0 m a0 H0) ∧ tGx (Itt K a) g tt te σ0 vs End Yd W := by
  refine ⟨fun i m c H => m = xs.length - i ∧ i ≤ xs.length ∧ Pv i c H, ⟨xs.length, rfl, Nat.zero_le _, h0⟩, ?_⟩
  rintro i m c H ⟨rfl, hi, p⟩
  by_cases hlt : i < xs.length
  · have hx : xs[i]? = some xs[i] := List.getElem?_eq_getElem hlt
    refine .inr ⟨⟨xs, xs[i], hl i c H hi p, hx⟩, Pv (i + 1), fun c' H' p' => ⟨xs.length - (i + 1), by omega, rfl, hlt, p'⟩, fun x H' y => ?_⟩
    obtain ⟨rfl, y⟩ := y
    exact hs i x c _ (y xs (hl i c _ hi p)) p
  · have e : i = xs.length := by omega
    subst e
    exact .inl ⟨⟨xs, hl _ c H hi p, Nat.le_refl _⟩, hd c H p⟩
theorem lc_zipT {K : PySem.W.Frag} {a b : Addr} {xs ys : List V} {g : TG} {tt : TT} {te : TE} {vs : List Nat} {σ : L2.St} {H1 : Hp} {D : Addr} {Qd : Hp → Prop} (el : xs.length = ys.length) (Pv : Nat → Hp → Prop) (h0 : Pv 0 (upd H1 D (.lst []))) (hl : ∀ i H, i ≤ xs.length → Pv i H → SqT K H a xs ∧ SqT K H b ys)
    (hs : ∀ i x y T H, xs[i]? = some x → ys[i]? = some y → H T = none → Pv i H → g (.ref T) (wipe σ vs) (upd H T (.tup [x, y])) fun σ2 H2 => wipe σ2 vs = wipe σ vs ∧ tt σ2 H2 fun b H3 =>
      if b = true then te σ2 H3 fun y H4 => ∃ acc, H4 D = some (.lst acc) ∧ acc.length < sizeLine ∧ Pv (i + 1) (upd H4 D (.lst (acc ++ [y]))) else Pv (i + 1) H3) (hd : ∀ H, Pv xs.length H → Qd H) :
    ∃ W : Nat → Nat → Hp → Prop, (∃ m, W 0 m (upd H1 D (.lst []))) ∧ ∀ i m H, W i m H →
      ((RZ.ItzT K a b).stop i H ∧ Qd H) ∨ ((RZ.ItzT K a b).go i H ∧ ∃ Nx : Hp → Prop, (∀ H', Nx H' → ∃ m', m' < m ∧ W (i + 1) m' H') ∧ ∀ x H', (RZ.ItzT K a b).yld i H x H' → g x (wipe σ vs) H' fun σ2 H2 => wipe σ2 vs = wipe σ vs ∧ tt σ2 H2 fun b H3 =>
        if b = true then te σ2 H3 fun y H4 => ∃ acc, H4 D = some (.lst acc) ∧ acc.length < sizeLine ∧ Nx (upd H4 D (.lst (acc ++ [y]))) else Nx H3) := by
  refine ⟨fun i m H => m = xs.length - i ∧ i ≤ xs.length ∧ Pv i H, ⟨xs.length, by simp, Nat.zero_le _, h0⟩, ?_⟩
  rintro i m H ⟨rfl, hi, p⟩
  obtain ⟨qx, qy⟩ := hl i H hi p
  by_cases hlt : i < xs.length
  · have hx : xs[i]? = some xs[i] := List.getElem?_eq_getElem hlt
    have hy : ys[i]? = some (ys[i]'(by omega)) := List.getElem?_eq_getElem _
    refine .inr ⟨⟨xs, ys, _, _, qx, qy, hx, hy⟩, Pv (i + 1), fun H' p' => ⟨xs.length - (i + 1), by omega, rfl, hlt, p'⟩, fun x H' y => ?_⟩
    obtain ⟨T, x1, y1, rfl, nT, rfl, e1, e2⟩ := y
    exact hs i x1 y1 T H (e1 xs qx) (e2 ys qy) nT p
  · have e : i = xs.length := by omega
    subst e
    exact .inl ⟨⟨xs, ys, qx, qy, .inl (Nat.le_refl _)⟩, hd H p⟩

/-! ### nets, and the words of nets -/
abbrev Gt := List Bool × List Nat
def gD (g : Gt) : PyData := .tuple [.str (tabOf g.1), .tuple ((g.2.map Int.ofNat).map PyData.int)]
def netD (many : Int) (gs : List Gt) : PyData := .tuple [.int many, .tuple (gs.map gD)]
def rowD (r : List Int) : PyData := .tuple (r.map PyData.int)
def chD (a b : List Int) : PyData := .tuple [rowD a, rowD b]
def GtOk (n : Nat) (g : Gt) : Prop := g.1.length = 2 ^ g.2.length ∧ 1 ≤ g.2.length ∧ g.2.length ≤ 3 ∧ ∀ i ∈ g.2, i < n
def NetOk (n : Nat) (gs : List Gt) : Prop := ∀ k g, gs[k]? = some g → GtOk (n + k) g
def Row01 (r : List Int) : Prop := ∀ x ∈ r, x = 0 ∨ x = 1
mutual
theorem Tk.gr {H H' : Hp} (s : Gr H H') : ∀ {v : V} {d : PyData}, Tk H v d → Tk H' v d
  | _, _, .bl b => .bl b
  | _, _, .int i => .int i
  | _, _, .str x => .str x
  | _, _, .lst h t => .lst (s.lst h) (t.gr s)
  | _, _, .tup h t => .tup (s.tup h) (t.gr s)
theorem TkAll.gr {H H' : Hp} (s : Gr H H') : ∀ {vs : List V} {ds : List PyData}, TkAll H vs ds → TkAll H' vs ds
  | _, _, .nil => .nil
  | _, _, .cons h t => .cons (h.gr s) (t.gr s)
end
theorem Tk.row_inv {H : Hp} {v : V} {r : List Int} (h : Tk H v (rowD r)) : ∃ a, v = .ref a ∧ H a = some (.tup (r.map V.int)) := by
  obtain ⟨a, xs, rfl, ha, t⟩ := h.tup_inv
  rw [t.int_inv] at ha
  exact ⟨a, rfl, ha⟩
theorem Tk.ch_inv {H : Hp} {v : V} {a b : List Int} (h : Tk H v (chD a b)) : ∃ c ra rb, v = .ref c ∧ H c = some (.tup [.ref ra, .ref rb]) ∧ H ra = some (.tup (a.map V.int)) ∧ H rb = some (.tup (b.map V.int)) := by
  obtain ⟨c, xs, rfl, hc, t⟩ := h.tup_inv
  cases t with
  | cons h1 t => cases t with
    | cons h2 t =>
      cases t
      obtain ⟨ra, rfl, ha⟩ := h1.row_inv
      obtain ⟨rb, rfl, hb⟩ := h2.row_inv
      exact ⟨c, ra, rb, rfl, hc, ha, hb⟩
theorem Tk.net_inv {H : Hp} {v : V} {m : Int} {gs : List Gt} (h : Tk H v (netD m gs)) : ∃ n g xs, v = .ref n ∧ H n = some (.tup [.int m, .ref g]) ∧ H g = some (.tup xs) ∧ TkAll H xs (gs.map gD) := by
  obtain ⟨n, xs, rfl, hn, t⟩ := h.tup_inv
  cases t with
  | cons h1 t => cases t with
    | cons h2 t =>
      cases t
      cases h1
      obtain ⟨g, ys, rfl, hg, t2⟩ := h2.tup_inv
      exact ⟨n, g, ys, rfl, hn, hg, t2⟩
theorem Tk.gt_inv {H : Hp} {v : V} {g : Gt} (h : Tk H v (gD g)) : ∃ a i, v = .ref a ∧ H a = some (.tup [.str (tabOf g.1), .ref i]) ∧ H i = some (.tup ((g.2.map Int.ofNat).map V.int)) := by
  obtain ⟨a, xs, rfl, ha, t⟩ := h.tup_inv
  cases t with
  | cons h1 t => cases t with
    | cons h2 t =>
      cases t
      cases h1
      obtain ⟨i, rfl, hi⟩ := (show Tk H _ (rowD (g.2.map Int.ofNat)) from h2).row_inv
      exact ⟨a, i, rfl, ha, hi⟩
theorem TkAll.at {H : Hp} {α : Type} {f : α → PyData} {xs : List V} {ds : List α} (t : TkAll H xs (ds.map f)) {j : Nat} {v : V} (h : xs[j]? = some v) : ∃ x, ds[j]? = some x ∧ Tk H v (f x) := by
  obtain ⟨dx, hdx, tx⟩ := t.get h
  rw [List.getElem?_map] at hdx
  cases hz : ds[j]? with
  | none => rw [hz] at hdx; cases hdx
  | some x =>
    rw [hz] at hdx
    cases Option.some.inj hdx
    exact ⟨x, rfl, tx⟩
theorem TkAll.at' {H : Hp} {α : Type} {f : α → PyData} {xs : List V} {ds : List α} (t : TkAll H xs (ds.map f)) {j : Nat} {x : α} (h : ds[j]? = some x) : ∃ v, xs[j]? = some v ∧ Tk H v (f x) := by
  have hl := t.length
  rw [List.length_map] at hl
  have hj := (List.getElem?_eq_some_iff.mp h).1
  obtain ⟨y, hy, ty⟩ := t.at (List.getElem?_eq_getElem (l := xs) (i := j) (by omega))
  cases Option.some.inj (h.symm.trans hy)
  exact ⟨_, List.getElem?_eq_getElem _, ty⟩
theorem grow_upd {H H' : Hp} {p : Addr} {o : HO} (g : Gr H H') (n : H' p = none) : Gr H (upd H' p o) := g.trans (Gr.none n)
/-- no table, no older list: only the list at D is written -/
def GrD (D : Addr) (H H' : Hp) : Prop := Gr H (hd1 D H')
theorem GrD.gr {D : Addr} {H H' : Hp} (g : GrD D H H') : Gr H H' := g.trans (Gr.of hd1_le)
theorem TabG_hd1 {D P : Addr} {H : Hp} (h : GxR.TabG H P) (n : D ≠ P) : GxR.TabG (hd1 D H) P := by
  obtain ⟨ps, e, t⟩ := h
  exact ⟨ps, by rw [hd1_at (Ne.symm n)]; exact e, t⟩
theorem GrD.new {D : Addr} {H : Hp} {o : HO} (n : H D = none) : GrD D H (upd H D o) := Gr.of (hd1_of (same_upd n) n)
theorem hd1_gr {D : Addr} {H H' : Hp} (g : Gr H H') (hD : ∀ P, GxR.TabG H P → D ≠ P) : Gr (hd1 D H) (hd1 D H') := by
  refine ⟨fun b o n e => ?_, fun b t => ?_⟩
  · have hb : b ≠ D := fun z => by
      unfold hd1 at e
      rw [if_pos z] at e; cases e
    rw [hd1_at hb] at e ⊢
    exact g.1 b o n e
  · obtain ⟨ps, e, t⟩ := t
    have e' := hd1_le _ _ e
    exact TabG_hd1 (g.2 b ⟨ps, e', t⟩) (hD b ⟨ps, e', t⟩)
theorem GrD.then {D : Addr} {H H1 H2 : Hp} {xs : List V} (a : GrD D H H1) (hD : H1 D = some (.lst xs)) (b : Gr H1 H2) : GrD D H H2 := a.trans (hd1_gr b fun P ⟨ps, e, _⟩ z => by
  rw [← z, hD] at e
  cases e)
theorem GrD.set {D : Addr} {H H1 : Hp} {o : HO} (a : GrD D H H1) : GrD D H (upd H1 D o) := a.trans (Gr.of hd1_upd)

end Gk

set_option Elab.async false
set_option linter.all false
set_option maxRecDepth 100000
set_option maxHeartbeats 1000000
namespace Gk
open PySem PySem.Spec PyProof.Rows L2
/-! ### zip of two or three texts, tuples, lists -/
namespace ZpG
open PySem PySem.Spec PyProof.Rows L2
inductive ZS where
  | tx (x : PySem.Str)
  | tu (a : Addr)
  | li (a : Addr)
def ZS.val : ZS → V
  | .tx x => .str x
  | .tu a => .ref a
  | .li a => .ref a
def ZS.at (K : PySem.W.Frag) : ZS → Hp → List V → Prop
  | .tx x, _, xs => xs = x.cps.toList.map fun c => V.str ⟨#[c]⟩
  | .tu a, H, xs => SqT K H a xs
  | .li a, H, xs => SqL K H a xs
def ZS.it : ZS → Addr → Nat → Heap → Prop
  | .tx x, it, i, h => ∃ t, h.IsStrIter it (strIterType x) x t i
  | .tu a, it, i, h => h.IsTupleIter it a i
  | .li a, it, i, h => h.IsListIter it a i
def ZS.lt : ZS → Nat → Prop
  | .tx _, _ => True
  | .tu a, n => a < n
  | .li a, n => a < n
def ZS.off : ZS → Addr → Prop
  | .tx _, _ => True
  | .tu a, c => a ≠ c
  | .li a, c => a ≠ c
theorem ne' {a b : Nat} (h : a ≠ b) : @Ne Addr a b := h
theorem ZS.off_of {n c : Nat} (hc : n ≤ c) : ∀ {z : ZS}, z.lt n → z.off c
  | .tx _, _ => trivial
  | .tu _, h => Nat.ne_of_lt (Nat.lt_of_lt_of_le h hc)
  | .li _, h => Nat.ne_of_lt (Nat.lt_of_lt_of_le h hc)
theorem ZS.obj {it : Addr} {i : Nat} {h : Heap} : ∀ {z : ZS}, z.it it i h → ∃ o, h.get? it = some o ∧ ∀ v, o.data ≠ .cell v
  | .tx _, ⟨_, o, e, _, d⟩ => ⟨o, e, fun v q => by rw [d] at q; cases q⟩
  | .tu _, ⟨o, e, _, d⟩ => ⟨o, e, fun v q => by rw [d] at q; cases q⟩
  | .li _, ⟨o, e, _, d⟩ => ⟨o, e, fun v q => by rw [d] at q; cases q⟩
theorem ZS.move {it : Addr} {i : Nat} {h h' : Heap} (k : ∀ o, h.get? it = some o → h'.get? it = some o) : ∀ {z : ZS}, z.it it i h → z.it it i h'
  | .tx _, ⟨t, o, e, r⟩ => ⟨t, o, k o e, r⟩
  | .tu _, ⟨o, e, r⟩ => ⟨o, k o e, r⟩
  | .li _, ⟨o, e, r⟩ => ⟨o, k o e, r⟩
section
variable {X : Cx} {pins : List (Addr × Obj)} {σ : L2.St} {H : Hp} {s : Shared}
theorem ZS.inj (I : Inv X pins σ H s) {z : ZS} {xs ys : List V} (h1 : z.at X.K H xs) (h2 : z.at X.K H ys) : xs = ys := by
  cases z with
  | tx x =>
    have e1 : xs = _ := h1
    have e2 : ys = _ := h2
    rw [e1, e2]
  | tu a => exact I.tuple_inj h1 h2
  | li a => exact I.list_inj h1 h2
theorem ZS.draws {A : Around} {it : Addr} {i : Nat} {xs : List V} (z : ZS) (I : Inv X pins σ H s) (hq : z.at X.K H xs) (hh : A.handled = none) (off : z.off it) (st : z.it it i s.heap) :
    ∃ (fp : List Addr) (P : Nat → Value → Prop) (St : Nat → Heap → Prop), Draws X.prog X.w A it fp xs.length P St ∧ it ∈ fp ∧ (∀ c, c ∈ fp → c = it ∨ ¬ z.off c) ∧ St i s.heap ∧ (∀ j h, St j h → z.it it j h) ∧ ∀ j v, P j v → ∃ x, xs[j]? = some x ∧ RelV x v := by
  cases z with
  | tx x =>
    obtain ⟨t, st⟩ := st
    have e : xs = x.cps.toList.map fun c => V.str ⟨#[c]⟩ := hq
    have el : xs.length = x.cps.size := by rw [e, List.length_map, Array.length_toList]
    refine ⟨[it], fun i v => ∃ c u, x.cps[i]? = some c ∧ v = .str ⟨#[c]⟩ u, fun i h => h.IsStrIter it (strIterType x) x t i, ?_, List.mem_cons_self, fun c hc => .inl (List.mem_singleton.mp hc), st, fun j h q => ⟨t, q⟩, fun j v p => ?_⟩
    · rw [el]
      exact Draws.text hh it x t
    · obtain ⟨c, u, hc, rfl⟩ := p
      refine ⟨.str ⟨#[c]⟩, ?_, ⟨u, rfl⟩⟩
      rw [e, List.getElem?_map, Array.getElem?_toList, hc]
      rfl
  | tu a =>
    obtain ⟨its, rv, p, _⟩ := I.tuple hq
    have hl := rv.length
    refine ⟨[it, a], fun i v => its.toArray[i]? = some v, fun i h => h.IsTupleIter it a i ∧ h.IsTuple a its.toArray, ?_, List.mem_cons_self, fun c hc => ?_, ⟨st, p⟩, fun j h q => q.1, fun j v q => ?_⟩
    · rw [hl, ← List.size_toArray]
      exact Draws.tuple hh it a off its.toArray
    · rcases List.mem_cons.mp hc with e | e
      · exact .inl e
      · refine .inr fun q => ?_
        rw [List.mem_singleton.mp e] at q
        exact q rfl
    · have q : its[j]? = some v := by simpa using q
      have hj := (List.getElem?_eq_some_iff.mp q).1
      have hx : xs[j]? = some (xs[j]'(by omega)) := List.getElem?_eq_getElem _
      obtain ⟨u, hu, ru⟩ := rv.get hx
      rw [q] at hu
      cases Option.some.inj hu
      exact ⟨_, hx, ru⟩
  | li a =>
    obtain ⟨its, rv, p, _⟩ := I.list hq
    have hl := rv.length
    refine ⟨[it, a], fun i v => its.toArray[i]? = some v, fun i h => h.IsListIter it a i ∧ h.IsList a its.toArray, ?_, List.mem_cons_self, fun c hc => ?_, ⟨st, p.isList⟩, fun j h q => q.1, fun j v q => ?_⟩
    · rw [hl, ← List.size_toArray]
      exact Draws.list hh it a off its.toArray
    · rcases List.mem_cons.mp hc with e | e
      · exact .inl e
      · refine .inr fun q => ?_
        rw [List.mem_singleton.mp e] at q
        exact q rfl
    · have q : its[j]? = some v := by simpa using q
      have hj := (List.getElem?_eq_some_iff.mp q).1
      have hx : xs[j]? = some (xs[j]'(by omega)) := List.getElem?_eq_getElem _
      obtain ⟨u, hu, ru⟩ := rv.get hx
      rw [q] at hu
      cases Option.some.inj hu
      exact ⟨_, hx, ru⟩
theorem ZS.begins {v : Value} {xs : List V} (z : ZS) (I : Inv X pins σ H s) (hq : z.at X.K H xs) (r : RelV z.val v) : ∃ o Hh, Begins v o Hh ∧ Hh s.heap ∧ (∀ it h, h.get? it = some o → z.it it 0 h) ∧ z.lt s.heap.objs.size := by
  cases z with
  | tx x =>
    obtain ⟨t, rfl⟩ := (show ∃ t, v = Value.str x t from r)
    exact ⟨_, _, begins_text x t, trivial, fun it h e => ⟨t, _, e, rfl, rfl⟩, trivial⟩
  | tu a =>
    cases (show v = Value.ref a from r)
    obtain ⟨its, rv, p, _⟩ := I.tuple hq
    obtain ⟨o1, ho1, _⟩ := id p
    exact ⟨_, _, begins_tuple a its.toArray, p, fun it h e => ⟨_, e, rfl, rfl⟩, Heap.lt_size ho1⟩
  | li a =>
    cases (show v = Value.ref a from r)
    obtain ⟨its, rv, p, _⟩ := I.list hq
    exact ⟨_, _, begins_list a its.toArray, p.isList, fun it h e => ⟨_, e, rfl, rfl⟩, p.lt⟩
end
def Itz2 (K : PySem.W.Frag) (z1 z2 : ZS) : It :=
  ⟨fun i H => ∃ (xs1 xs2 : List V) (x1 x2 : V), z1.at K H xs1 ∧ z2.at K H xs2 ∧ xs1[i]? = some x1 ∧ xs2[i]? = some x2,
    fun i H v H' => ∃ T x1 x2, v = .ref T ∧ H T = none ∧ H' = upd H T (.tup [x1, x2]) ∧ (∀ xs, z1.at K H xs → xs[i]? = some x1) ∧ (∀ xs, z2.at K H xs → xs[i]? = some x2),
    fun i H => ∃ xs1 xs2 : List V, z1.at K H xs1 ∧ z2.at K H xs2 ∧ i ≤ xs1.length ∧ i ≤ xs2.length ∧ (i = xs1.length ∨ i = xs2.length)⟩
theorem turn_zip2 {P : Program} {w : World} {K : PySem.W.Frag} {elts : List Expr} {kk : Nat} {tpos : Pos} {z1 z2 : ZS} {n : Nat} (l1 : z1.lt n) (l2 : z2.lt n) :
    Turn P w K (.Tuple elts kk tpos) (Itz2 K z1 z2) [n + 4, n + 2, n + 3, n, n + 1] (n + 4) (fun i h => IsZip h (n + 4) (n + 2) (n + 3) .none ∧ IsTupOf2 h (n + 2) (.ref (n)) (.ref (n + 1)) ∧ (∃ x1 x2, IsTupOf2 h (n + 3) x1 x2) ∧ z1.it (n) i h ∧ z2.it (n + 1) i h) where
  mem := List.mem_cons_self
  obj := fun i h st c hc => by
    obtain ⟨hz, hTI, ⟨x1, x2, hTO⟩, st1, st2⟩ := st
    have e' : c = n + 4 ∨ c = n + 2 ∨ c = n + 3 ∨ c = n ∨ c = n + 1 := by simpa using hc
    rcases e' with q | q | q | q | q
    · rw [q]; exact ⟨_, hz, fun v q => nomatch q⟩
    · rw [q]; exact ⟨_, hTI, fun v q => nomatch q⟩
    · rw [q]; exact ⟨_, hTO, fun v q => nomatch q⟩
    · rw [q]; exact ZS.obj (z := z1) st1
    · rw [q]; exact ZS.obj (z := z2) st2
  keep := fun i h h' st k => by
    obtain ⟨hz, hTI, ⟨x1, x2, hTO⟩, st1, st2⟩ := st
    exact ⟨k _ (by simp) _ hz, k _ (by simp) _ hTI, ⟨x1, x2, k _ (by simp) _ hTO⟩, ZS.move (z := z1) (fun o q => k _ (by simp) o q) st1, ZS.move (z := z2) (fun o q => k _ (by simp) o q) st2⟩
  item := by
    intro X hP hw hK hc i pins s σ H E I hf st hg
    subst hP hw hK
    obtain ⟨hz, hTI, ⟨y1, y2, hTO⟩, st1, st2⟩ := st
    obtain ⟨xs1, xs2, x1, x2, q1, q2, h1, h2⟩ := hg
    have hh : X.A.in1.handled = none := I.ok.hd hc
    obtain ⟨fp1, P1, St1, D1, m1, f1, s1, b1, p1⟩ := z1.draws (A := X.A.in1) I q1 hh (ZS.off_of (by omega) l1) st1
    have nf1 : ∀ c, n ≤ c → c ≠ n → c ∉ fp1 := fun c h1 h2 h3 => by
      rcases f1 c h3 with e | e
      · exact h2 e
      · exact e (ZS.off_of h1 l1)
    obtain ⟨fp2, P2, St2, D2, m2, f2, s2, b2, p2⟩ := z2.draws (A := X.A.in1) I q2 hh (ZS.off_of (by omega) l2) st2
    have nf2 : ∀ c, n ≤ c → c ≠ n + 1 → c ∉ fp2 := fun c h1 h2 h3 => by
      rcases f2 c h3 with e | e
      · exact h2 e
      · exact e (ZS.off_of h1 l2)
    have t1 : i < xs1.length := (List.getElem?_eq_some_iff.mp h1).1
    have t2 : i < xs2.length := (List.getElem?_eq_some_iff.mp h2).1
    have hzl : n + 4 < s.heap.objs.size := Heap.lt_size hz
    have S : ZipSep2 (n + 4) (n + 2) (n + 3) (n) (n + 1) fp1 fp2 := { TIz := (ne' (a := n + 2) (b := n + 4) (by omega)), TOz := (ne' (a := n + 3) (b := n + 4) (by omega)), TITO := (ne' (a := n + 2) (b := n + 3) (by omega)), TIi1 := (ne' (a := n + 2) (b := n) (by omega)), mem1 := m1, zf1 := nf1 (n + 4) (by omega) (ne' (a := n + 4) (b := n) (by omega)), Tf1 := nf1 (n + 3) (by omega) (ne' (a := n + 3) (b := n) (by omega)), TIi2 := (ne' (a := n + 2) (b := n + 1) (by omega)), mem2 := m2, zf2 := nf2 (n + 4) (by omega) (ne' (a := n + 4) (b := n + 1) (by omega)), Tf2 := nf2 (n + 3) (by omega) (ne' (a := n + 3) (b := n + 1) (by omega)), sep1_2 := nf2 (n) (by omega) (ne' (a := n) (b := n + 1) (by omega)), sep2_1 := nf1 (n + 1) (by omega) (ne' (a := n + 1) (b := n) (by omega)) }
    refine wpAny_pyNext_zipD2_item S D1 D2 hz hTI hTO s1 s2 t1 t2 fun u1 u2 h' tk g1 g2 z' TO' w1 w2 hT hsz hk => ?_
    refine ⟨_, rfl, wpAny_letOwnedTupleGo_zip (s := { s with heap := h', toks := tk }) z' fun h'' z'' sb => ?_⟩
    obtain ⟨x1', e1, ru1⟩ := p1 i u1 g1
    rw [h1] at e1
    cases Option.some.inj e1
    obtain ⟨x2', e2, ru2⟩ := p2 i u2 g2
    rw [h2] at e2
    cases Option.some.inj e2
    have hT2 : h''.get? s.heap.objs.size = some { cls := .type "tuple", data := .seq #[u1, u2] } := (sb.2 _ (Nat.ne_of_gt hzl)).trans hT
    have new : ObjOk X.prog X.w (upd H s.heap.objs.size (.tup [x1, x2])) h'' s.heap.objs.size (.tup [x1, x2]) :=
      ⟨by show 2 ≤ sizeLine; decide, [u1, u2], .cons ru1 (.cons ru2 (.nil)), ⟨_, hT2, rfl, _, rfl⟩⟩
    have out5 : ∀ c, c ∉ [n + 4, n + 2, n + 3, n, n + 1] → c ≠ n + 4 ∧ c ≠ n + 3 ∧ c ≠ n ∧ c ≠ n + 1 := fun c hb => ⟨fun q' => hb (by simp [q']), fun q' => hb (by simp [q']), fun q' => hb (by simp [q']), fun q' => hb (by simp [q'])⟩
    have I1 : Inv X pins σ (upd H s.heap.objs.size (.tup [x1, x2])) { s with heap := h'', toks := tk } :=
      I.turnedNew (t' := tk) (ch := [n + 4, n + 2, n + 3, n, n + 1]) (fun c o hb q => by
        obtain ⟨a1, a2, b1', b2'⟩ := out5 c hb
        exact (sb.2 c a1).trans (hk c o a1 a2 b1' b2' q)) hf (Nat.le_refl _) new
    refine ⟨.ref s.heap.objs.size, _, I1, rfl, ⟨_, x1, x2, rfl, I.hok.fresh (Nat.le_refl _), rfl, fun l hl => by rw [ZS.inj I hl q1]; exact h1, fun l hl => by rw [ZS.inj I hl q2]; exact h2⟩, ⟨z'', ?_, ⟨u1, u2, ?_⟩, ?_, ?_⟩, fun c hcm => ?_⟩
    · exact (sb.2 (n + 2) (ne' (a := n + 2) (b := n + 4) (by omega))).trans (hk (n + 2) _ (ne' (a := n + 2) (b := n + 4) (by omega)) (ne' (a := n + 2) (b := n + 3) (by omega)) (ne' (a := n + 2) (b := n) (by omega)) (ne' (a := n + 2) (b := n + 1) (by omega)) hTI)
    · exact (sb.2 (n + 3) (ne' (a := n + 3) (b := n + 4) (by omega))).trans TO'
    · exact ZS.move (z := z1) (fun o q => (sb.2 (n) (ne' (a := n) (b := n + 4) (by omega))).trans q) (b1 _ _ w1)
    · exact ZS.move (z := z2) (fun o q => (sb.2 (n + 1) (ne' (a := n + 1) (b := n + 4) (by omega))).trans q) (b2 _ _ w2)
    · have hlt : c < s.heap.objs.size := by
        have e' : c = n + 4 ∨ c = n + 2 ∨ c = n + 3 ∨ c = n ∨ c = n + 1 := by simpa using hcm
        rcases e' with q | q | q | q | q
        · rw [q]; exact (show (n + 4 : Nat) < s.heap.objs.size by omega)
        · rw [q]; exact (show (n + 2 : Nat) < s.heap.objs.size by omega)
        · rw [q]; exact (show (n + 3 : Nat) < s.heap.objs.size by omega)
        · rw [q]; exact (show (n : Nat) < s.heap.objs.size by omega)
        · rw [q]; exact (show (n + 1 : Nat) < s.heap.objs.size by omega)
      rw [upd_ne (Nat.ne_of_lt hlt)]
      exact (hf c hcm).1
  done := by
    intro X hP hw hK hc i pins s σ H E I hf st hg
    subst hP hw hK
    obtain ⟨hz, hTI, ⟨y1, y2, hTO⟩, st1, st2⟩ := st
    obtain ⟨xs1, xs2, q1, q2, t1, t2, hend⟩ := hg
    have hh : X.A.in1.handled = none := I.ok.hd hc
    obtain ⟨fp1, P1, St1, D1, m1, f1, s1, b1, p1⟩ := z1.draws (A := X.A.in1) I q1 hh (ZS.off_of (by omega) l1) st1
    have nf1 : ∀ c, n ≤ c → c ≠ n → c ∉ fp1 := fun c h1 h2 h3 => by
      rcases f1 c h3 with e | e
      · exact h2 e
      · exact e (ZS.off_of h1 l1)
    obtain ⟨fp2, P2, St2, D2, m2, f2, s2, b2, p2⟩ := z2.draws (A := X.A.in1) I q2 hh (ZS.off_of (by omega) l2) st2
    have nf2 : ∀ c, n ≤ c → c ≠ n + 1 → c ∉ fp2 := fun c h1 h2 h3 => by
      rcases f2 c h3 with e | e
      · exact h2 e
      · exact e (ZS.off_of h1 l2)
    have S : ZipSep2 (n + 4) (n + 2) (n + 3) (n) (n + 1) fp1 fp2 := { TIz := (ne' (a := n + 2) (b := n + 4) (by omega)), TOz := (ne' (a := n + 3) (b := n + 4) (by omega)), TITO := (ne' (a := n + 2) (b := n + 3) (by omega)), TIi1 := (ne' (a := n + 2) (b := n) (by omega)), mem1 := m1, zf1 := nf1 (n + 4) (by omega) (ne' (a := n + 4) (b := n) (by omega)), Tf1 := nf1 (n + 3) (by omega) (ne' (a := n + 3) (b := n) (by omega)), TIi2 := (ne' (a := n + 2) (b := n + 1) (by omega)), mem2 := m2, zf2 := nf2 (n + 4) (by omega) (ne' (a := n + 4) (b := n + 1) (by omega)), Tf2 := nf2 (n + 3) (by omega) (ne' (a := n + 3) (b := n + 1) (by omega)), sep1_2 := nf2 (n) (by omega) (ne' (a := n) (b := n + 1) (by omega)), sep2_1 := nf1 (n + 1) (by omega) (ne' (a := n + 1) (b := n) (by omega)) }
    exact wpAny_pyNext_zipD2_end S D1 D2 hz hTI hTO s1 s2 t1 t2 hend fun h' tk hk => ⟨rfl, I.turnedL (t' := tk) (ch := [n + 4, n + 2, n + 3, n, n + 1]) (fun c o hb q =>
      hk c o (fun q' => hb (by simp [q'])) (fun q' => hb (by simp [q'])) (fun q' => hb (by simp [q'])) (fun q' => hb (by simp [q'])) q) hf⟩
  self := fun A i s Q E st h => wpAny_pyIter_zip st.1 h
def iZip2 (K : PySem.W.Frag) (ta : TA) : TI := fun σ H R => ta σ H fun vs H1 => ∃ (z1 z2 : ZS) (xs1 xs2 : List V), vs = [z1.val, z2.val] ∧ z1.at K H1 xs1 ∧ z2.at K H1 xs2 ∧ R (Itz2 K z1 z2) H1
theorem pi_zip2 {X : Cx} {e e2 : Expr} {ta : TA} {p pos tpos : Pos} {elts : List Expr} {kk : Nat} (hg : Gl X "zip") (hm : X.mg "zip" = none) (ha : PA X [e, e2] ta)
    (hs : starEach [e, e2] X.env = (false, eval e X.env) :: starEach [e2] X.env := by rfl) (hpl : (backTo pos (starEach [e2] X.env)).any (·.1) = false := by rfl) :
    PI X (.Tuple elts kk tpos) (.Call (.Name "zip" p) [e, e2] [] pos) (iZip2 X.K ta) := by
  refine ⟨fun pins s σ H R I h => ?_⟩
  refine Call_ (ld_blt I hg hm PyProof.Rows.boot_zip (PyProof.Rows.callWith_type1 (thn (ha.run pos pins s σ H _ I h) fun us s1 ⟨vs, H1, I1, r1, q1⟩ => ?_) hs hpl))
  obtain ⟨z1, z2, xs1, xs2, ex, q1, q2, q⟩ := q1
  subst ex
  cases r1 with
  | cons r1 rr =>
    cases rr with
    | cons r2 rr =>
      cases rr
      obtain ⟨o1, G1, B1, h1, i1, l1⟩ := z1.begins I1 q1 r1
      obtain ⟨o2, G2, B2, h2, i2, l2⟩ := z2.begins I1 q2 r2
      have fresh5 : ∀ c, c ∈ [s1.heap.objs.size + 4, s1.heap.objs.size + 2, s1.heap.objs.size + 3, s1.heap.objs.size, s1.heap.objs.size + 1] → FpOk X pins H1 c := fun c hcm => by
        have e' : c = s1.heap.objs.size + 4 ∨ c = s1.heap.objs.size + 2 ∨ c = s1.heap.objs.size + 3 ∨ c = s1.heap.objs.size ∨ c = s1.heap.objs.size + 1 := by simpa using hcm
        have hle : s1.heap.objs.size ≤ c := by omega
        exact I1.fpOk hle (I1.hok.fresh hle)
      refine zip_begins2 B1 B2 h1 h2 fun h' hz hTI hTO g1 g2 hsz hk => wpAny_pyIter_zip hz ?_
      have I2 : Inv X pins σ H1 { s1 with heap := h' } := I1.kept (t' := s1.toks) hk
      exact ⟨s1.heap.objs.size + 4, [s1.heap.objs.size + 4, s1.heap.objs.size + 2, s1.heap.objs.size + 3, s1.heap.objs.size, s1.heap.objs.size + 1], _, _, H1, rfl, I2, turn_zip2 l1 l2, ⟨hz, hTI, ⟨_, _, hTO⟩, i1 _ _ g1, i2 _ _ g2⟩, fresh5, q⟩
theorem for_zip2 {K : PySem.W.Frag} {z1 z2 : ZS} {xs1 xs2 : List V} {n : Nat} {g : TG} {tb : TS} {D : Ends} {σ : L2.St} {H : Hp} (n1 : xs1.length = n) (n2 : xs2.length = n) (Pv : Nat → L2.St → Hp → Prop) (h0 : Pv 0 σ H) (hl : ∀ i σ H, i ≤ n → Pv i σ H → z1.at K H xs1 ∧ z2.at K H xs2)
    (hs : ∀ (i : Nat) (x1 x2 : V) (T : Addr) (σ : L2.St) (H : Hp), xs1[i]? = some x1 → xs2[i]? = some x2 → H T = none → Pv i σ H → g (.ref T) σ (upd H T (.tup [x1, x2])) fun σ2 H2 => tb { D with nx := Pv (i + 1), ct := Pv (i + 1), bk := D.nx } σ2 H2) (hd : ∀ σ H, Pv n σ H → D.nx σ H) :
    ∃ W : Nat → Nat → L2.St → Hp → Prop, (∃ m, W 0 m σ H) ∧ ∀ i m σ H, W i m σ H →
      ((Itz2 K z1 z2).stop i H ∧ D.nx σ H) ∨ ((Itz2 K z1 z2).go i H ∧ ∃ N : L2.St → Hp → Prop, (∀ σ' H', N σ' H' → ∃ m', m' < m ∧ W (i + 1) m' σ' H') ∧ ∀ v H', (Itz2 K z1 z2).yld i H v H' → g v σ H' fun σ2 H2 => tb { D with nx := N, ct := N, bk := D.nx } σ2 H2) := by
  refine ⟨fun i m σ H => m = n - i ∧ i ≤ n ∧ Pv i σ H, ⟨n, rfl, Nat.zero_le _, h0⟩, ?_⟩
  rintro i m σ H ⟨rfl, hi, p⟩
  obtain ⟨q1, q2⟩ := hl i σ H hi p
  by_cases hlt : i < n
  · have e1 : xs1[i]? = some (xs1[i]'(by omega)) := List.getElem?_eq_getElem _
    have e2 : xs2[i]? = some (xs2[i]'(by omega)) := List.getElem?_eq_getElem _
    refine .inr ⟨⟨xs1, xs2, _, _, q1, q2, e1, e2⟩, Pv (i + 1), fun σ' H' p' => ⟨n - (i + 1), by omega, rfl, hlt, p'⟩, fun v H' y => ?_⟩
    obtain ⟨T, y1, y2, rfl, hT, rfl, f1, f2⟩ := y
    exact hs i y1 y2 T σ H (f1 xs1 q1) (f2 xs2 q2) hT p
  · have e : i = n := by omega
    subst e
    exact .inl ⟨⟨xs1, xs2, q1, q2, by omega, by omega, .inl (by omega)⟩, hd σ H p⟩
theorem lc_zip2 {K : PySem.W.Frag} {z1 z2 : ZS} {xs1 xs2 : List V} {n : Nat} {g : TG} {tt : TT} {te : TE} {vs : List Nat} {σ : L2.St} {H1 : Hp} {D : Addr} {Qd : Hp → Prop} (n1 : xs1.length = n) (n2 : xs2.length = n) (Pv : Nat → Hp → Prop) (h0 : Pv 0 (upd H1 D (.lst []))) (hl : ∀ i H, i ≤ n → Pv i H → z1.at K H xs1 ∧ z2.at K H xs2)
    (hs : ∀ (i : Nat) (x1 x2 : V) (T : Addr) (H : Hp), xs1[i]? = some x1 → xs2[i]? = some x2 → H T = none → Pv i H → g (.ref T) (wipe σ vs) (upd H T (.tup [x1, x2])) fun σ2 H2 => wipe σ2 vs = wipe σ vs ∧ tt σ2 H2 fun b H3 =>
      if b = true then te σ2 H3 fun y H4 => ∃ acc, H4 D = some (.lst acc) ∧ acc.length < sizeLine ∧ Pv (i + 1) (upd H4 D (.lst (acc ++ [y]))) else Pv (i + 1) H3) (hd : ∀ H, Pv n H → Qd H) :
    ∃ W : Nat → Nat → Hp → Prop, (∃ m, W 0 m (upd H1 D (.lst []))) ∧ ∀ i m H, W i m H →
      ((Itz2 K z1 z2).stop i H ∧ Qd H) ∨ ((Itz2 K z1 z2).go i H ∧ ∃ Nx : Hp → Prop, (∀ H', Nx H' → ∃ m', m' < m ∧ W (i + 1) m' H') ∧ ∀ x H', (Itz2 K z1 z2).yld i H x H' → g x (wipe σ vs) H' fun σ2 H2 => wipe σ2 vs = wipe σ vs ∧ tt σ2 H2 fun b H3 =>
        if b = true then te σ2 H3 fun y H4 => ∃ acc, H4 D = some (.lst acc) ∧ acc.length < sizeLine ∧ Nx (upd H4 D (.lst (acc ++ [y]))) else Nx H3) := by
  refine ⟨fun i m H => m = n - i ∧ i ≤ n ∧ Pv i H, ⟨n, by simp, Nat.zero_le _, h0⟩, ?_⟩
  rintro i m H ⟨rfl, hi, p⟩
  obtain ⟨q1, q2⟩ := hl i H hi p
  by_cases hlt : i < n
  · have e1 : xs1[i]? = some (xs1[i]'(by omega)) := List.getElem?_eq_getElem _
    have e2 : xs2[i]? = some (xs2[i]'(by omega)) := List.getElem?_eq_getElem _
    refine .inr ⟨⟨xs1, xs2, _, _, q1, q2, e1, e2⟩, Pv (i + 1), fun H' p' => ⟨n - (i + 1), by omega, rfl, hlt, p'⟩, fun v H' y => ?_⟩
    obtain ⟨T, y1, y2, rfl, hT, rfl, f1, f2⟩ := y
    exact hs i y1 y2 T H (f1 xs1 q1) (f2 xs2 q2) hT p
  · have e : i = n := by omega
    subst e
    exact .inl ⟨⟨xs1, xs2, q1, q2, by omega, by omega, .inl (by omega)⟩, hd H p⟩
theorem gx_zip2 {α : Type} {K : PySem.W.Frag} {z1 z2 : ZS} {xs1 xs2 : List V} {n : Nat} {g : TG} {tt : TT} {te : TE} {vs : List Nat} {σ0 : L2.St} {End : α → Hp → Prop} {Yd : α → V → Hp → (α → Hp → Prop) → Prop} {a0 : α} {H0 : Hp} (n1 : xs1.length = n) (n2 : xs2.length = n) (Pv : Nat → α → Hp → Prop) (h0 : Pv 0 a0 H0) (hl : ∀ i c H, i ≤ n → Pv i c H → z1.at K H xs1 ∧ z2.at K H xs2)
    (hs : ∀ (i : Nat) (x1 x2 : V) (T : Addr) (c : α) (H : Hp), xs1[i]? = some x1 → xs2[i]? = some x2 → H T = none → Pv i c H → g (.ref T) σ0 (upd H T (.tup [x1, x2])) fun σ2 H2 => wipe σ2 vs = σ0 ∧ tt σ2 H2 fun b H3 => if b = true then te σ2 H3 fun y H4 => Yd c y H4 (Pv (i + 1)) else Pv (i + 1) c H3) (hd : ∀ c H, Pv n c H → End c H) :
    ∃ W : Nat → Nat → α → Hp → Prop, (∃ m, W 0 m a0 H0) ∧ tGx (Itz2 K z1 z2) g tt te σ0 vs End Yd W := by
  refine ⟨fun i m c H => m = n - i ∧ i ≤ n ∧ Pv i c H, ⟨n, rfl, Nat.zero_le _, h0⟩, ?_⟩
  rintro i m c H ⟨rfl, hi, p⟩
  obtain ⟨q1, q2⟩ := hl i c H hi p
  by_cases hlt : i < n
  · have e1 : xs1[i]? = some (xs1[i]'(by omega)) := List.getElem?_eq_getElem _
    have e2 : xs2[i]? = some (xs2[i]'(by omega)) := List.getElem?_eq_getElem _
    refine .inr ⟨⟨xs1, xs2, _, _, q1, q2, e1, e2⟩, Pv (i + 1), fun c' H' p' => ⟨n - (i + 1), by omega, rfl, hlt, p'⟩, fun v H' y => ?_⟩
    obtain ⟨T, y1, y2, rfl, hT, rfl, f1, f2⟩ := y
    exact hs i y1 y2 T c H (f1 xs1 q1) (f2 xs2 q2) hT p
  · have e : i = n := by omega
    subst e
    exact .inl ⟨⟨xs1, xs2, q1, q2, by omega, by omega, .inl (by omega)⟩, hd c H p⟩
def Itz3 (K : PySem.W.Frag) (z1 z2 z3 : ZS) : It :=
  ⟨fun i H => ∃ (xs1 xs2 xs3 : List V) (x1 x2 x3 : V), z1.at K H xs1 ∧ z2.at K H xs2 ∧ z3.at K H xs3 ∧ xs1[i]? = some x1 ∧ xs2[i]? = some x2 ∧ xs3[i]? = some x3,
    fun i H v H' => ∃ T x1 x2 x3, v = .ref T ∧ H T = none ∧ H' = upd H T (.tup [x1, x2, x3]) ∧ (∀ xs, z1.at K H xs → xs[i]? = some x1) ∧ (∀ xs, z2.at K H xs → xs[i]? = some x2) ∧ (∀ xs, z3.at K H xs → xs[i]? = some x3),
    fun i H => ∃ xs1 xs2 xs3 : List V, z1.at K H xs1 ∧ z2.at K H xs2 ∧ z3.at K H xs3 ∧ i ≤ xs1.length ∧ i ≤ xs2.length ∧ i ≤ xs3.length ∧ (i = xs1.length ∨ i = xs2.length ∨ i = xs3.length)⟩
theorem turn_zip3 {P : Program} {w : World} {K : PySem.W.Frag} {elts : List Expr} {kk : Nat} {tpos : Pos} {z1 z2 z3 : ZS} {n : Nat} (l1 : z1.lt n) (l2 : z2.lt n) (l3 : z3.lt n) :
    Turn P w K (.Tuple elts kk tpos) (Itz3 K z1 z2 z3) [n + 5, n + 3, n + 4, n, n + 1, n + 2] (n + 5) (fun i h => IsZip h (n + 5) (n + 3) (n + 4) .none ∧ IsTupOf3 h (n + 3) (.ref (n)) (.ref (n + 1)) (.ref (n + 2)) ∧ (∃ x1 x2 x3, IsTupOf3 h (n + 4) x1 x2 x3) ∧ z1.it (n) i h ∧ z2.it (n + 1) i h ∧ z3.it (n + 2) i h) where
  mem := List.mem_cons_self
  obj := fun i h st c hc => by
    obtain ⟨hz, hTI, ⟨x1, x2, x3, hTO⟩, st1, st2, st3⟩ := st
    have e' : c = n + 5 ∨ c = n + 3 ∨ c = n + 4 ∨ c = n ∨ c = n + 1 ∨ c = n + 2 := by simpa using hc
    rcases e' with q | q | q | q | q | q
    · rw [q]; exact ⟨_, hz, fun v q => nomatch q⟩
    · rw [q]; exact ⟨_, hTI, fun v q => nomatch q⟩
    · rw [q]; exact ⟨_, hTO, fun v q => nomatch q⟩
    · rw [q]; exact ZS.obj (z := z1) st1
    · rw [q]; exact ZS.obj (z := z2) st2
    · rw [q]; exact ZS.obj (z := z3) st3
  keep := fun i h h' st k => by
    obtain ⟨hz, hTI, ⟨x1, x2, x3, hTO⟩, st1, st2, st3⟩ := st
    exact ⟨k _ (by simp) _ hz, k _ (by simp) _ hTI, ⟨x1, x2, x3, k _ (by simp) _ hTO⟩, ZS.move (z := z1) (fun o q => k _ (by simp) o q) st1, ZS.move (z := z2) (fun o q => k _ (by simp) o q) st2, ZS.move (z := z3) (fun o q => k _ (by simp) o q) st3⟩
  item := by
    intro X hP hw hK hc i pins s σ H E I hf st hg
    subst hP hw hK
    obtain ⟨hz, hTI, ⟨y1, y2, y3, hTO⟩, st1, st2, st3⟩ := st
    obtain ⟨xs1, xs2, xs3, x1, x2, x3, q1, q2, q3, h1, h2, h3⟩ := hg
    have hh : X.A.in1.handled = none := I.ok.hd hc
    obtain ⟨fp1, P1, St1, D1, m1, f1, s1, b1, p1⟩ := z1.draws (A := X.A.in1) I q1 hh (ZS.off_of (by omega) l1) st1
    have nf1 : ∀ c, n ≤ c → c ≠ n → c ∉ fp1 := fun c h1 h2 h3 => by
      rcases f1 c h3 with e | e
      · exact h2 e
      · exact e (ZS.off_of h1 l1)
    obtain ⟨fp2, P2, St2, D2, m2, f2, s2, b2, p2⟩ := z2.draws (A := X.A.in1) I q2 hh (ZS.off_of (by omega) l2) st2
    have nf2 : ∀ c, n ≤ c → c ≠ n + 1 → c ∉ fp2 := fun c h1 h2 h3 => by
      rcases f2 c h3 with e | e
      · exact h2 e
      · exact e (ZS.off_of h1 l2)
    obtain ⟨fp3, P3, St3, D3, m3, f3, s3, b3, p3⟩ := z3.draws (A := X.A.in1) I q3 hh (ZS.off_of (by omega) l3) st3
    have nf3 : ∀ c, n ≤ c → c ≠ n + 2 → c ∉ fp3 := fun c h1 h2 h3 => by
      rcases f3 c h3 with e | e
      · exact h2 e
      · exact e (ZS.off_of h1 l3)
    have t1 : i < xs1.length := (List.getElem?_eq_some_iff.mp h1).1
    have t2 : i < xs2.length := (List.getElem?_eq_some_iff.mp h2).1
    have t3 : i < xs3.length := (List.getElem?_eq_some_iff.mp h3).1
    have hzl : n + 5 < s.heap.objs.size := Heap.lt_size hz
    have S : ZipSep3 (n + 5) (n + 3) (n + 4) (n) (n + 1) (n + 2) fp1 fp2 fp3 := { TIz := (ne' (a := n + 3) (b := n + 5) (by omega)), TOz := (ne' (a := n + 4) (b := n + 5) (by omega)), TITO := (ne' (a := n + 3) (b := n + 4) (by omega)), TIi1 := (ne' (a := n + 3) (b := n) (by omega)), mem1 := m1, zf1 := nf1 (n + 5) (by omega) (ne' (a := n + 5) (b := n) (by omega)), Tf1 := nf1 (n + 4) (by omega) (ne' (a := n + 4) (b := n) (by omega)), TIi2 := (ne' (a := n + 3) (b := n + 1) (by omega)), mem2 := m2, zf2 := nf2 (n + 5) (by omega) (ne' (a := n + 5) (b := n + 1) (by omega)), Tf2 := nf2 (n + 4) (by omega) (ne' (a := n + 4) (b := n + 1) (by omega)), TIi3 := (ne' (a := n + 3) (b := n + 2) (by omega)), mem3 := m3, zf3 := nf3 (n + 5) (by omega) (ne' (a := n + 5) (b := n + 2) (by omega)), Tf3 := nf3 (n + 4) (by omega) (ne' (a := n + 4) (b := n + 2) (by omega)), sep1_2 := nf2 (n) (by omega) (ne' (a := n) (b := n + 1) (by omega)), sep1_3 := nf3 (n) (by omega) (ne' (a := n) (b := n + 2) (by omega)), sep2_1 := nf1 (n + 1) (by omega) (ne' (a := n + 1) (b := n) (by omega)), sep2_3 := nf3 (n + 1) (by omega) (ne' (a := n + 1) (b := n + 2) (by omega)), sep3_1 := nf1 (n + 2) (by omega) (ne' (a := n + 2) (b := n) (by omega)), sep3_2 := nf2 (n + 2) (by omega) (ne' (a := n + 2) (b := n + 1) (by omega)) }
    refine wpAny_pyNext_zipD3_item S D1 D2 D3 hz hTI hTO s1 s2 s3 t1 t2 t3 fun u1 u2 u3 h' tk g1 g2 g3 z' TO' w1 w2 w3 hT hsz hk => ?_
    refine ⟨_, rfl, wpAny_letOwnedTupleGo_zip (s := { s with heap := h', toks := tk }) z' fun h'' z'' sb => ?_⟩
    obtain ⟨x1', e1, ru1⟩ := p1 i u1 g1
    rw [h1] at e1
    cases Option.some.inj e1
    obtain ⟨x2', e2, ru2⟩ := p2 i u2 g2
    rw [h2] at e2
    cases Option.some.inj e2
    obtain ⟨x3', e3, ru3⟩ := p3 i u3 g3
    rw [h3] at e3
    cases Option.some.inj e3
    have hT2 : h''.get? s.heap.objs.size = some { cls := .type "tuple", data := .seq #[u1, u2, u3] } := (sb.2 _ (Nat.ne_of_gt hzl)).trans hT
    have new : ObjOk X.prog X.w (upd H s.heap.objs.size (.tup [x1, x2, x3])) h'' s.heap.objs.size (.tup [x1, x2, x3]) :=
      ⟨by show 3 ≤ sizeLine; decide, [u1, u2, u3], .cons ru1 (.cons ru2 (.cons ru3 (.nil))), ⟨_, hT2, rfl, _, rfl⟩⟩
    have out5 : ∀ c, c ∉ [n + 5, n + 3, n + 4, n, n + 1, n + 2] → c ≠ n + 5 ∧ c ≠ n + 4 ∧ c ≠ n ∧ c ≠ n + 1 ∧ c ≠ n + 2 := fun c hb => ⟨fun q' => hb (by simp [q']), fun q' => hb (by simp [q']), fun q' => hb (by simp [q']), fun q' => hb (by simp [q']), fun q' => hb (by simp [q'])⟩
    have I1 : Inv X pins σ (upd H s.heap.objs.size (.tup [x1, x2, x3])) { s with heap := h'', toks := tk } :=
      I.turnedNew (t' := tk) (ch := [n + 5, n + 3, n + 4, n, n + 1, n + 2]) (fun c o hb q => by
        obtain ⟨a1, a2, b1', b2', b3'⟩ := out5 c hb
        exact (sb.2 c a1).trans (hk c o a1 a2 b1' b2' b3' q)) hf (Nat.le_refl _) new
    refine ⟨.ref s.heap.objs.size, _, I1, rfl, ⟨_, x1, x2, x3, rfl, I.hok.fresh (Nat.le_refl _), rfl, fun l hl => by rw [ZS.inj I hl q1]; exact h1, fun l hl => by rw [ZS.inj I hl q2]; exact h2, fun l hl => by rw [ZS.inj I hl q3]; exact h3⟩, ⟨z'', ?_, ⟨u1, u2, u3, ?_⟩, ?_, ?_, ?_⟩, fun c hcm => ?_⟩
    · exact (sb.2 (n + 3) (ne' (a := n + 3) (b := n + 5) (by omega))).trans (hk (n + 3) _ (ne' (a := n + 3) (b := n + 5) (by omega)) (ne' (a := n + 3) (b := n + 4) (by omega)) (ne' (a := n + 3) (b := n) (by omega)) (ne' (a := n + 3) (b := n + 1) (by omega)) (ne' (a := n + 3) (b := n + 2) (by omega)) hTI)
    · exact (sb.2 (n + 4) (ne' (a := n + 4) (b := n + 5) (by omega))).trans TO'
    · exact ZS.move (z := z1) (fun o q => (sb.2 (n) (ne' (a := n) (b := n + 5) (by omega))).trans q) (b1 _ _ w1)
    · exact ZS.move (z := z2) (fun o q => (sb.2 (n + 1) (ne' (a := n + 1) (b := n + 5) (by omega))).trans q) (b2 _ _ w2)
    · exact ZS.move (z := z3) (fun o q => (sb.2 (n + 2) (ne' (a := n + 2) (b := n + 5) (by omega))).trans q) (b3 _ _ w3)
    · have hlt : c < s.heap.objs.size := by
        have e' : c = n + 5 ∨ c = n + 3 ∨ c = n + 4 ∨ c = n ∨ c = n + 1 ∨ c = n + 2 := by simpa using hcm
        rcases e' with q | q | q | q | q | q
        · rw [q]; exact (show (n + 5 : Nat) < s.heap.objs.size by omega)
        · rw [q]; exact (show (n + 3 : Nat) < s.heap.objs.size by omega)
        · rw [q]; exact (show (n + 4 : Nat) < s.heap.objs.size by omega)
        · rw [q]; exact (show (n : Nat) < s.heap.objs.size by omega)
        · rw [q]; exact (show (n + 1 : Nat) < s.heap.objs.size by omega)
        · rw [q]; exact (show (n + 2 : Nat) < s.heap.objs.size by omega)
      rw [upd_ne (Nat.ne_of_lt hlt)]
      exact (hf c hcm).1
  done := by
    intro X hP hw hK hc i pins s σ H E I hf st hg
    subst hP hw hK
    obtain ⟨hz, hTI, ⟨y1, y2, y3, hTO⟩, st1, st2, st3⟩ := st
    obtain ⟨xs1, xs2, xs3, q1, q2, q3, t1, t2, t3, hend⟩ := hg
    have hh : X.A.in1.handled = none := I.ok.hd hc
    obtain ⟨fp1, P1, St1, D1, m1, f1, s1, b1, p1⟩ := z1.draws (A := X.A.in1) I q1 hh (ZS.off_of (by omega) l1) st1
    have nf1 : ∀ c, n ≤ c → c ≠ n → c ∉ fp1 := fun c h1 h2 h3 => by
      rcases f1 c h3 with e | e
      · exact h2 e
      · exact e (ZS.off_of h1 l1)
    obtain ⟨fp2, P2, St2, D2, m2, f2, s2, b2, p2⟩ := z2.draws (A := X.A.in1) I q2 hh (ZS.off_of (by omega) l2) st2
    have nf2 : ∀ c, n ≤ c → c ≠ n + 1 → c ∉ fp2 := fun c h1 h2 h3 => by
      rcases f2 c h3 with e | e
      · exact h2 e
      · exact e (ZS.off_of h1 l2)
    obtain ⟨fp3, P3, St3, D3, m3, f3, s3, b3, p3⟩ := z3.draws (A := X.A.in1) I q3 hh (ZS.off_of (by omega) l3) st3
    have nf3 : ∀ c, n ≤ c → c ≠ n + 2 → c ∉ fp3 := fun c h1 h2 h3 => by
      rcases f3 c h3 with e | e
      · exact h2 e
      · exact e (ZS.off_of h1 l3)
    have S : ZipSep3 (n + 5) (n + 3) (n + 4) (n) (n + 1) (n + 2) fp1 fp2 fp3 := { TIz := (ne' (a := n + 3) (b := n + 5) (by omega)), TOz := (ne' (a := n + 4) (b := n + 5) (by omega)), TITO := (ne' (a := n + 3) (b := n + 4) (by omega)), TIi1 := (ne' (a := n + 3) (b := n) (by omega)), mem1 := m1, zf1 := nf1 (n + 5) (by omega) (ne' (a := n + 5) (b := n) (by omega)), Tf1 := nf1 (n + 4) (by omega) (ne' (a := n + 4) (b := n) (by omega)), TIi2 := (ne' (a := n + 3) (b := n + 1) (by omega)), mem2 := m2, zf2 := nf2 (n + 5) (by omega) (ne' (a := n + 5) (b := n + 1) (by omega)), Tf2 := nf2 (n + 4) (by omega) (ne' (a := n + 4) (b := n + 1) (by omega)), TIi3 := (ne' (a := n + 3) (b := n + 2) (by omega)), mem3 := m3, zf3 := nf3 (n + 5) (by omega) (ne' (a := n + 5) (b := n + 2) (by omega)), Tf3 := nf3 (n + 4) (by omega) (ne' (a := n + 4) (b := n + 2) (by omega)), sep1_2 := nf2 (n) (by omega) (ne' (a := n) (b := n + 1) (by omega)), sep1_3 := nf3 (n) (by omega) (ne' (a := n) (b := n + 2) (by omega)), sep2_1 := nf1 (n + 1) (by omega) (ne' (a := n + 1) (b := n) (by omega)), sep2_3 := nf3 (n + 1) (by omega) (ne' (a := n + 1) (b := n + 2) (by omega)), sep3_1 := nf1 (n + 2) (by omega) (ne' (a := n + 2) (b := n) (by omega)), sep3_2 := nf2 (n + 2) (by omega) (ne' (a := n + 2) (b := n + 1) (by omega)) }
    exact wpAny_pyNext_zipD3_end S D1 D2 D3 hz hTI hTO s1 s2 s3 t1 t2 t3 hend fun h' tk hk => ⟨rfl, I.turnedL (t' := tk) (ch := [n + 5, n + 3, n + 4, n, n + 1, n + 2]) (fun c o hb q =>
      hk c o (fun q' => hb (by simp [q'])) (fun q' => hb (by simp [q'])) (fun q' => hb (by simp [q'])) (fun q' => hb (by simp [q'])) (fun q' => hb (by simp [q'])) q) hf⟩
  self := fun A i s Q E st h => wpAny_pyIter_zip st.1 h
def iZip3 (K : PySem.W.Frag) (ta : TA) : TI := fun σ H R => ta σ H fun vs H1 => ∃ (z1 z2 z3 : ZS) (xs1 xs2 xs3 : List V), vs = [z1.val, z2.val, z3.val] ∧ z1.at K H1 xs1 ∧ z2.at K H1 xs2 ∧ z3.at K H1 xs3 ∧ R (Itz3 K z1 z2 z3) H1
theorem pi_zip3 {X : Cx} {e e2 e3 : Expr} {ta : TA} {p pos tpos : Pos} {elts : List Expr} {kk : Nat} (hg : Gl X "zip") (hm : X.mg "zip" = none) (ha : PA X [e, e2, e3] ta)
    (hs : starEach [e, e2, e3] X.env = (false, eval e X.env) :: starEach [e2, e3] X.env := by rfl) (hpl : (backTo pos (starEach [e2, e3] X.env)).any (·.1) = false := by rfl) :
    PI X (.Tuple elts kk tpos) (.Call (.Name "zip" p) [e, e2, e3] [] pos) (iZip3 X.K ta) := by
  refine ⟨fun pins s σ H R I h => ?_⟩
  refine Call_ (ld_blt I hg hm PyProof.Rows.boot_zip (PyProof.Rows.callWith_type1 (thn (ha.run pos pins s σ H _ I h) fun us s1 ⟨vs, H1, I1, r1, q1⟩ => ?_) hs hpl))
  obtain ⟨z1, z2, z3, xs1, xs2, xs3, ex, q1, q2, q3, q⟩ := q1
  subst ex
  cases r1 with
  | cons r1 rr =>
    cases rr with
    | cons r2 rr =>
      cases rr with
      | cons r3 rr =>
        cases rr
        obtain ⟨o1, G1, B1, h1, i1, l1⟩ := z1.begins I1 q1 r1
        obtain ⟨o2, G2, B2, h2, i2, l2⟩ := z2.begins I1 q2 r2
        obtain ⟨o3, G3, B3, h3, i3, l3⟩ := z3.begins I1 q3 r3
        have fresh5 : ∀ c, c ∈ [s1.heap.objs.size + 5, s1.heap.objs.size + 3, s1.heap.objs.size + 4, s1.heap.objs.size, s1.heap.objs.size + 1, s1.heap.objs.size + 2] → FpOk X pins H1 c := fun c hcm => by
          have e' : c = s1.heap.objs.size + 5 ∨ c = s1.heap.objs.size + 3 ∨ c = s1.heap.objs.size + 4 ∨ c = s1.heap.objs.size ∨ c = s1.heap.objs.size + 1 ∨ c = s1.heap.objs.size + 2 := by simpa using hcm
          have hle : s1.heap.objs.size ≤ c := by omega
          exact I1.fpOk hle (I1.hok.fresh hle)
        refine zip_begins3 B1 B2 B3 h1 h2 h3 fun h' hz hTI hTO g1 g2 g3 hsz hk => wpAny_pyIter_zip hz ?_
        have I2 : Inv X pins σ H1 { s1 with heap := h' } := I1.kept (t' := s1.toks) hk
        exact ⟨s1.heap.objs.size + 5, [s1.heap.objs.size + 5, s1.heap.objs.size + 3, s1.heap.objs.size + 4, s1.heap.objs.size, s1.heap.objs.size + 1, s1.heap.objs.size + 2], _, _, H1, rfl, I2, turn_zip3 l1 l2 l3, ⟨hz, hTI, ⟨_, _, _, hTO⟩, i1 _ _ g1, i2 _ _ g2, i3 _ _ g3⟩, fresh5, q⟩
theorem for_zip3 {K : PySem.W.Frag} {z1 z2 z3 : ZS} {xs1 xs2 xs3 : List V} {n : Nat} {g : TG} {tb : TS} {D : Ends} {σ : L2.St} {H : Hp} (n1 : xs1.length = n) (n2 : xs2.length = n) (n3 : xs3.length = n) (Pv : Nat → L2.St → Hp → Prop) (h0 : Pv 0 σ H) (hl : ∀ i σ H, i ≤ n → Pv i σ H → z1.at K H xs1 ∧ z2.at K H xs2 ∧ z3.at K H xs3)
    (hs : ∀ (i : Nat) (x1 x2 x3 : V) (T : Addr) (σ : L2.St) (H : Hp), xs1[i]? = some x1 → xs2[i]? = some x2 → xs3[i]? = some x3 → H T = none → Pv i σ H → g (.ref T) σ (upd H T (.tup [x1, x2, x3])) fun σ2 H2 => tb { D with nx := Pv (i + 1), ct := Pv (i + 1), bk := D.nx } σ2 H2) (hd : ∀ σ H, Pv n σ H → D.nx σ H) :
    ∃ W : Nat → Nat → L2.St → Hp → Prop, (∃ m, W 0 m σ H) ∧ ∀ i m σ H, W i m σ H →
      ((Itz3 K z1 z2 z3).stop i H ∧ D.nx σ H) ∨ ((Itz3 K z1 z2 z3).go i H ∧ ∃ N : L2.St → Hp → Prop, (∀ σ' H', N σ' H' → ∃ m', m' < m ∧ W (i + 1) m' σ' H') ∧ ∀ v H', (Itz3 K z1 z2 z3).yld i H v H' → g v σ H' fun σ2 H2 => tb { D with nx := N, ct := N, bk := D.nx } σ2 H2) := by
  refine ⟨fun i m σ H => m = n - i ∧ i ≤ n ∧ Pv i σ H, ⟨n, rfl, Nat.zero_le _, h0⟩, ?_⟩
  rintro i m σ H ⟨rfl, hi, p⟩
  obtain ⟨q1, q2, q3⟩ := hl i σ H hi p
  by_cases hlt : i < n
  · have e1 : xs1[i]? = some (xs1[i]'(by omega)) := List.getElem?_eq_getElem _
    have e2 : xs2[i]? = some (xs2[i]'(by omega)) := List.getElem?_eq_getElem _
    have e3 : xs3[i]? = some (xs3[i]'(by omega)) := List.getElem?_eq_getElem _
    refine .inr ⟨⟨xs1, xs2, xs3, _, _, _, q1, q2, q3, e1, e2, e3⟩, Pv (i + 1), fun σ' H' p' => ⟨n - (i + 1), by omega, rfl, hlt, p'⟩, fun v H' y => ?_⟩
    obtain ⟨T, y1, y2, y3, rfl, hT, rfl, f1, f2, f3⟩ := y
    exact hs i y1 y2 y3 T σ H (f1 xs1 q1) (f2 xs2 q2) (f3 xs3 q3) hT p
  · have e : i = n := by omega
    subst e
    exact .inl ⟨⟨xs1, xs2, xs3, q1, q2, q3, by omega, by omega, by omega, .inl (by omega)⟩, hd σ H p⟩
theorem lc_zip3 {K : PySem.W.Frag} {z1 z2 z3 : ZS} {xs1 xs2 xs3 : List V} {n : Nat} {g : TG} {tt : TT} {te : TE} {vs : List Nat} {σ : L2.St} {H1 : Hp} {D : Addr} {Qd : Hp → Prop} (n1 : xs1.length = n) (n2 : xs2.length = n) (n3 : xs3.length = n) (Pv : Nat → Hp → Prop) (h0 : Pv 0 (upd H1 D (.lst []))) (hl : ∀ i H, i ≤ n → Pv i H → z1.at K H xs1 ∧ z2.at K H xs2 ∧ z3.at K H xs3)
    (hs : ∀ (i : Nat) (x1 x2 x3 : V) (T : Addr) (H : Hp), xs1[i]? = some x1 → xs2[i]? = some x2 → xs3[i]? = some x3 → H T = none → Pv i H → g (.ref T) (wipe σ vs) (upd H T (.tup [x1, x2, x3])) fun σ2 H2 => wipe σ2 vs = wipe σ vs ∧ tt σ2 H2 fun b H3 =>
      if b = true then te σ2 H3 fun y H4 => ∃ acc, H4 D = some (.lst acc) ∧ acc.length < sizeLine ∧ Pv (i + 1) (upd H4 D (.lst (acc ++ [y]))) else Pv (i + 1) H3) (hd : ∀ H, Pv n H → Qd H) :
    ∃ W : Nat → Nat → Hp → Prop, (∃ m, W 0 m (upd H1 D (.lst []))) ∧ ∀ i m H, W i m H →
      ((Itz3 K z1 z2 z3).stop i H ∧ Qd H) ∨ ((Itz3 K z1 z2 z3).go i H ∧ ∃ Nx : Hp → Prop, (∀ H', Nx H' → ∃ m', m' < m ∧ W (i + 1) m' H') ∧ ∀ x H', (Itz3 K z1 z2 z3).yld i H x H' → g x (wipe σ vs) H' fun σ2 H2 => wipe σ2 vs = wipe σ vs ∧ tt σ2 H2 fun b H3 =>
        if b = true then te σ2 H3 fun y H4 => ∃ acc, H4 D = some (.lst acc) ∧ acc.length < sizeLine ∧ Nx (upd H4 D (.lst (acc ++ [y]))) else Nx H3) := by
  refine ⟨fun i m H => m = n - i ∧ i ≤ n ∧ Pv i H, ⟨n, by simp, Nat.zero_le _, h0⟩, ?_⟩
  rintro i m H ⟨rfl, hi, p⟩
  obtain ⟨q1, q2, q3⟩ := hl i H hi p
  by_cases hlt : i < n
  · have e1 : xs1[i]? = some (xs1[i]'(by omega)) := List.getElem?_eq_getElem _
    have e2 : xs2[i]? = some (xs2[i]'(by omega)) := List.getElem?_eq_getElem _
    have e3 : xs3[i]? = some (xs3[i]'(by omega)) := List.getElem?_eq_getElem _
    refine .inr ⟨⟨xs1, xs2, xs3, _, _, _, q1, q2, q3, e1, e2, e3⟩, Pv (i + 1), fun H' p' => ⟨n - (i + 1), by omega, rfl, hlt, p'⟩, fun v H' y => ?_⟩
    obtain ⟨T, y1, y2, y3, rfl, hT, rfl, f1, f2, f3⟩ := y
    exact hs i y1 y2 y3 T H (f1 xs1 q1) (f2 xs2 q2) (f3 xs3 q3) hT p
  · have e : i = n := by omega
    subst e
    exact .inl ⟨⟨xs1, xs2, xs3, q1, q2, q3, by omega, by omega, by omega, .inl (by omega)⟩, hd H p⟩
theorem gx_zip3 {α : Type} {K : PySem.W.Frag} {z1 z2 z3 : ZS} {xs1 xs2 xs3 : List V} {n : Nat} {g : TG} {tt : TT} {te : TE} {vs : List Nat} {σ0 : L2.St} {End : α → Hp → Prop} {Yd : α → V → Hp → (α → Hp → Prop) → Prop} {a0 : α} {H0 : Hp} (n1 : xs1.length = n) (n2 : xs2.length = n) (n3 : xs3.length = n) (Pv : Nat → α → Hp → Prop) (h0 : Pv 0 a0 H0) (hl : ∀ i c H, i ≤ n → Pv i c H → z1.at K H xs1 ∧ z2.at K H xs2 ∧ z3.at K H xs3)
    (hs : ∀ (i : Nat) (x1 x2 x3 : V) (T : Addr) (c : α) (H : Hp), xs1[i]? = some x1 → xs2[i]? = some x2 → xs3[i]? = some x3 → H T = none → Pv i c H → g (.ref T) σ0 (upd H T (.tup [x1, x2, x3])) fun σ2 H2 => wipe σ2 vs = σ0 ∧ tt σ2 H2 fun b H3 => if b = true then te σ2 H3 fun y H4 => Yd c y H4 (Pv (i + 1)) else Pv (i + 1) c H3) (hd : ∀ c H, Pv n c H → End c H) :
    ∃ W : Nat → Nat → α → Hp → Prop, (∃ m, W 0 m a0 H0) ∧ tGx (Itz3 K z1 z2 z3) g tt te σ0 vs End Yd W := by
  refine ⟨fun i m c H => m = n - i ∧ i ≤ n ∧ Pv i c H, ⟨n, rfl, Nat.zero_le _, h0⟩, ?_⟩
  rintro i m c H ⟨rfl, hi, p⟩
  obtain ⟨q1, q2, q3⟩ := hl i c H hi p
  by_cases hlt : i < n
  · have e1 : xs1[i]? = some (xs1[i]'(by omega)) := List.getElem?_eq_getElem _
    have e2 : xs2[i]? = some (xs2[i]'(by omega)) := List.getElem?_eq_getElem _
    have e3 : xs3[i]? = some (xs3[i]'(by omega)) := List.getElem?_eq_getElem _
    refine .inr ⟨⟨xs1, xs2, xs3, _, _, _, q1, q2, q3, e1, e2, e3⟩, Pv (i + 1), fun c' H' p' => ⟨n - (i + 1), by omega, rfl, hlt, p'⟩, fun v H' y => ?_⟩
    obtain ⟨T, y1, y2, y3, rfl, hT, rfl, f1, f2, f3⟩ := y
    exact hs i y1 y2 y3 T c H (f1 xs1 q1) (f2 xs2 q2) (f3 xs3 q3) hT p
  · have e : i = n := by omega
    subst e
    exact .inl ⟨⟨xs1, xs2, xs3, q1, q2, q3, by omega, by omega, by omega, .inl (by omega)⟩, hd c H p⟩
end ZpG

/-! ### sum(elt for tg in iter ..), of ints -/
namespace GxS
open PySem PySem.Spec PyProof.Rows L2
section
variable {X : Cx} {A A' : Around} {s_0 : Shared} {H_0 : Hp} {cenv : Env} {fp : List Addr} {tn : Nat → Heap → Prop} {ga S : Addr} {gn n : Nat} {go : Obj}
def ACs (ga : Addr) (go : Obj) (S : Addr) (a : Int) (cp : List (Addr × Obj)) : Prop := ∃ (t : Tok) (c : Nat), cp = [(ga, go), (S, lstObj #[.int a t] c)]
def YdS (a : Int) (y : V) (H : Hp) (Nx : Int → Hp → Prop) : Prop := ∃ i : Int, y = .int i ∧ InLong i ∧ InLong (a + i) ∧ Nx (a + i) H
theorem lst_one {a a' : Int} {t t' : Tok} {c c' : Nat} (h : some (lstObj #[Value.int a t] c) = some (lstObj #[Value.int a' t'] c')) : a' = a := by
  have h1 := congrArg Obj.data (Option.some.inj h)
  have h2 : #[Value.int a t] = #[Value.int a' t'] := by
    have h1 : (lstObj #[Value.int a t] c).data = (lstObj #[Value.int a' t'] c').data := h1
    unfold lstObj at h1
    injection h1
  have h3 : [Value.int a t] = [Value.int a' t'] := congrArg Array.toList h2
  have h4 := (List.cons.inj h3).1
  injection h4 with h5 _
  exact h5.symm
theorem sum_gx {R : Result → Shared → Prop} {End : Int → Hp → Prop} (hh : A.handled = none) (hroom : A.depth < recursionLimit) (hG : GenObj go gn) (hSa : S ≠ ga) (far : (gblk X A' s_0 H_0 cenv fp).s_0.heap.objs.size ≤ S) (hSc : ∀ x c, cenv.cells.lookup x = some c → c ≠ S)
    (keep : ∀ i h h', tn i h → (∀ b ∈ fp, ∀ o, h.get? b = some o → h'.get? b = some o) → tn i h') (hSf : ∀ b ∈ fp, b ≠ S)
    (yes : ∀ (σ : L2.St) (H : Hp) (a : Int) (t : Tok) (cp : List (Addr × Obj)) (s1 : Shared), Inv (gblk X A' s_0 H_0 cenv fp) cp σ H s1 → End a H → R (.ok (.ret (.int a t))) s1) :
    ∀ (n : Nat) (s : Shared) (a : Int) (t : Tok) (c : Nat), s.heap.NoLimit → s.heap.get? ga = some go → s.heap.get? S = some (lstObj #[.int a t] c) → (∃ gs, s.gens[gn]? = some gs ∧ gs.Goes (model X.prog X.w) A.in1.in1 (RG (gblk X A' s_0 H_0 cenv fp) (ACs ga go S) End)
      (YG (gblk X A' s_0 H_0 cenv fp) fp tn (ACs ga go S) YdS) n (.send .none) (s.setGen gn .running)) →
      codeAny (model X.prog X.w) A (.builtin "sum.loop" ⟨[.ref ga, .ref S, rawInt 0, rawInt 0], []⟩) R s := by
  intro n
  induction n using Nat.strongRecOn with
  | ind n ih =>
    rintro s a t c hl e hS ⟨gs, hgs, hgo⟩
    refine codeAny_builtin F.entry_sum_loop ?_
    rw [Around.under_plainId F.plain_sum_loop _]
    show wpAny _ A.in1 (seqItems? (.ref S) >>= _) _ _ s
    refine wpAny_bind (wpAny_seqItems hS rfl ?_)
    show wpAny _ A.in1 (tryCatch (pyNext (.ref ga)) _ >>= _) _ _ s
    refine wpAny_bind (wpAny_tryCatch (next_gx2 (A := A.in1) hh hroom hl hG e hgs hgo (fun a' x σ H i cp Nx v s1 gs' r hac tie I st hy at_ kap => ?_) fun a' σ H cp s1 hac tie I q => ?_))
    · obtain ⟨t', c', rfl⟩ := hac
      have e1 := tie (S, lstObj #[.int a' t'] c') (List.mem_cons_of_mem _ List.mem_cons_self)
      rw [hS] at e1
      obtain rfl := lst_one e1
      obtain ⟨j, rfl, ⟨f1, f2⟩, ⟨f3, f4⟩, nx⟩ := hy
      obtain ⟨tk, rfl⟩ := (show ∃ t, v = Value.int j t from r)
      have pS := I.pin (S, lstObj #[.int a' t'] c') (List.mem_append_right _ (List.mem_cons_of_mem _ List.mem_cons_self))
      have I0 : Inv (gblk X A' s_0 H_0 cenv fp) [(ga, go)] σ H s1 := I.pins_of fun p hp => I.pin p (List.mem_append_right _ (by rw [List.mem_singleton.mp hp]; exact List.mem_cons_self))
      have I1 := I0.turned (t' := s1.toks + 1) (h' := s1.heap.update S (Obj.mapSeq (fun _ => #[Value.int (a' + j) s1.toks]))) (it := S) (fun b o hb q => (Heap.get?_update_other _ _ (Ne.symm hb)).trans q) pS.2.1 pS.2.2.1 (.inr far) hSc (fun p hp => by rw [List.mem_singleton.mp (show p ∈ [(ga, go)] by simpa using hp)]; exact Ne.symm hSa)
      have e2 := Heap.get?_update_self (Obj.mapSeq (fun _ => #[Value.int (a' + j) s1.toks])) pS.1 rfl
      have pG := I1.pin (ga, go) (List.mem_append_right _ List.mem_cons_self)
      have hc : ((decide (-(2 ^ 63) ≤ j) && decide (j < 2 ^ 63)) && (decide (-(2 ^ 63) ≤ a' + j) && decide (a' + j < 2 ^ 63))) = true := by
        simp only [Bool.and_eq_true, decide_eq_true_eq]
        exact ⟨⟨f1, f2⟩, f3, f4⟩
      show wpAny _ A.in1 (if (_ : Bool) = true then (mkInt (a' + j) >>= _) else _) _ _ _
      split
      · refine wpAny_bind (wpAny_mkInt ?_)
        show wpAny _ A.in1 (updateSeq S (fun _ => #[Value.int (a' + j) s1.toks]) >>= _) _ _ _
        refine wpAny_bind ?_
        obtain ⟨m, hm, z⟩ := kap (a' + j) [(ga, go), (S, _)] (({ s1 with toks := s1.toks + 1, heap := s1.heap.update S (Obj.mapSeq (fun _ => #[Value.int (a' + j) s1.toks])) } : Shared).setGen gn .running) nx ⟨_, _, rfl⟩ (inv_moved (I1.pins_of fun p hp => by
          rcases List.mem_cons.mp hp with z | z
          · rw [z]; exact pG
          · rw [List.mem_singleton.mp z]; exact ⟨e2, pS.2.1, pS.2.2.1, pS.2.2.2.1, fun v q => by cases q⟩) rfl (allBare_setGen (s := { s1 with toks := s1.toks + 1, heap := s1.heap.update S (Obj.mapSeq (fun _ => #[Value.int (a' + j) s1.toks])) }) I1.bare rfl) fun _ _ q => q) (keep _ _ _ st fun b hb o q => (Heap.get?_update_other _ _ (Ne.symm (hSf b hb))).trans q)
        refine wpAny_updateSeq pS.1 rfl (wpAny_pure ⟨plainId_quiet F.plain_sum_loop _, ih m (by omega) _ (a' + j) s1.toks _ I1.nolimit pG.1 e2 ⟨gs', at_, z⟩⟩)
      · rename_i hneg
        exact absurd hc hneg
    · obtain ⟨t', c', rfl⟩ := hac
      have e1 := tie (S, lstObj #[.int a' t'] c') (List.mem_cons_of_mem _ List.mem_cons_self)
      rw [hS] at e1
      obtain rfl := lst_one e1
      exact wpAny_pure (yes σ H a' t _ s1 I q)
end
section
variable {X : Cx}
def tSumX (P : Addr) (wi : TI) (g : TG) (tt : TT) (te : TE) (vs : List Nat) : TE := fun σ H Q => wi σ H fun J H1 => GxR.TabG H1 P ∧ ∀ H2, GxR.Tabbed P H1 H2 → ∃ W : Nat → Nat → Int → Hp → Prop, (∃ m, W 0 m 0 H2) ∧
  tGx J g tt te (wipe σ vs) vs (fun a H => Q (.int a) H) YdS W
theorem pe_sumX {c P : Addr} {elt tg iter : Expr} {ifs : List Expr} {p pos gpos : Pos} {scope : Scope} {own : List (Str × Nat)} {wi : TI} {g : TG} {tt : TT} {te : TE} {k : Nat}
    (hr : Room (k + 1) X.A) (hc : X.calm = true) (hN : X.N.Nodup) (hgl : Gl X "sum") (hm : X.mg "sum" = none) (hb : bootBuiltins "sum" = some (.builtin "sum")) (TB : GxR.TabB X.base X.mg c P) (hcode : X.env.code = .ref c)
    (hco : scope.isCoroutine = false) (hdot : scope.names.lookup (".0" : Str) = some NameKind.local) (nocell : ∀ y ∈ scope.names, y.2 ≠ .cell) (ok : BlkOk X.N X.env.scope scope own) (hi : PI X tg iter wi)
    (hg : ∀ (A' : Around) (s : Shared) (H : Hp) (C : Addr) (cl : List (Str × Addr)) (code : Value) (fp : List Addr), Room k A' → A'.guards = X.A.guards → PG (gblk X A' s H (genEnv scope cl C code builtinsNs X.env) fp) tg g)
    (ht : ∀ (A' : Around) (s : Shared) (H : Hp) (C : Addr) (cl : List (Str × Addr)) (code : Value) (fp : List Addr), Room k A' → A'.guards = X.A.guards → PTs (gblk X A' s H (genEnv scope cl C code builtinsNs X.env) fp) ifs tt)
    (he : ∀ (A' : Around) (s : Shared) (H : Hp) (C : Addr) (cl : List (Str × Addr)) (code : Value) (fp : List Addr), Room k A' → A'.guards = X.A.guards → PE (gblk X A' s H (genEnv scope cl C code builtinsNs X.env) fp) elt te)
    (hs : ∀ v, genFold iter X.env v = pure v)
    (hst : starEach [.GeneratorExp elt [⟨tg, iter, ifs, 0⟩] scope gpos] X.env = (false, eval (.GeneratorExp elt [⟨tg, iter, ifs, 0⟩] scope gpos) X.env) :: starEach [] X.env := by rfl) :
    PE X (.Call (.Name "sum" p) [.GeneratorExp elt [⟨tg, iter, ifs, 0⟩] scope gpos] [] pos) (tSumX P wi g tt te (own.map (·.2))) := by
  refine ⟨fun pins s σ H Q I h => ?_⟩
  refine wpAny_Call_Name_kw (ld_blt I hgl hm hb ?_)
  refine PyProof.Rows.callWith_builtin1 ?_ hst (by rfl)
  rw [hst]
  show wpAny _ _ (spliced ((false, eval (.GeneratorExp elt [⟨tg, iter, ifs, 0⟩] scope gpos) X.env) :: backTo pos (starEach [] X.env))) _ _ s
  refine Calls.spliced_cons (gx_make (A := X.A.in1.in1) hr ⟨rfl, rfl, rfl, rfl, (by show X.A.units + 1 + 1 ≤ _; omega)⟩ hc hN TB hcode hco hdot nocell ok hi hg ht he hs I h fun J H1 H2 u s5 hR hT hG => ?_)
  obtain ⟨A', s_0, H_0, cenv, fp, ga, gn, go, tn, gs, rfl, hGO, hgs, hbare, I5, st5, nf, hlt, keep, back, goes⟩ := hG
  obtain ⟨W, ⟨m, w0⟩, turn⟩ := hR H2 hT
  refine Calls.spliced_nil ?_
  have pin5 := (I5.pin (ga, go) (List.mem_append_right _ List.mem_cons_self)).1
  have glt : ga < s5.heap.objs.size := Heap.lt_size pin5
  have hSI : s5.heap.objs.size ≠ ga := Nat.ne_of_gt glt
  refine call_function_tree F.kind_sum F.plain_sum F.entry_sum (F.args_sum1 _) ?_
  unfold Builtin.«sum»
  simp only [List.length_cons, List.length_nil]
  rw [if_neg (by decide)]
  refine wpAny_bind (wpAny_of_eq (show Builtin.Builtins.bindParams "sum" ["start"] 0 { } = pure [none] from rfl) ?_)
  refine wpAny_bind (wpAny_pyIter_gen (hGO.isGen pin5) ?_)
  refine wpAny_bind (wpAny_mkInt ?_)
  refine wpAny_bind (wpAny_pure ?_)
  simp only [List.forIn_cons, List.forIn_nil]
  refine wpAny_bind (wpAny_bind (wpAny_bind (wpAny_isInstance (T := "int") (b := false) (typeIs_int _ _ _) PySem.sub_int_str ?_)))
  simp only [Bool.false_eq_true, if_false]
  refine wpAny_pure (wpAny_bind (wpAny_bind (wpAny_isInstance (T := "int") (b := false) (typeIs_int _ _ _) PySem.sub_int_bytes ?_)))
  simp only [Bool.false_eq_true, if_false]
  refine wpAny_pure (wpAny_bind (wpAny_bind (wpAny_isInstance (T := "int") (b := false) (typeIs_int _ _ _) PySem.sub_int_bytearray ?_)))
  simp only [Bool.false_eq_true, if_false]
  refine wpAny_pure (wpAny_pure ?_)
  refine wpAny_bind (wpAny_newObj_type ?_)
  have k1 : ∀ b o, s5.heap.get? b = some o → (s5.heap.push { cls := .type "list", data := .seq [Value.int 0 s5.toks].toArray }).get? b = some o := fun b o e => Heap.get?_push_of_some _ e
  have hS₁ : (s5.heap.push { cls := .type "list", data := .seq [Value.int 0 s5.toks].toArray }).get? s5.heap.objs.size = some (lstObj #[.int 0 s5.toks] 0) := Heap.get?_push_size _ rfl
  have fS : FpOk (gblk X A' s_0 H_0 cenv fp) [(ga, go)] H2 s5.heap.objs.size := I5.fpOk (Nat.le_refl _) (I5.hok.fresh (Nat.le_refl _))
  have hfS : ∀ b ∈ fp, b ≠ s5.heap.objs.size := fun b hb => Nat.ne_of_lt (Nat.lt_trans (hlt b hb) glt)
  have I6 := inv_moved (s' := { s5 with toks := s5.toks + 1, heap := s5.heap.push { cls := .type "list", data := .seq [Value.int 0 s5.toks].toArray } }) I5 rfl I5.bare k1
  refine wpAny_pure ⟨plainId_quiet F.plain_sum_loop _, sum_gx (A' := A') (s_0 := s_0) (H_0 := H_0) (cenv := cenv) (fp := fp) (tn := tn) (go := go) (gn := gn) (End := fun a H => Q (.int a) H) hr.hd hr.depth hGO hSI (Nat.le_trans I5.sz (Nat.le_refl _)) fS.2.2.2.2.1 keep hfS
    (fun σ' H' a t cp s1 I1 q => ⟨.int a, H', back _ _ _ _ I1, ⟨t, rfl⟩, q⟩) (m + 1) _ 0 s5.toks 0 I6.nolimit (k1 _ _ pin5) hS₁ ⟨gs, hgs, ?_⟩⟩
  refine goes Int (ACs ga go s5.heap.objs.size) _ YdS W m (m + 1) 0 [(ga, go), (s5.heap.objs.size, lstObj #[.int 0 s5.toks] 0)] _ turn w0 (Nat.lt_succ_self _) (fun a cp hac p hp b hb z => ?_) ⟨_, _, rfl⟩
    (inv_moved (I6.pins_of fun p hp => ?_) rfl (allBare_setGen (s := { s5 with toks := s5.toks + 1, heap := _ }) I5.bare rfl) fun _ _ q => q) (keep _ _ _ st5 fun b hb o q => k1 b o q)
  · obtain ⟨t, c, rfl⟩ := hac
    rcases List.mem_cons.mp hp with e | e
    · rw [e] at z
      exact absurd (hlt b hb) (by rw [← z]; exact Nat.lt_irrefl _)
    · rw [List.mem_singleton.mp e] at z
      exact hfS b hb z.symm
  · rcases List.mem_cons.mp hp with e | e
    · rw [e]
      exact I6.pin (ga, go) (List.mem_append_right _ List.mem_cons_self)
    · rw [List.mem_singleton.mp e]
      exact ⟨hS₁, fS.1, fS.2.1, fS.2.2.1, fun v q => by cases q⟩
end
end GxS

end Gk

set_option Elab.async false
set_option linter.all false
set_option maxRecDepth 100000
set_option maxHeartbeats 3200000
/-! ### set(xs) of ints (a list or a tuple of them), sorted(set(..)), any number of them -/
namespace SiX
open PySem PySem.Spec PyProof.Rows L2
section
variable {P : Program} {w : World} {A : Around} {E : Value → Shared → Prop} {s : Shared} {a : Addr}
def TSet (w : World) (h : Heap) (a : Addr) (xs : List Int) (n : Nat) : Prop := ∃ c, c ≤ n ∧ SetR w h a (fun j => decide (j ∈ xs)) c
theorem TSet.stays {h h' : Heap} {xs : List Int} {n : Nat} (R : TSet w h a xs n) (k : ∀ o, h.get? a = some o → h'.get? a = some o) : TSet w h' a xs n := by
  obtain ⟨c, cn, r⟩ := R
  exact ⟨c, cn, r.at k⟩
abbrev bare (w : World) : Obj := { cls := .type "set", dict := none, data := .set #[] 0 (.fresh 0 0 (!w.params.followText "set-order")) }
def Held (h : Heap) (l : Addr) (its : Array Value) : Prop := h.IsList l its ∨ h.IsTuple l its
theorem ints_at {its : Array Value} {xs : List Int} (ht : IntsAre its.toList xs) : its.size = xs.length ∧ ∀ (i : Nat) (v : Value), its[i]? = some v → ∃ x t, xs[i]? = some x ∧ v = Value.int x t := by
  have len := IntsAre.length ht
  rw [Array.length_toList] at len
  refine ⟨len, fun i v hv => ?_⟩
  have hi := (Array.getElem?_eq_some_iff.mp hv).1
  obtain ⟨t, e⟩ := PyProof.Rows.IntsAre.int_at ht i v (by rw [Array.getElem?_toList]; exact hv)
  exact ⟨xs[i]'(by omega), t, List.getElem?_eq_getElem _, by rw [e, List.getD_eq_getElem?_getD, List.getElem?_eq_getElem (by omega)]; rfl⟩
abbrev Made (P : Program) (w : World) (s : Shared) (xs : List Int) (r : Value) (z : Shared) : Prop :=
  r = .none ∧ ∃ h' tk, z = { s with heap := h', toks := tk } ∧ TSet w h' s.heap.objs.size xs xs.length ∧ ∀ b o, s.heap.get? b = some o → h'.get? b = some o
/-- set.__init__'s walk, over a list or a tuple -/
theorem walked {I : Addr} {its : Array Value} {xs : List Int} {it : Obj} {fp wr : List Addr} {St : Nat → Shared → Prop} {Pv : Nat → Value → Prop} (ht : IntsAre its.toList xs) (room : xs.length + 1 < scanBound)
    (eI : I = (s.heap.push (bare w)).objs.size) (W : WalksS P w A.in1 I fp wr (fun g g' => g' = g) its.size Pv St) (far : s.heap.objs.size ∉ fp) (own : ∀ b ∈ wr, b = I) (pv : ∀ i v, Pv i v → its[i]? = some v)
    (st : St 0 { s with heap := (s.heap.push (bare w)).push it }) :
    codeAny (model P w) A (.builtin "set.update.loop" ⟨[.ref s.heap.objs.size, .ref I], []⟩) (fun r z => wants (Made P w s xs) E r z) { s with heap := (s.heap.push (bare w)).push it } := by
  obtain ⟨len, at_⟩ := ints_at ht
  have old : ((s.heap.push (bare w)).push it).get? s.heap.objs.size = some (bare w) := Heap.get?_push_of_some _ (Heap.get?_push_size _ rfl)
  refine set_update_ints W s.heap.objs.size far xs len room (fun i v h => at_ i v (pv i v h)) (its.size - 0) 0 _ (by omega) (Nat.zero_le _) st ⟨0, Nat.le_refl 0, setR_new_at old⟩ fun z c mv cn T0 => ?_
  have T : TSet w z.heap s.heap.objs.size xs its.size := ⟨c, cn, T0⟩
  obtain ⟨h', g, d, tk, os⟩ := z
  obtain rfl : g = s.gens := mv.gens
  obtain rfl : d = s.drawn := mv.drawn
  obtain rfl : os = s.os := mv.os
  refine ⟨rfl, h', tk, rfl, by rw [← len]; exact T, fun b o e => ?_⟩
  have lt := Heap.lt_size e
  refine mv.heap b o (fun z => ?_) (Heap.get?_push_of_some _ (Heap.get?_push_of_some _ e))
  rcases List.mem_cons.mp z with z | z
  · exact absurd z (Nat.ne_of_lt lt)
  · have := own b z
    rw [eI, Heap.size_push] at this
    exact absurd this (Nat.ne_of_lt (Nat.lt_succ_of_lt lt))
theorem made_init {A0 : Around} {l : Addr} {its : Array Value} {xs : List Int} (hh : A.handled = none) (hl : Held s.heap l its) (ht : IntsAre its.toList xs) (room : xs.length + 1 < scanBound) :
    wpAny (model P w) A (Builtin.«set.__init__» ⟨[.ref s.heap.objs.size, .ref l], []⟩) (fun fin z => match fin with | .done f => wants (Made P w s xs) E (.ok f) z | .again c => c.quiet = true ∧ codeAny (model P w) A0 c (wants (Made P w s xs) E) z) (fun e z => wants (Made P w s xs) E (.error e) z) { s with heap := s.heap.push (bare w) } := by
  have calm : A.in1.handled = none := by simp [hh]
  rcases hl with hl | hl
  · have lt : l < s.heap.objs.size := by
      obtain ⟨o, h, _⟩ := hl
      exact Heap.lt_size h
    have hl1 : (s.heap.push (bare w)).IsList l its := hl.push _
    have ne : l ≠ (s.heap.push (bare w)).objs.size := by
      rw [Heap.size_push]
      exact Nat.ne_of_lt (Nat.lt_succ_of_lt lt)
    have far : s.heap.objs.size ∉ [(s.heap.push (bare w)).objs.size, l] := by
      intro z
      rw [Heap.size_push] at z
      rcases List.mem_cons.mp z with z | z
      · exact absurd z (Nat.ne_of_lt (Nat.lt_succ_self _))
      · exact absurd (List.mem_singleton.mp z) (Nat.ne_of_gt lt)
    obtain ⟨⟨cl, od, da, sl⟩, e1, e2, nn, e3⟩ := id hl1
    dsimp only at e2 e3
    subst e2
    subst e3
    have k1 := F.sub_list_set
    have k2 := F.sub_list_frozenset
    have k3 : (Value.type "list" == Value.type "dict") = false := by decide
    unfold Builtin.«set.__init__» noKeywords Builtin.Frozenset.updateFrom
    generalize ep : pyIter = PI
    wp_walk
    subst ep
    refine wpAny_pyIter_list hl1 (wpAny_bind (wpAny_runValue ?_))
    refine codeAny_mono (walked (s := s) (E := E) (I := (s.heap.push (bare w)).objs.size) ht room rfl (Walks.list (by simp [hh]) _ l ne its).toS far (fun b z => List.mem_singleton.mp z) (fun i v z => z) ⟨⟨_, Heap.get?_push_size _ rfl, rfl, rfl⟩, hl1.push _⟩) fun r z q => ?_
    match r, q with
    | .error e, q => exact q
    | .ok .next, q => exact q.elim
    | .ok .brk, q => exact q.elim
    | .ok .cont, q => exact q.elim
    | .ok (.ret v), q => exact wpAny_pure (wpAny_pure ⟨rfl, q.2⟩)
  · have lt : l < s.heap.objs.size := by
      obtain ⟨o, h, _⟩ := hl
      exact Heap.lt_size h
    have hl1 : (s.heap.push (bare w)).IsTuple l its := hl.push _
    have ne : l ≠ (s.heap.push (bare w)).objs.size := by
      rw [Heap.size_push]
      exact Nat.ne_of_lt (Nat.lt_succ_of_lt lt)
    have far : s.heap.objs.size ∉ [(s.heap.push (bare w)).objs.size, l] := by
      intro z
      rw [Heap.size_push] at z
      rcases List.mem_cons.mp z with z | z
      · exact absurd z (Nat.ne_of_lt (Nat.lt_succ_self _))
      · exact absurd (List.mem_singleton.mp z) (Nat.ne_of_gt lt)
    obtain ⟨⟨cl, od, da, sl⟩, e1, e2, nn, e3⟩ := id hl1
    dsimp only at e2 e3
    subst e2
    subst e3
    have k1 := F.sub_tuple_set
    have k2 := F.sub_tuple_frozenset
    have k3 : (Value.type "tuple" == Value.type "dict") = false := by decide
    unfold Builtin.«set.__init__» noKeywords Builtin.Frozenset.updateFrom
    generalize ep : pyIter = PI
    wp_walk
    subst ep
    refine wpAny_pyIter_tuple hl1 (wpAny_bind (wpAny_runValue ?_))
    refine codeAny_mono (walked (s := s) (E := E) (I := (s.heap.push (bare w)).objs.size) ht room rfl (Walks.tuple (by simp [hh]) _ l ne its).toS far (fun b z => List.mem_singleton.mp z) (fun i v z => z) ⟨⟨_, Heap.get?_push_size _ rfl, rfl, rfl⟩, hl1.push _⟩) fun r z q => ?_
    match r, q with
    | .error e, q => exact q
    | .ok .next, q => exact q.elim
    | .ok .brk, q => exact q.elim
    | .ok .cont, q => exact q.elim
    | .ok (.ret v), q => exact wpAny_pure (wpAny_pure ⟨rfl, q.2⟩)
theorem set_of {l : Addr} {its : Array Value} {xs : List Int} {Q : Value → Shared → Prop} (hh : A.handled = none) (hl : Held s.heap l its) (ht : IntsAre its.toList xs) (room : xs.length + 1 < scanBound)
    (q : ∀ h' tk, TSet w h' s.heap.objs.size xs xs.length → (∀ b o, s.heap.get? b = some o → h'.get? b = some o) → Q (.ref s.heap.objs.size) { s with heap := h', toks := tk }) : wpAny (model P w) A (call (.type "set") [.ref l]) Q E s := by
  obtain ⟨cc, tail, a1⟩ := F.called_set.mro
  have a2 := F.called_set.made
  have a3 := F.called_set.sub
  have a4 := F.called_set.notType
  have a5 := F.called_set.canCreate
  have a6 := F.typeCall_set_1 (.ref l)
  refine wpAny_call (codeAny_of_tree ?_)
  show wpAny _ _ (callAny (.type "set") _) _ _ _
  refine wpAny_pure ⟨Code.quiet_builtin _ (by decide +kernel), (codeAny_builtin F.entry_type_call) ?_⟩
  rw [Around.under_plain (weight_type_call_type "set" [.ref l] []) (rfl)]
  repeat (any_goals (first | (assumption) | (wp_step)))
  refine codeAny_mono (code_set_led1 (.ref l) (E := E) (Q₁ := fun obj z => obj = .ref s.heap.objs.size ∧ z = { s with heap := s.heap.push (bare w) }) ⟨rfl, rfl⟩) fun r z made => ?_
  match r, made with
  | .error e, made => exact made
  | .ok .next, made => exact made.elim
  | .ok .brk, made => exact made.elim
  | .ok .cont, made => exact made.elim
  | .ok (.ret obj), made =>
    obtain ⟨rfl, rfl⟩ := made
    have new : (s.heap.push (bare w)).get? s.heap.objs.size = some (bare w) := Heap.get?_push_size _ rfl
    have b1 : Shared.TypeIs { s with heap := s.heap.push (bare w) } (.ref s.heap.objs.size) "set" := ⟨_, new, rfl⟩
    have b2 := F.called_set.init.lookup
    have b3 := F.called_set.init.bind (.ref s.heap.objs.size)
    repeat (any_goals (first | (assumption) | (wp_step)))
    refine codeAny_mono (codeAny_call_builtin (R := wants (Made P w s xs) E) F.called_set.init.plain F.entry_set_init (check_set_init_1 b1 ?_)) fun r2 z2 q2 => ?_
    · exact made_init (by simp [hh]) hl ht room
    · match r2, q2 with
      | .error e, q2 => exact q2
      | .ok .next, q2 => exact q2.elim
      | .ok .brk, q2 => exact q2.elim
      | .ok .cont, q2 => exact q2.elim
      | .ok (.ret r3), q2 =>
        obtain ⟨rfl, h', tk, rfl, T, old⟩ := q2
        repeat (any_goals (first | (assumption) | (wp_step)))
        exact q h' tk T old
theorem lt_of_le_nodup' {l : List Int} (h : l.Pairwise (· ≤ ·)) (d : l.Nodup) : l.Pairwise (· < ·) := by
  refine (h.and d).imp ?_
  rintro x y ⟨h1, h2⟩
  omega
theorem ints_of' {vs : List Value} {ns : List Int} (h : ∀ v ∈ vs, ∃ i t, v = Value.int i t) : IntsAre vs (vs.map SrtO.iv) := SrtO.ints_iv h
/-- sorted(a set of ints) -/
theorem in_order {xs : List Int} {n : Nat} {Q : Value → Shared → Prop} (T : TSet w s.heap a xs n) (hh : A.handled = none) (room : n < scanBound)
    (q : ∀ z p (out : Array Value) (c : Nat) (ys : List Int), (∀ b o, s.heap.get? b = some o → z.heap.get? b = some o) → z.gens = s.gens → z.os = s.os → s.heap.objs.size ≤ p →
      z.heap.get? p = some (seqObj "list" out c) → IntsAre out.toList ys → ys.Pairwise (· < ·) → (∀ x, x ∈ ys ↔ x ∈ xs) → ys.length ≤ n → Q (.ref p) z) : wpAny (model P w) A (call (.builtin "sorted") [.ref a]) Q E s := by
  obtain ⟨n1, few, o, es, ep, t, ho, hex, hd, g, nd, hm, hb, hf, hn, hr, hl⟩ := T
  refine Calls.call_function_entry kind_sorted plain_sorted entry_sorted (args_sorted1 _) ?_
  unfold Builtin.«sorted»
  refine wpAny_bind (m := checkCount "sorted" 1 1 _) (wpAny_pure ?_)
  refine wpAny_bind (collect_set (A := A.in1) hh ⟨o, ho, hex.1, hd⟩ hf hb hr hl fun z vs k1 hz g1 o1 pm => ?_)
  have hvl : vs.length = n1 := by rw [pm.length_eq, List.length_map, Array.length_toList]; exact hn
  have sl : vs.length ≤ sizeLine := fits_of_scanBound (by omega)
  have hI : IntsAre vs (vs.map SrtO.iv) := SrtO.ints_iv fun v hv => by
    obtain ⟨e, he, q⟩ := List.mem_map.mp (pm.mem_iff.mp hv)
    obtain ⟨k, tk, h1, _⟩ := g e he
    exact ⟨k, tk, by rw [← q]; exact h1⟩
  have same : ∀ e ∈ es.toList, SrtO.iv e.2 = keyOf e := fun e he => by
    obtain ⟨k, tk, h1, _⟩ := g e he
    unfold keyOf
    rw [h1]
    rfl
  have pk : (vs.map SrtO.iv).Perm (es.toList.map keyOf) := by
    have q := pm.map SrtO.iv
    rw [List.map_map, List.map_congr_left (f := SrtO.iv ∘ fun e : Int × Value => e.2) (g := keyOf) same] at q
    exact q
  refine wpAny_bind (wpAny_newList ?_ sl)
  have hL : (z.heap.push (seqObj "list" vs.toArray 0)).get? z.heap.objs.size = some (seqObj "list" vs.toArray 0) := Heap.get?_push_size _ rfl
  refine wpAny_bind (wpAny_holding (wpAny_call_entry (slot_list_sort) ⟨_, hL, rfl⟩ (entry_list_sort) (SrtO.list_sort_ord SrtO.swo_int hL sl (fun two => SrtO.ints_sortable hI two) fun out k2 k3 => ⟨_, rfl, ?_⟩) (args_list_sort _)))
  obtain ⟨c, hc⟩ := sortedHeap_at (vs := vs) (out := out.toArray) hL
  obtain ⟨a1, a2, a3⟩ := SrtO.ints_out hI k2 k3
  have po := a2.trans pk
  refine wpAny_pure ⟨_, rfl, q _ z.heap.objs.size out.toArray c (out.map SrtO.iv) (fun b u e => ?_) g1 o1 hz hc a1 (lt_of_le_nodup' a3 (po.nodup_iff.mpr nd)) (fun x => by rw [po.mem_iff, ← hm x]; exact decide_eq_true_iff) (by rw [po.length_eq, List.length_map, Array.length_toList, hn]; exact few)⟩
  have e1 := k1 b u e
  have lt := Heap.lt_size e1
  show (sortedHeap (z.heap.push (seqObj "list" vs.toArray 0)) z.heap.objs.size vs out.toArray).get? b = some u
  rw [sortedHeap_old (Nat.ne_of_lt lt) (by rw [size_push']; exact Nat.lt_succ_of_lt lt)]
  exact Heap.get?_push_of_some _ e1
end
section
variable {X : Cx}
def SetIx (w : World) (a : Addr) (xs : List Int) (n : Nat) : HO := .ext fun h => TSet w h a xs n
def rSetIx (K : PySem.W.Frag) (w : World) : List V → Hp → VK → Prop := fun vs H Q => ∃ l xs, vs = [.ref l] ∧ (SqL K H l (xs.map V.int) ∨ SqT K H l (xs.map V.int)) ∧ xs.length + 1 < scanBound ∧ ∀ p, H p = none → Q (.ref p) (upd H p (SetIx w p xs xs.length))
theorem call_setIx (hc : X.calm = true) : CallR X (.type "set") (rSetIx X.K X.w) := by
  intro pins s σ H vs us Q I r h
  obtain ⟨l, xs, rfl, hs, room, q⟩ := h
  rw [Vals.ref1 r]
  have go : ∀ its : List Value, Held s.heap l its.toArray → IntsAre its xs → wpAny (model X.prog X.w) X.A (call (.type "set") [.ref l]) (EP X pins σ Q) X.xe s := fun its hl ht =>
    set_of (I.ok.hd hc) hl (by simpa using ht) room fun h' tk T old => ⟨.ref s.heap.objs.size, upd H s.heap.objs.size (SetIx X.w s.heap.objs.size xs xs.length), I.laid (t' := tk) (fun b o e => old b o e) (Nat.le_refl _) ⟨T, by
      obtain ⟨_, _, o, _, _, _, z, _⟩ := T
      exact ⟨o, z⟩, fun _ _ p k => TSet.stays p k⟩, rfl, q _ (I.hok.fresh (Nat.le_refl _))⟩
  rcases hs with hs | hs
  · obtain ⟨its, rv, hl, hz⟩ := I.list hs
    exact go its (.inl hl.isList) (ints_of_vals rv)
  · obtain ⟨its, rv, hl, hz⟩ := I.tuple hs
    exact go its (.inr hl) (ints_of_vals rv)
def rSortIx (w : World) : List V → Hp → VK → Prop := fun vs H Q => ∃ (a : Addr) (xs : List Int) (n : Nat), vs = [.ref a] ∧ H a = some (SetIx w a xs n) ∧ n < scanBound ∧
  ∀ (ys : List Int) (p : Addr), ys.Pairwise (· < ·) → (∀ x, x ∈ ys ↔ x ∈ xs) → ys.length ≤ n → H p = none → Q (.ref p) (upd H p (.lst (ys.map V.int)))
theorem cr_sortIx (hc : X.calm = true) : CallR X (.builtin "sorted") (rSortIx X.w) := by
  intro pins s σ H vs us Q I r h
  obtain ⟨a, xs, n, rfl, ha, room, q⟩ := h
  rw [Vals.ref1 r]
  refine in_order (I.hok a _ ha).1 (I.ok.hd hc) room fun z p out c ys keep g o hp hg hi k1 k3 k4 => ?_
  have fresh : H p = none := I.hok.fresh hp
  have few : (ys.map V.int).length ≤ sizeLine := by
    rw [List.length_map]
    exact Nat.le_trans k4 (fits_of_scanBound room)
  have J : Inv X pins σ (upd H p (.lst (ys.map V.int))) { s with heap := z.heap, gens := z.gens, drawn := z.drawn, toks := z.toks } :=
    I.call (ch := []) (Un.laid keep hp fresh) (I.hok.laid keep hp ⟨few, out.toList, c, vals_of_ints hi, hg⟩) (by rw [g]; exact I.bare) (fun _ z => nomatch z)
  obtain ⟨zh, zg, zd, zt, zo⟩ := z
  obtain rfl : zo = s.os := o
  exact ⟨.ref p, _, J, rfl, q ys p k1 k3 k4 fresh⟩
end
end SiX


set_option Elab.async false
set_option linter.all false
set_option maxRecDepth 100000
set_option maxHeartbeats 1000000
namespace Gk
open PySem PySem.Spec PyProof.Rows L2
/-! ### enumerate(text) -/
/-- the text x, each sign in a new pair -/
def IteS (x : Str) : It :=
  ⟨fun i _ => i < x.cps.size, fun i H v H' => ∃ T c, v = .ref T ∧ H T = none ∧ H' = upd H T (.tup [.int (i : Nat), .str ⟨#[c]⟩]) ∧ x.cps[i]? = some c, fun i _ => x.cps.size ≤ i⟩
theorem turn_enumS {P : Program} {w : World} {K : PySem.W.Frag} {elts : List Expr} {kk : Nat} {tpos : Pos} (x : Str) (t : Tok) (e it : Addr) :
    Turn P w K (.Tuple elts kk tpos) (IteS x) [e, it] e (fun i h => i ≤ x.cps.size ∧ (∃ old, IsEnum h e it ((i : Nat) : Int) old) ∧ h.IsStrIter it (strIterType x) x t i ∧ e ≠ it) where
  mem := by simp
  obj := fun i h st b hb => by
    obtain ⟨_, ⟨old, he⟩, ⟨o, ho, hc, hd⟩, _⟩ := st
    have e' : b = e ∨ b = it := by simpa using hb
    rcases e' with z | z
    · rw [z]; exact ⟨_, he, fun v q => nomatch q⟩
    · rw [z]; exact ⟨o, ho, fun v q => by rw [hd] at q; cases q⟩
  keep := fun i h h' st k => let ⟨le, ⟨old, he⟩, ⟨o, ho, r⟩, hne⟩ := st; ⟨le, ⟨old, k e (by simp) _ he⟩, ⟨o, k it (by simp) o ho, r⟩, hne⟩
  item := by
    intro X hP hw hK hc i pins s σ H E I hf st hg
    subst hP hw hK
    obtain ⟨le, ⟨old, he⟩, hit, hne⟩ := st
    have hil2 : i < x.cps.size := hg
    have hel : e < s.heap.objs.size := Heap.lt_size he
    have hil : it < s.heap.objs.size := by obtain ⟨_, q, _⟩ := hit; exact Heap.lt_size q
    refine wpAny_pyNext_enum_itemD (Draws.text (prog := X.prog) (w := X.w) (A := X.A.in1) (I.ok.hd hc) it x t) he hit hil2 hne (by simp only [List.mem_singleton]; exact hne) fun y h' tk hy ho hst hT hsz hk => ?_
    obtain ⟨c, u, hx, rfl⟩ := hy
    refine ⟨_, rfl, wpAny_letOwnedTupleGo_enum (s := { s with heap := h', toks := tk + 1 }) ho fun h'' he' sb => ?_⟩
    have hT2 : h''.get? s.heap.objs.size = some { cls := .type "tuple", data := .seq #[.int i tk, .str ⟨#[c]⟩ u] } := (sb.2 _ (Nat.ne_of_gt hel)).trans hT
    have new : ObjOk X.prog X.w (upd H s.heap.objs.size (.tup [.int (i : Nat), .str ⟨#[c]⟩])) h'' s.heap.objs.size (.tup [.int (i : Nat), .str ⟨#[c]⟩]) :=
      ⟨by show 2 ≤ sizeLine; decide, [.int i tk, .str ⟨#[c]⟩ u], .cons ⟨_, rfl⟩ (.cons ⟨_, rfl⟩ .nil), ⟨_, hT2, rfl, _, rfl⟩⟩
    have I1 : Inv X pins σ (upd H s.heap.objs.size (.tup [.int (i : Nat), .str ⟨#[c]⟩])) { s with heap := h'', toks := tk + 1 } :=
      I.turnedNew (ch := [e, it]) (fun b ob hb q => (sb.2 b (fun z => hb (by simp [z]))).trans (hk b ob (fun z => hb (by simp [z])) (fun z => hb (by simp [z])) q)) hf (Nat.le_refl _) new
    refine ⟨.ref s.heap.objs.size, _, I1, rfl, ⟨_, c, rfl, I.hok.fresh (Nat.le_refl _), rfl, hx⟩, ⟨hil2, ⟨.str ⟨#[c]⟩ u, ?_⟩, ?_, hne⟩, fun b hb => ?_⟩
    · have e1 : ((i + 1 : Nat) : Int) = (i : Int) + 1 := by omega
      rw [e1]; exact he'
    · obtain ⟨o, ho2, r⟩ := hst
      exact ⟨o, (sb.2 it (Ne.symm hne)).trans ho2, r⟩
    · have hb' : b < s.heap.objs.size := by
        have e' : b = e ∨ b = it := by simpa using hb
        rcases e' with z | z
        · rw [z]; exact hel
        · rw [z]; exact hil
      rw [upd_ne (Nat.ne_of_lt hb')]
      exact (hf b hb).1
  done := by
    intro X hP hw hK hc i pins s σ H E I hf st hg
    subst hP hw hK
    obtain ⟨le, ⟨old, he⟩, hit, hne⟩ := st
    obtain ⟨f0, f1, f2, f3, f4, f5⟩ := hf it (by simp)
    have hn : i = x.cps.size := Nat.le_antisymm le hg
    subst hn
    exact wpAny_pyNext_enum_endD (Draws.text (prog := X.prog) (w := X.w) (A := X.A.in1) (I.ok.hd hc) it x t) he hit fun h' eb => ⟨rfl, I.turned (t' := s.toks) (fun b o hb q => eb b o hb q) f0 f1 f3 f4 f5⟩
  self := fun A i s Q E st h => let ⟨_, ⟨_, he⟩, _⟩ := st; wpAny_pyIter_enum he h
def iEnumS (ta : TA) : TI := fun σ H R => ta σ H fun vs H1 => ∃ x, vs = [.str x] ∧ R (IteS x) H1
theorem pi_enumS {X : Cx} {e : Expr} {ta : TA} {p pos tpos : Pos} {elts : List Expr} {kk : Nat} (hg : Gl X "enumerate") (hm : X.mg "enumerate" = none) (ha : PA X [e] ta) (hs : starEach [e] X.env = [(false, eval e X.env)] := by rfl) :
    PI X (.Tuple elts kk tpos) (.Call (.Name "enumerate" p) [e] [] pos) (iEnumS ta) := by
  refine ⟨fun pins s σ H R I h => ?_⟩
  refine Call_ (ld_blt I hg hm boot_enumerate (PyProof.Rows.callWith_type1 (thn (ha.run pos pins s σ H _ I h) fun us s1 ⟨vs, H1, I1, r1, q1⟩ => ?_) hs rfl))
  obtain ⟨x, ex, q⟩ := q1
  subst ex
  cases r1 with
  | cons r rr =>
    cases rr
    obtain ⟨t, rfl⟩ := r
    refine call_enumerate_str fun h' he hit hsz hk => wpAny_pyIter_enum he ?_
    have I2 : Inv X pins σ H1 { s1 with heap := h' } := I1.kept (t' := s1.toks) hk
    refine ⟨s1.heap.objs.size + 1, [s1.heap.objs.size + 1, s1.heap.objs.size], _, _, H1, rfl, I2, turn_enumS x t (s1.heap.objs.size + 1) s1.heap.objs.size, ⟨Nat.zero_le _, ⟨.none, he⟩, hit, Nat.succ_ne_self _⟩, fun b hb => ?_, q⟩
    have e' : b = s1.heap.objs.size + 1 ∨ b = s1.heap.objs.size := by simpa using hb
    have hle : s1.heap.objs.size ≤ b := by
      rcases e' with z | z
      · rw [z]; exact Nat.le_add_right _ _
      · rw [z]; exact Nat.le_refl _
    exact I1.fpOk hle (I1.hok.fresh hle)
theorem lc_enumS {z : Str} {g : TG} {tt : TT} {te : TE} {vs : List Nat} {σ : L2.St} {H1 : Hp} {D : Addr} {Qd : Hp → Prop} (Pv : Nat → Hp → Prop) (h0 : Pv 0 (upd H1 D (.lst [])))
    (hs : ∀ i x T H, z.cps[i]? = some x → H T = none → Pv i H → g (.ref T) (wipe σ vs) (upd H T (.tup [.int (i : Nat), .str ⟨#[x]⟩])) fun σ2 H2 => wipe σ2 vs = wipe σ vs ∧ tt σ2 H2 fun b H3 =>
      if b = true then te σ2 H3 fun y H4 => ∃ acc, H4 D = some (.lst acc) ∧ acc.length < sizeLine ∧ Pv (i + 1) (upd H4 D (.lst (acc ++ [y]))) else Pv (i + 1) H3) (hd : ∀ H, Pv z.cps.size H → Qd H) :
    ∃ W : Nat → Nat → Hp → Prop, (∃ m, W 0 m (upd H1 D (.lst []))) ∧ ∀ i m H, W i m H →
      ((IteS z).stop i H ∧ Qd H) ∨ ((IteS z).go i H ∧ ∃ Nx : Hp → Prop, (∀ H', Nx H' → ∃ m', m' < m ∧ W (i + 1) m' H') ∧ ∀ x H', (IteS z).yld i H x H' → g x (wipe σ vs) H' fun σ2 H2 => wipe σ2 vs = wipe σ vs ∧ tt σ2 H2 fun b H3 =>
        if b = true then te σ2 H3 fun y H4 => ∃ acc, H4 D = some (.lst acc) ∧ acc.length < sizeLine ∧ Nx (upd H4 D (.lst (acc ++ [y]))) else Nx H3) := by
  refine ⟨fun i m H => m = z.cps.size - i ∧ i ≤ z.cps.size ∧ Pv i H, ⟨z.cps.size, by simp, Nat.zero_le _, h0⟩, ?_⟩
  rintro i m H ⟨rfl, hi, p⟩
  by_cases hlt : i < z.cps.size
  · refine .inr ⟨hlt, Pv (i + 1), fun H' p' => ⟨z.cps.size - (i + 1), by omega, rfl, hlt, p'⟩, fun x H' y => ?_⟩
    obtain ⟨T, c, rfl, nT, rfl, hc⟩ := y
    exact hs i c T _ hc nT p
  · have e : i = z.cps.size := by omega
    subst e
    exact .inl ⟨Nat.le_refl _, hd H p⟩
theorem for_enumS {z : Str} {g : TG} {tb : TS} {D : Ends} {σ : L2.St} {H : Hp} (Pv : Nat → L2.St → Hp → Prop) (h0 : Pv 0 σ H)
    (hs : ∀ (i : Nat) (x : Nat) (T : Addr) (σ : L2.St) (H : Hp), z.cps[i]? = some x → H T = none → Pv i σ H → g (.ref T) σ (upd H T (.tup [.int (i : Nat), .str ⟨#[x]⟩])) fun σ2 H2 => tb { D with nx := Pv (i + 1), ct := Pv (i + 1), bk := D.nx } σ2 H2) (hd : ∀ σ H, Pv z.cps.size σ H → D.nx σ H) :
    ∃ W : Nat → Nat → L2.St → Hp → Prop, (∃ m, W 0 m σ H) ∧ ∀ i m σ H, W i m σ H →
      ((IteS z).stop i H ∧ D.nx σ H) ∨ ((IteS z).go i H ∧ ∃ N : L2.St → Hp → Prop, (∀ σ' H', N σ' H' → ∃ m', m' < m ∧ W (i + 1) m' σ' H') ∧ ∀ x H', (IteS z).yld i H x H' → g x σ H' fun σ2 H2 => tb { D with nx := N, ct := N, bk := D.nx } σ2 H2) := by
  refine ⟨fun i m σ H => m = z.cps.size - i ∧ i ≤ z.cps.size ∧ Pv i σ H, ⟨z.cps.size, rfl, Nat.zero_le _, h0⟩, ?_⟩
  rintro i m σ H ⟨rfl, hi, p⟩
  by_cases hlt : i < z.cps.size
  · refine .inr ⟨hlt, Pv (i + 1), fun σ' H' p' => ⟨z.cps.size - (i + 1), by omega, rfl, hlt, p'⟩, fun x H' y => ?_⟩
    obtain ⟨T, c, rfl, nT, rfl, hc⟩ := y
    exact hs i c T σ _ hc nT p
  · have e : i = z.cps.size := by omega
    subst e
    exact .inl ⟨Nat.le_refl _, hd σ H p⟩

end Gk

set_option Elab.async false
set_option linter.all false
set_option maxRecDepth 100000
set_option maxHeartbeats 1000000
namespace Gk
open PySem PySem.Spec PyProof.Rows L2
/-! ### data of tuples alone: no list that is written can harm it -/
mutual
def noL : PyData → Bool
  | .list _ => false
  | .tuple ds => noLs ds
  | _ => true
def noLs : List PyData → Bool
  | [] => true
  | d :: r => noL d && noLs r
end
def Ts (H H' : Hp) : Prop := ∀ b xs, H b = some (HO.tup xs) → H' b = some (.tup xs)
theorem Ts.refl {H : Hp} : Ts H H := fun _ _ e => e
theorem Ts.trans {H H1 H2 : Hp} (a : Ts H H1) (b : Ts H1 H2) : Ts H H2 := fun c xs e => b c xs (a c xs e)
theorem Ts.same {H H' : Hp} (s : Same H H') : Ts H H' := fun b xs e => s _ _ e
theorem Ts.gr {H H' : Hp} (s : Gr H H') : Ts H H' := fun b xs e => s.tup e
theorem Ts.new {H : Hp} {p : Addr} {o : HO} (h : H p = none) : Ts H (upd H p o) := Ts.same (same_upd h)
theorem Ts.set {H : Hp} {p : Addr} {xs ys : List V} (h : H p = some (.lst xs)) : Ts H (upd H p (.lst ys)) := fun b zs e => by
  rw [upd_ne (ne_of e h (by intro z; cases z))]
  exact e
mutual
theorem Tk.ts {H H' : Hp} (s : Ts H H') : ∀ {v : V} {d : PyData}, Tk H v d → noL d = true → Tk H' v d
  | _, _, .bl b, _ => .bl b
  | _, _, .int i, _ => .int i
  | _, _, .str x, _ => .str x
  | _, _, .lst h t, n => by cases n
  | _, _, .tup h t, n => .tup (s _ _ h) (t.ts s n)
theorem TkAll.ts {H H' : Hp} (s : Ts H H') : ∀ {vs : List V} {ds : List PyData}, TkAll H vs ds → noLs ds = true → TkAll H' vs ds
  | _, _, .nil, _ => .nil
  | _, _, .cons (d := d) (ds := ds) h t, n => by
    have n' : noL d = true ∧ noLs ds = true := Bool.and_eq_true_iff.mp n
    exact .cons (h.ts s n'.1) (t.ts s n'.2)
end
theorem noLs_map {α : Type} {f : α → PyData} (h : ∀ x, noL (f x) = true) : ∀ l : List α, noLs (l.map f) = true
  | [] => rfl
  | x :: r => by
    show (noL (f x) && noLs (r.map f)) = true
    rw [h x, noLs_map h r]
    rfl
theorem noL_row (r : List Int) : noL (rowD r) = true := noLs_map (fun _ => rfl) r
theorem noL_gate (g : Gt) : noL (gD g) = true := by
  show (true && (noLs ((g.2.map Int.ofNat).map PyData.int) && true)) = true
  rw [noLs_map (fun _ => rfl)]
  rfl
theorem noL_gates (gs : List Gt) : noLs (gs.map gD) = true := noLs_map noL_gate gs
theorem noL_net (m : Int) (gs : List Gt) : noL (netD m gs) = true := by
  show (true && (noLs (gs.map gD) && true)) = true
  rw [noL_gates]
  rfl
theorem noL_ch (a b : List Int) : noL (chD a b) = true := by
  show (noL (rowD a) && (noL (rowD b) && true)) = true
  rw [noL_row, noL_row]
  rfl

/-! ### slices and sums of tuples: what is told stands in a heap that has grown -/
theorem cut_all {xs : List V} {lo hi : Option Int} (h : HT.sIx xs.length 0 lo = 0 ∧ HT.sIx xs.length xs.length hi = xs.length) : cutV xs lo hi = xs := by
  unfold cutV
  rw [h.1, h.2, List.drop_zero, Nat.sub_zero, List.take_length]
theorem same_refl {H : Hp} : Same H H := fun _ _ e => e
theorem slA {K : PySem.W.Frag} {a : Addr} {xs : List V} {lo hi : Option Int} {H : Hp} {Q : VK} (h : H a = some (.tup xs)) (q : ∀ p H', Same H H' → H' p = some (.tup (cutV xs lo hi)) → Q (.ref p) H') : rSlA K (.ref a) lo hi H Q :=
  ⟨a, xs, rfl, SqT.of h, fun w => q a H same_refl (by rw [cut_all w]; exact h), fun _ p np => q p _ (same_upd np) upd_same⟩
theorem slAn {K : PySem.W.Frag} {a : Addr} {xs : List V} {lo : Option Int} {H : Hp} {Q : VK} {σ : L2.St} (h : H a = some (.tup xs)) (q : ∀ p H', Same H H' → H' p = some (.tup (cutV xs lo none)) → Q (.ref p) H') : tNoPart σ H (fun u H3 => rSlA K (.ref a) lo u H3 Q) := slA h q
theorem catA {K : PySem.W.Frag} {a b : Addr} {xs ys : List V} {H : Hp} {Q : VK} (ha : H a = some (.tup xs)) (hb : H b = some (.tup ys)) (hl : xs.length + ys.length ≤ sizeLine) (q : ∀ p H', Same H H' → H' p = some (.tup (xs ++ ys)) → Q (.ref p) H') : rCatA K (.ref a) (.ref b) H Q :=
  ⟨a, b, xs, ys, rfl, rfl, SqT.of ha, SqT.of hb, hl, fun e => q b H same_refl (by rw [e]; exact hb), fun _ e => q a H same_refl (by rw [e, List.append_nil]; exact ha), fun _ _ p np => q p _ (same_upd np) upd_same⟩
theorem cut_to {xs : List V} {k : Nat} : cutV xs none (some (k : Int)) = xs.take k := by
  unfold cutV
  rw [HT.sIx_none, HT.sIx_nat, List.drop_zero, Nat.sub_zero]
  apply List.ext_getElem?
  intro i
  rw [List.getElem?_take, List.getElem?_take]
  by_cases h : i < k
  · rw [if_pos h]
    by_cases h2 : i < xs.length
    · rw [if_pos (by omega)]
    · rw [List.getElem?_eq_none (by omega)]
      split <;> rfl
  · rw [if_neg h, if_neg (by omega)]
theorem cut_from {xs : List V} {k : Nat} : cutV xs (some (k : Int)) none = xs.drop k := by
  unfold cutV
  rw [HT.sIx_none, HT.sIx_nat]
  by_cases h : k ≤ xs.length
  · rw [Nat.min_eq_left h]
    exact List.take_of_length_le (by rw [List.length_drop]; exact Nat.le_refl _)
  · rw [Nat.min_eq_right (by omega), Nat.sub_self, List.take_zero, List.drop_eq_nil_of_le (by omega)]
theorem TkAll.take {H : Hp} : ∀ {xs : List V} {ds : List PyData} (k : Nat), TkAll H xs ds → TkAll H (xs.take k) (ds.take k)
  | _, _, 0, _ => by rw [List.take_zero, List.take_zero]; exact .nil
  | _, _, _ + 1, .nil => .nil
  | _, _, k + 1, .cons a t => .cons a (t.take k)
theorem TkAll.drop {H : Hp} : ∀ {xs : List V} {ds : List PyData} (k : Nat), TkAll H xs ds → TkAll H (xs.drop k) (ds.drop k)
  | _, _, 0, t => t
  | _, _, _ + 1, .nil => .nil
  | _, _, k + 1, .cons _ t => t.drop k
theorem set_put {α : Type} {l : List α} {i : Nat} {x : α} (h : i < l.length) : (l.take i ++ [x]) ++ l.drop (i + 1) = l.set i x := by
  rw [List.set_eq_take_append_cons_drop, if_pos h, List.append_assoc]
  rfl
def rJoinK (K : PySem.W.Frag) : V → List V → Hp → VK → Prop := fun x xs H Q => ∃ a p, ∃ ys : List Str, x = .str a ∧ xs = [.ref p] ∧ (SqL K H p (ys.map V.str) ∨ SqT K H p (ys.map V.str)) ∧ (ys.map (·.length)).sum + ys.length * a.length ≤ 16777216 ∧ Q (.str (Txt.join a ys)) H

/-! ### walks over texts -/
theorem lc_str {z : Str} {g : TG} {tt : TT} {te : TE} {vs : List Nat} {σ : L2.St} {H1 : Hp} {D : Addr} {Qd : Hp → Prop} (Pv : Nat → Hp → Prop) (h0 : Pv 0 (upd H1 D (.lst [])))
    (hs : ∀ i x H, z.cps[i]? = some x → Pv i H → g (.str ⟨#[x]⟩) (wipe σ vs) H fun σ2 H2 => wipe σ2 vs = wipe σ vs ∧ tt σ2 H2 fun b H3 =>
      if b = true then te σ2 H3 fun y H4 => ∃ acc, H4 D = some (.lst acc) ∧ acc.length < sizeLine ∧ Pv (i + 1) (upd H4 D (.lst (acc ++ [y]))) else Pv (i + 1) H3) (hd : ∀ H, Pv z.cps.size H → Qd H) :
    ∃ W : Nat → Nat → Hp → Prop, (∃ m, W 0 m (upd H1 D (.lst []))) ∧ ∀ i m H, W i m H →
      ((Its z).stop i H ∧ Qd H) ∨ ((Its z).go i H ∧ ∃ Nx : Hp → Prop, (∀ H', Nx H' → ∃ m', m' < m ∧ W (i + 1) m' H') ∧ ∀ x H', (Its z).yld i H x H' → g x (wipe σ vs) H' fun σ2 H2 => wipe σ2 vs = wipe σ vs ∧ tt σ2 H2 fun b H3 =>
        if b = true then te σ2 H3 fun y H4 => ∃ acc, H4 D = some (.lst acc) ∧ acc.length < sizeLine ∧ Nx (upd H4 D (.lst (acc ++ [y]))) else Nx H3) := by
  refine ⟨fun i m H => m = z.cps.size - i ∧ i ≤ z.cps.size ∧ Pv i H, ⟨z.cps.size, by simp, Nat.zero_le _, h0⟩, ?_⟩
  rintro i m H ⟨rfl, hi, p⟩
  by_cases hlt : i < z.cps.size
  · refine .inr ⟨hlt, Pv (i + 1), fun H' p' => ⟨z.cps.size - (i + 1), by omega, rfl, hlt, p'⟩, fun x H' y => ?_⟩
    obtain ⟨rfl, ch, hc, rfl⟩ := y
    exact hs i ch _ hc p
  · have e : i = z.cps.size := by omega
    subst e
    exact .inl ⟨Nat.le_refl _, hd H p⟩
theorem for_str {z : Str} {g : TG} {tb : TS} {D : Ends} {σ : L2.St} {H : Hp} (Pv : Nat → L2.St → Hp → Prop) (h0 : Pv 0 σ H)
    (hs : ∀ i x σ H, z.cps[i]? = some x → Pv i σ H → g (.str ⟨#[x]⟩) σ H fun σ2 H2 => tb { D with nx := Pv (i + 1), ct := Pv (i + 1), bk := D.nx } σ2 H2) (hd : ∀ σ H, Pv z.cps.size σ H → D.nx σ H) :
    ∃ W : Nat → Nat → L2.St → Hp → Prop, (∃ m, W 0 m σ H) ∧ ∀ i m σ H, W i m σ H →
      ((Its z).stop i H ∧ D.nx σ H) ∨ ((Its z).go i H ∧ ∃ N : L2.St → Hp → Prop, (∀ σ' H', N σ' H' → ∃ m', m' < m ∧ W (i + 1) m' σ' H') ∧ ∀ x H', (Its z).yld i H x H' → g x σ H' fun σ2 H2 => tb { D with nx := N, ct := N, bk := D.nx } σ2 H2) := by
  refine ⟨fun i m σ H => m = z.cps.size - i ∧ i ≤ z.cps.size ∧ Pv i σ H, ⟨z.cps.size, by simp, Nat.zero_le _, h0⟩, ?_⟩
  rintro i m σ H ⟨rfl, hi, p⟩
  by_cases hlt : i < z.cps.size
  · refine .inr ⟨hlt, Pv (i + 1), fun σ' H' p' => ⟨z.cps.size - (i + 1), by omega, rfl, hlt, p'⟩, fun x H' y => ?_⟩
    obtain ⟨rfl, ch, hc, rfl⟩ := y
    exact hs i ch σ _ hc p
  · have e : i = z.cps.size := by omega
    subst e
    exact .inl ⟨Nat.le_refl _, hd σ H p⟩
theorem S_at {p : List Nat} {i x : Nat} (h : (SX.S p).cps[i]? = some x) : p[i]? = some x := by
  have : (SX.S p).cps = p.toArray := rfl
  rw [this, List.getElem?_toArray] at h
  exact h
theorem S_size (p : List Nat) : (SX.S p).cps.size = p.length := by
  show p.toArray.size = _
  simp

section
variable {P : Program} {w : World} {K : PySem.W.Frag} {mg : Str → Option Value} {base : Heap}
/-! ### the deck of k34 to k41: cells from ahead, a number, a count -/
theorem p63 : (0 : Int) < 2147483563 := by decide
def DeckD (H : Hp) (d l : Addr) (n : Int) : Prop := d ≠ l ∧ ∃ (cs : List Int) (y z : Int), H d = some (.lst [.ref l, .int y, .int z]) ∧ H l = some (.lst (cs.map V.int)) ∧ cs.length ≤ 63 ∧ 0 ≤ z ∧ z ≤ n
theorem DeckD.mono {H : Hp} {d l : Addr} {n m : Int} (D : DeckD H d l n) (h : n ≤ m) : DeckD H d l m := by
  obtain ⟨ne, cs, z, y, h1, h2, h3, h4, h5⟩ := D
  exact ⟨ne, cs, z, y, h1, h2, h3, h4, Int.le_trans h5 h⟩
theorem DeckD.same {H H' : Hp} {d l : Addr} {n : Int} (D : DeckD H d l n) (s : Same H H') : DeckD H' d l n := by
  obtain ⟨ne, cs, z, y, hd, hl, r⟩ := D
  exact ⟨ne, cs, z, y, s _ _ hd, s _ _ hl, r⟩
theorem DeckD.gr {H H' : Hp} {d l : Addr} {n : Int} (D : DeckD H d l n) (s : Gr H H') : DeckD H' d l n := by
  obtain ⟨ne, cs, z, y, hd, hl, r⟩ := D
  exact ⟨ne, cs, z, y, s.lst hd, s.lst hl, r⟩
theorem DeckD.upd {H : Hp} {d l p : Addr} {n : Int} {o : HO} (D : DeckD H d l n) (h1 : p ≠ d) (h2 : p ≠ l) : DeckD (upd H p o) d l n := by
  obtain ⟨ne, cs, z, y, hd, hl, r⟩ := D
  exact ⟨ne, cs, z, y, by rw [upd_ne h1.symm]; exact hd, by rw [upd_ne h2.symm]; exact hl, r⟩
theorem DeckD.off {H : Hp} {d l p : Addr} {n : Int} (D : DeckD H d l n) (h : H p = none) : p ≠ d ∧ p ≠ l := by
  obtain ⟨ne, cs, z, y, hd, hl, r⟩ := D
  exact ⟨(ne_of_none hd h).symm, (ne_of_none hl h).symm⟩
theorem Ts.frD {H H' : Hp} {d l : Addr} {n : Int} (D : DeckD H d l n) (f : Fr d l H H') : Ts H H' := fun b xs e => by
  obtain ⟨ne, cs, z, y, hd, hl, r⟩ := D
  exact f b _ (ne_of e hd (by intro z; cases z)) (ne_of e hl (by intro z; cases z)) e
theorem tab_frD {H H' : Hp} {d l P : Addr} {n : Int} (D : DeckD H d l n) (f : Fr d l H H') (t : GxR.TabG H P) : GxR.TabG H' P := by
  obtain ⟨ps, e, tr⟩ := t
  obtain ⟨ne, cs, z, y, hd, hl, r⟩ := D
  exact ⟨ps, f _ _ (ne_of e hd (by intro z; cases z)) (ne_of e hl (by intro z; cases z)) e, tr⟩
theorem none_of_frD {d l p : Addr} {H H' : Hp} {n : Int} (f : Fr d l H H') (D : DeckD H' d l n) (h : H' p = none) : H p = none := by
  have o := D.off h
  cases z : H p with
  | none => rfl
  | some u => rw [f _ _ o.1 o.2 z] at h; cases h
theorem cut63 {ns : List Int} (h : ns.length ≤ 63) : cutV (ns.map V.int) none (some 63) = ns.map V.int := by
  unfold cutV
  have e : HT.sIx (ns.map V.int).length (ns.map V.int).length (some 63) = min 63 (ns.map V.int).length := HT.sIx_nat _ _ 63
  rw [HT.sIx_none, e, List.length_map, List.drop_zero]
  apply List.take_of_length_le
  rw [List.length_map]
  omega
theorem sq_same {K : PySem.W.Frag} {H H' : Hp} {a : Addr} {xs : List V} (s : Same H H') (h : SqL K H a xs) : SqL K H' a xs := h.imp (fun r => r.imp (fun e => s _ _ e) (fun ⟨ob, e⟩ => ⟨ob, s _ _ e⟩)) id
def sp_deck (K : PySem.W.Frag) : Sp := fun vs H Q _ => ∃ (a : Addr) (ns : List Int), vs = [.ref a] ∧ SqL K H a (ns.map V.int) ∧ ns.length ≤ 63 ∧ ∀ H' d l, Same H H' → DeckD H' d l 0 → Q (.ref d) H'
theorem ok_deck (T : Tx K mg) : FnOk P w K mg base CX0 1 T.f_deck T.fd_deck ["_law_script"] (sp_deck K) := by
  refine T.F_deck.ok sc_deck (fun vs H Q E h => ?_) (fun cdv A outer s H vs Q E hr h => ?_)
  · obtain ⟨a, ns, rfl, _⟩ := h
    rfl
  · obtain ⟨a, ns, rfl, hS, hlen, q⟩ := h
    refine ⟨_, (pss_one (ps_ret (pe_lst (pa_cons (pe_callTy call_list_of (by rfl) T.m_list (by decide +kernel) (pa_cons (pe_slice sl_list (pv 0) po_none (po_some pe_int)) pa_nil)) (pa_cons (pe_op op_add pe_int (pe_op op_mod (pe_callB (cr_sum rfl) (by rfl) T.m_sum (by decide +kernel) (pa_cons (pe_slice sl_list (pv 0) po_none (po_some pe_int)) pa_nil)) pe_int)) (pa_cons pe_int pa_nil)))))), ?_⟩
    refine ⟨.ref a, rfl, 63, rfl, a, _, rfl, hS, fun c1 n1 => ?_⟩
    rw [cut63 hlen]
    have s1 := same_upd (o := HO.lst (ns.map V.int)) n1
    refine ⟨c1, _, rfl, .inl (SqL.of upd_same), fun l nl => ?_⟩
    have s2 := same_upd (o := HO.lst (ns.map V.int)) nl
    refine ⟨.ref a, rfl, 63, rfl, a, _, rfl, sq_same (s1.trans s2) hS, fun c3 n3 => ?_⟩
    rw [cut63 hlen]
    have s3 := same_upd (o := HO.lst (ns.map V.int)) n3
    refine ⟨c3, ns, rfl, SqL.of upd_same, _, _, rfl, rfl, p29, _, _, rfl, rfl, sl3, fun d nd => ?_⟩
    have s5 := same_upd (o := HO.lst [V.ref l, V.int (48271 + ns.sum % 2147483629), V.int 0]) nd
    have hl4 := s3 _ _ (show (upd (upd H c1 (.lst (ns.map V.int))) l (.lst (ns.map V.int))) l = _ from upd_same)
    exact q _ d l (((s1.trans s2).trans s3).trans s5) ⟨(ne_of_none hl4 nd).symm, ns, _, 0, upd_same, s5 _ _ hl4, hlen, Int.le_refl _, Int.le_refl _⟩
/-! ### a draw -/
theorem at0 (c : Int) (r : List Int) : atI ((c :: r).map V.int) 0 = some (.int c) := by
  rw [List.map_cons]
  exact atI_nat (j := 0) rfl
theorem ixN0 (c : Int) (r : List Int) : ixN ((c :: r).map V.int).length 0 = some 0 := by
  unfold ixN
  rw [if_pos (by decide), if_pos (by rw [List.length_map, List.length_cons]; omega)]
  rfl
theorem ne_list (cs : List Int) : (!PyData.eqv (.list (cs.map PyData.int)) (.list [])) = !cs.isEmpty := by cases cs <;> rfl
def sp_draw (K : PySem.W.Frag) : Sp := fun vs H Q _ => ∃ (d l : Addr) (m n : Int), vs = [.ref d, .int m] ∧ DeckD H d l n ∧ n < 1000000000 ∧ 0 < m ∧ m < 1073741824 ∧ ∀ H' v, DeckD H' d l (n + 1) → Fr d l H H' → 0 ≤ v → v < m → Q (.int v) H'
theorem ok_draw (T : Tx K mg) : FnOk P w K mg base CX0 1 T.f_draw T.fd_draw ["_law_deck_here", "_law_most"] (sp_draw K) := by
  refine T.F_draw.ok sc_draw (fun vs H Q E h => ?_) (fun cdv A outer s H vs Q E hr h => ?_)
  · obtain ⟨d, l, m, n, rfl, _⟩ := h
    rfl
  · obtain ⟨d, l, m, n, rfl, D, hn, hm0, hm1, q⟩ := h
    obtain ⟨ne, cs, y, z, hd, hl, hcs, hz0, hz1⟩ := D
    refine ⟨_, (pss_cons (ps_set (i := 2) sc_draw.nd rfl (by first | exact .inl rfl | exact .inr rfl) (pe_ix ix_list (pv 0) pe_int (fun _ _ => rfl))) (pss_cons (ps_if (pt_cut (pw_and (pt_cmpR (op_neD hr.units) (pv 2) (pe_lst pa_nil) (nomark _)) (pw_and1 (pt_cmpR op_ge (pe_ix ix_list (pv 2) pe_int (fun _ _ => rfl)) (pe_op op_pow pe_int pe_int) (nomark _)))).pt) (pss_cons (ps_set (i := 3) sc_draw.nd rfl (by first | exact .inl rfl | exact .inr rfl) (pe_op op_mod (pe_ix ix_list (pv 2) pe_int (fun _ _ => rfl)) (pv 1))) (pss_cons (ps_asg (pe_op op_fdiv (pe_ix ix_list (pv 2) pe_int (fun _ _ => rfl)) (pv 1)) (pg_sub (pv 2) pe_int set_list)) (pss_one (ps_ret (pv 3))))) pss_nil) (pss_cons (ps_asg (pe_op op_add (pe_ix ix_list (pv 0) pe_int (fun _ _ => rfl)) pe_int) (pg_sub (pv 0) pe_int set_list)) (pss_cons (ps_set (i := 4) sc_draw.nd rfl (by first | exact .inl rfl | exact .inr rfl) (pe_ix ix_list (pv 0) pe_int (fun _ _ => rfl))) (C8.pss_cut (ps_if (pt_cmpR (op_neD hr.units) (pv 2) (pe_lst pa_nil) (nomark _)) (pss_one (ps_set (i := 4) sc_draw.nd rfl (by first | exact .inl rfl | exact .inr rfl) (pe_op op_add (pv 4) (pe_bm PySem.F.plainAttrs_list PySem.F.slot_list_pop PySem.F.type_list_pop mt_popAt (pv 2) (pa_cons pe_int pa_nil))))) pss_nil) (pss_cons (ps_set (i := 5) sc_draw.nd rfl (by first | exact .inl rfl | exact .inr rfl) (pe_op op_mod (pe_op op_add (pe_op op_add (pe_op op_mul (pe_op op_mod (pv 4) pe_int) pe_int) (pe_op op_mul pe_int (pe_ix ix_list (pv 0) pe_int (fun _ _ => rfl)))) pe_int) pe_int)) (pss_cons (ps_set (i := 5) sc_draw.nd rfl (by first | exact .inl rfl | exact .inr rfl) (pe_op op_mod (pe_op op_add (pe_op op_add (pe_op op_mul (pv 5) (pv 5)) (pe_op op_mul pe_int (pv 5))) (pe_ix ix_list (pv 0) pe_int (fun _ _ => rfl))) pe_int)) (pss_cons (ps_asg (pv 5) (pg_sub (pv 0) pe_int set_list)) (pss_one (ps_ret (pe_op op_mod (pe_op op_fdiv (pe_op op_mod (pe_op op_mul (pv 5) (pe_op op_add (pv 5) pe_int)) pe_int) pe_int) (pv 1)))))))))))), ?_⟩
    refine ⟨.ref d, rfl, d, _, 0, .ref l, rfl, rfl, SqL.of hd, rfl, ?_⟩
    refine ⟨fun b H' => Fr d l H H' ∧ H' d = some (.lst [.ref l, .int y, .int z]) ∧ H' l = some (.lst (cs.map V.int)) ∧ (b = true → ∃ c r, cs = c :: r), ?_, ?_⟩
    · refine ⟨.ref l, rfl, Nat.zero_le _, fun p np => ?_⟩
      have fr2 : Fr d l H (upd H p (.lst [])) := Fr.new np
      have hd2 : (upd H p (.lst [])) d = some (.lst [.ref l, .int y, .int z]) := same_upd np _ _ hd
      have hl2 : (upd H p (.lst [])) l = some (.lst (cs.map V.int)) := same_upd np _ _ hl
      refine ⟨.list (cs.map .int), .list [], .lst (SqL.of hl2) (dpInts cs), .lst (SqL.of upd_same) .nil, shInts cs, rfl, _, rfl, ?_⟩
      rw [ne_list]
      cases cs with
      | nil => exact iteF ⟨fr2, hd2, hl2, fun e => by cases e⟩
      | cons c r =>
        refine iteT ?_
        refine ⟨.ref l, rfl, l, _, 0, .int c, rfl, rfl, SqL.of hl2, at0 _ _, _, _, rfl, rfl, ⟨by decide, by decide, by decide⟩, _, _, rfl, rfl, _, rfl, ?_⟩
        exact ⟨fr2, hd2, hl2, fun _ => ⟨c, r, rfl⟩⟩
    · rintro b H1 ⟨fr1, hd1, hl1, hb⟩
      cases b with
      | true =>
        obtain ⟨c, r, rfl⟩ := hb rfl
        refine iteT ?_
        refine ⟨.ref l, rfl, l, _, 0, .int c, rfl, rfl, SqL.of hl1, at0 _ _, .int m, rfl, _, _, rfl, rfl, hm0, ?_⟩
        refine ⟨.ref l, rfl, l, _, 0, .int c, rfl, rfl, SqL.of hl1, at0 _ _, .int m, rfl, _, _, rfl, rfl, ⟨hm0, hm1⟩, .ref l, rfl, l, _, 0, 0, rfl, rfl, hl1, ixN0 _ _, ?_⟩
        refine ⟨.int (c % m), rfl, ?_⟩
        exact q _ _ ⟨ne, c / m :: r, y, z, by rw [upd_ne ne]; exact hd1, upd_same, hcs, hz0, by omega⟩ (fr1.trans Fr.l) (Int.emod_nonneg _ (by omega)) (Int.emod_lt_of_pos _ hm0)
      | false =>
        refine iteF ?_
        refine ⟨.ref d, rfl, d, _, 2, .int z, rfl, rfl, SqL.of hd1, rfl, z, 1, rfl, rfl, .ref d, rfl, d, _, 2, 2, rfl, rfl, hd1, rfl, ?_⟩
        have hd2 : (upd H1 d (.lst [.ref l, .int y, .int (z + 1)])) d = some (.lst [.ref l, .int y, .int (z + 1)]) := upd_same
        have hl2 : (upd H1 d (.lst [.ref l, .int y, .int (z + 1)])) l = some (.lst (cs.map V.int)) := by rw [upd_ne ne.symm]; exact hl1
        have fr2 : Fr d l H (upd H1 d (.lst [.ref l, .int y, .int (z + 1)])) := fr1.trans Fr.d
        have hz2 : 0 ≤ z + 1 := by omega
        have hz3 : z + 1 ≤ n + 1 := by omega
        have hz4 : z + 1 < 2000000000 := by omega
        show tSeq _ _ _ _ (upd H1 d (.lst [.ref l, .int y, .int (z + 1)]))
        revert hd2 hl2 fr2 hz2 hz3 hz4
        generalize upd H1 d (.lst [.ref l, .int y, .int (z + 1)]) = H2
        generalize z + 1 = z'
        intro hd2 hl2 fr2 hz2 hz3 hz4
        refine ⟨.ref d, rfl, d, _, 1, .int y, rfl, rfl, SqL.of hd2, rfl, ?_⟩
        refine ⟨fun σ H' => ∃ (x : Int) (cs : List Int), σ = [some (.ref d), some (.int m), some (.ref l), none, some (.int x), none] ∧ cs.length ≤ 63 ∧ H' d = some (.lst [.ref l, .int y, .int z']) ∧ H' l = some (.lst (cs.map V.int)) ∧ Fr d l H H', ?_, ?_⟩
        · refine ⟨.ref l, rfl, Nat.zero_le _, fun p np => ?_⟩
          have fr3 : Fr d l H (upd H2 p (.lst [])) := fr2.trans (Fr.new np)
          have hd3 : (upd H2 p (.lst [])) d = some (.lst [.ref l, .int y, .int z']) := same_upd np _ _ hd2
          have hl3 : (upd H2 p (.lst [])) l = some (.lst (cs.map V.int)) := same_upd np _ _ hl2
          refine ⟨.list (cs.map .int), .list [], .lst (SqL.of hl3) (dpInts cs), .lst (SqL.of upd_same) .nil, shInts cs, rfl, _, rfl, ?_⟩
          rw [ne_list]
          revert fr3 hd3 hl3
          generalize upd H2 p (.lst []) = H3
          intro fr3 hd3 hl3
          cases cs with
          | nil => exact iteF ⟨y, [], rfl, hcs, hd3, hl3, fr3⟩
          | cons c r =>
            refine iteT ?_
            have hr63 : r.length + 1 ≤ 63 := hcs
            refine ⟨.int y, rfl, .ref l, rfl, .inl ⟨rfl, _, SqL.of hl3⟩, l, _, 0, 0, .int c, rfl, rfl, hl3, by decide, by decide, seqIx0 _ _, rfl, _, _, rfl, rfl, ?_⟩
            exact ⟨_, r, rfl, by omega, by rw [upd_ne ne]; exact hd3, upd_same, fr3.trans Fr.l⟩
        · rintro σ H3 ⟨x, cs3, rfl, hcs3, hd3, hl3, fr3⟩
          have u0 := Int.emod_nonneg x (show (2147483629 : Int) ≠ 0 by decide)
          have u1 := Int.emod_lt_of_pos x (show (0 : Int) < 2147483629 by decide)
          refine ⟨.int x, rfl, _, _, rfl, rfl, p29, x % 2147483629, 48271, rfl, rfl, .inl ⟨by omega, by omega⟩, .ref d, rfl, d, _, 2, .int z', rfl, rfl, SqL.of hd3, rfl, 69621, z', rfl, rfl, .inl ⟨by decide, by decide⟩, _, _, rfl, rfl, _, _, rfl, rfl, _, _, rfl, rfl, p47, ?_⟩
          dsimp only
          have v0 := Int.emod_nonneg (x % 2147483629 * 48271 + 69621 * z' + 7919) (show (2147483647 : Int) ≠ 0 by decide)
          have v1 := Int.emod_lt_of_pos (x % 2147483629 * 48271 + 69621 * z' + 7919) (show (0 : Int) < 2147483647 by decide)
          revert v0 v1
          generalize (x % 2147483629 * 48271 + 69621 * z' + 7919) % 2147483647 = v
          intro v0 v1
          refine ⟨.int v, rfl, .int v, rfl, v, v, rfl, rfl, .inl ⟨by omega, by omega⟩, .int v, rfl, 39373, v, rfl, rfl, .inl ⟨by decide, by decide⟩, _, _, rfl, rfl, .ref d, rfl, d, _, 2, .int z', rfl, rfl, SqL.of hd3, rfl, _, _, rfl, rfl, _, _, rfl, rfl, p87, ?_⟩
          dsimp only
          have t0 := Int.emod_nonneg (v * v + 39373 * v + z') (show (2147483587 : Int) ≠ 0 by decide)
          have t1 := Int.emod_lt_of_pos (v * v + 39373 * v + z') (show (0 : Int) < 2147483587 by decide)
          revert t0 t1
          generalize (v * v + 39373 * v + z') % 2147483587 = t
          intro t0 t1
          refine ⟨.int t, rfl, .ref d, rfl, d, _, 1, 1, rfl, rfl, hd3, rfl, ?_⟩
          refine ⟨.int t, rfl, .int t, rfl, _, _, rfl, rfl, t, t + 16807, rfl, rfl, .inl ⟨by omega, by omega⟩, _, _, rfl, rfl, p63, _, _, rfl, rfl, ⟨by decide, by decide⟩, .int m, rfl, _, _, rfl, rfl, hm0, ?_⟩
          exact q _ _ ⟨ne, cs3, t, z', upd_same, by rw [upd_ne ne.symm]; exact hl3, hcs3, hz2, hz3⟩ (fr3.trans Fr.d) (Int.emod_nonneg _ (by omega)) (Int.emod_lt_of_pos _ hm0)

/-! ### how many, rows -/
theorem at2i (b : Bool) (i j : Int) : atI [V.int i, .int j] (if b = true then 1 else 0) = some (.int (if b = true then j else i)) := by cases b <;> rfl
theorem Fr.upd {d l p : Addr} {H H' : Hp} {o : HO} (f : Fr d l H H') (h : H p = none) : Fr d l H (upd H' p o) := fun b u h1 h2 e => by
  rw [upd_ne (ne_of_none e h)]
  exact f b u h1 h2 e
def sp_many (K : PySem.W.Frag) : Sp := fun vs H Q _ => ∃ (d l : Addr) (n : Int), vs = [.ref d] ∧ DeckD H d l n ∧ n < 900000 ∧ ∀ (m : Nat) (H' : Hp), DeckD H' d l (n + 2) → Fr d l H H' → 1 ≤ m → m ≤ 6 → Q (.int m) H'
theorem ok_many (T : Tx K mg) : FnOk P w K mg base CX0 2 T.f_many T.fd_many ["_law_deck_here"] (sp_many K) := by
  refine T.F_many.ok sc_many (fun vs H Q E h => ?_) (fun cdv A outer s H vs Q E hr h => ?_)
  · obtain ⟨d, l, n, rfl, _⟩ := h
    rfl
  · obtain ⟨d, l, n, rfl, D, hn, q⟩ := h
    refine ⟨_, (pss_cons (ps_set (i := 1) sc_many.nd rfl (by first | exact .inl rfl | exact .inr rfl) (pe_call (ok_draw T) (hr.mono (by decide)) (by rfl) T.g_draw T.F_draw.kp T.b_draw .nil pass0 (pa_cons (pv 0) (pa_cons pe_int pa_nil)))) (pss_cons (ps_if (pt_cmpR op_gt (pv 1) pe_int (nomark _)) (pss_one (ps_ret pe_int)) pss_nil) (pss_one (ps_ret (pe_op op_add (pe_ix ix_list (pe_lst (pa_cons pe_int (pa_cons pe_int pa_nil))) (pe_callTy call_int1 (by rfl) T.m_int (by decide +kernel) (pa_cons (pe_cmpR op_gt (pv 1) pe_int (nomark _)) pa_nil)) (fun _ _ => rfl)) (pe_call (ok_draw T) (hr.mono (by decide)) (by rfl) T.g_draw T.F_draw.kp T.b_draw .nil pass0 (pa_cons (pv 0) (pa_cons (pe_ix ix_list (pe_lst (pa_cons pe_int (pa_cons pe_int pa_nil))) (pe_callTy call_int1 (by rfl) T.m_int (by decide +kernel) (pa_cons (pe_cmpR op_gt (pv 1) pe_int (nomark _)) pa_nil)) (fun _ _ => rfl)) pa_nil)))))))), ?_⟩
    refine ⟨.ref d, rfl, d, l, 8, _, rfl, D, by omega, by decide, by decide, fun H1 x D1 fr1 x0 x1 => ?_⟩
    refine ⟨.int x, rfl, _, _, rfl, rfl, _, rfl, ite2 (fun _ => ?_) (fun _ => ?_)⟩
    · exact q 6 H1 (D1.mono (by omega)) fr1 (by decide) (by decide)
    · refine ⟨sl2, fun p np => ⟨.int x, rfl, _, _, rfl, rfl, .inr ⟨_, rfl, p, _, _, _, rfl, rfl, SqL.of upd_same, at2i _ _ _, .ref d, rfl, sl2, fun p2 np2 => ⟨.int x, rfl, _, _, rfl, rfl, .inr ⟨_, rfl, p2, _, _, _, rfl, rfl, SqL.of upd_same, at2i _ _ _, ?_⟩⟩⟩⟩⟩
      generalize decide (x > 2) = b
      have s1 := same_upd (o := HO.lst [V.int 1, V.int 3]) np
      have s2 := same_upd (o := HO.lst [V.int 4, V.int 3]) np2
      refine ⟨d, l, _, _, rfl, (D1.same s1).same s2, by omega, by cases b <;> decide, by cases b <;> decide, fun H3 y D3 fr3 y0 y1 => ⟨_, _, rfl, rfl, ?_⟩⟩
      obtain ⟨k, rfl⟩ := Int.eq_ofNat_of_zero_le y0
      have e : ((if b = true then 3 else 1 : Int) + (k : Int)) = (((if b = true then 3 else 1) + k : Nat) : Int) := by cases b <;> rfl
      show Q (.int ((if b = true then 3 else 1 : Int) + (k : Int))) H3
      rw [e]
      refine q _ H3 (D3.mono (by omega)) (fr1.trans ((Fr.of s1).trans ((Fr.of s2).trans fr3))) ?_ ?_
      · cases b
        · show 1 ≤ 1 + k; omega
        · show 1 ≤ 3 + k; omega
      · cases b
        · have : (k : Int) < 4 := y1
          show 1 + k ≤ 6; omega
        · have : (k : Int) < 3 := y1
          show 3 + k ≤ 6; omega
def sp_row (K : PySem.W.Frag) : Sp := fun vs H Q _ => ∃ (d l : Addr) (n : Int) (m : Nat), vs = [.ref d, .int m] ∧ DeckD H d l n ∧ n < 900000 ∧ m ≤ 6 ∧ ∀ (p : Addr) (bs : List Int) (H' : Hp), DeckD H' d l (n + m) → Fr d l H H' → bs.length = m → (∀ b ∈ bs, b = 0 ∨ b = 1) → H' p = some (.tup (bs.map V.int)) → Q (.ref p) H'
theorem ok_row (T : Tx K mg) : FnOk P w K mg base CX0 2 T.f_row T.fd_row ["_law_deck_here", "_law_many_here"] (sp_row K) := by
  refine T.F_row.ok sc_row (fun vs H Q E h => ?_) (fun cdv A outer s H vs Q E hr h => ?_)
  · obtain ⟨d, l, n, m, rfl, _⟩ := h
    rfl
  · obtain ⟨d, l, n, m, rfl, D, hn, hm, q⟩ := h
    refine ⟨_, (pss_one (ps_ret (pe_callTy call_tuple_of (by rfl) T.m_tuple (by decide +kernel) (pa_cons (pe_lc (own := [("_law_k", 2)]) (by rfl) sc_row.nd (pi_range1 (by rfl) T.m_range (pa_cons (pv 1) pa_nil)) (blkOk_by (own := [("_law_k", 2)]) (N := ["_law_deck_here", "_law_many_here", "_law_k"]) (sc := defScope s_row) (by decide +kernel)) (fun _ _ _ _ _ => (pg_name (i := 2) sc_row.nd rfl (by first | exact .inl rfl | exact .inr rfl))) (fun _ _ _ _ _ => pts_nil) (fun _ _ _ _ _ => (pe_call (ok_draw T) (hr.mono (by decide)) (by rfl) T.g_draw T.F_draw.kp T.b_draw .nil pass0 (pa_cons (pv 0) (pa_cons pe_int pa_nil))))) pa_nil)))), ?_⟩
    refine ⟨.int m, rfl, m, rfl, by omega, by omega, fun I nI => ?_⟩
    have oI := D.off nI
    refine lc_range (lo := 0) (n := (m : Int).toNat) (fun j H' => DeckD H' d l (n + j) ∧ Fr d l H H' ∧ ∃ bs : List Int, H' I = some (.lst (bs.map V.int)) ∧ bs.length = j ∧ ∀ b ∈ bs, b = 0 ∨ b = 1)
      ⟨(D.same (same_upd nI)).mono (by omega), Fr.new nI, [], upd_same, rfl, fun x hx => by cases hx⟩ ?_ ?_
    · rintro j H2 hj ⟨D2, fr2, bs, hI, lb, okb⟩
      have hj' : j < m := by simpa using hj
      refine ⟨rfl, .ref d, rfl, d, l, 2, _, rfl, D2, by omega, by decide, by decide, fun H3 x D3 fr3 x0 x1 => ?_⟩
      have hI3 := fr3 _ _ oI.1 oI.2 hI
      refine ⟨_, hI3, ?_, (D3.upd oI.1 oI.2).mono (by push_cast; omega), Fr.upd (fr2.trans fr3) nI, bs ++ [x], ?_, by rw [List.length_append, lb]; rfl, fun y hy => ?_⟩
      · rw [List.length_map, lb]
        exact Nat.lt_of_lt_of_le (show j < 64 by omega) (by decide)
      · rw [upd_same, List.map_append]
        rfl
      · rcases List.mem_append.mp hy with z | z
        · exact okb y z
        · rw [List.mem_singleton.mp z]; omega
    · rintro H2 ⟨D2, fr2, bs, hI, lb, okb⟩
      have lb' : bs.length = m := by rw [lb]; simp
      refine ⟨I, _, rfl, .inl ⟨SqL.of hI, fun ti nti => ?_⟩⟩
      have s2 := same_upd (o := HO.tup (bs.map V.int)) nti
      exact q ti bs _ ((D2.same s2).mono (by simp)) (fr2.trans (Fr.of s2)) lb' okb upd_same

/-! ### products -/
def one (c : Nat) : Str := SX.S [c]
theorem one_len (c : Nat) : (one c).length = 1 := rfl
theorem joinL_nil : ∀ l : List (List Nat), TL.joinL [] l = l.flatten
  | [] => rfl
  | [p] => by simp [TL.joinL]
  | p :: q :: r => by
    show p ++ ([] ++ TL.joinL [] (q :: r)) = _
    rw [joinL_nil (q :: r)]
    rfl
theorem join_one (cs : List Nat) : Txt.join (Str.ofString "") (cs.map one) = SX.S cs := by
  have e : cs.map one = (cs.map fun c => [c]).map SX.S := by rw [List.map_map]; rfl
  have z : Str.ofString "" = SX.S [] := by decide +kernel
  rw [e, z, SX.join_S, joinL_nil]
  have : (cs.map fun c => [c]).flatten = cs := by
    clear e z
    induction cs with
    | nil => rfl
    | cons b r ih => rw [List.map_cons, List.flatten_cons, ih]; rfl
  rw [this]
theorem ones_sum (cs : List Nat) : ((cs.map one).map (·.length)).sum = cs.length := by
  induction cs with
  | nil => rfl
  | cons b r ih =>
    rw [List.map_cons, List.map_cons, List.sum_cons, ih, List.length_cons, one_len]
    omega
theorem join_fit {cs : List Nat} (h : cs.length ≤ 64) : ((cs.map one).map (·.length)).sum + (cs.map one).length * (Str.ofString "").length ≤ 16777216 := by
  rw [ones_sum]
  show cs.length + (cs.map one).length * 0 ≤ _
  omega
def SgOk (c : Nat) : Prop := c = 45 ∨ c = 48 ∨ c = 49
def ProdOk (m : Nat) (p : List Nat) : Prop := p.length = m ∧ ∀ c ∈ p, SgOk c
theorem dash_S : Str.ofString "-" = one 45 := by decide +kernel
theorem s8_S : Str.ofString "01-01---" = SX.S [48, 49, 45, 48, 49, 45, 45, 45] := by decide +kernel
theorem it8 : ∀ k : Nat, k < 8 → ∃ c, (SX.S [48, 49, 45, 48, 49, 45, 45, 45]).cps[k]? = some c ∧ SgOk c := by
  intro k h
  rcases k with _ | _ | _ | _ | _ | _ | _ | _ | k
  · exact ⟨48, rfl, .inr (.inl rfl)⟩
  · exact ⟨49, rfl, .inr (.inr rfl)⟩
  · exact ⟨45, rfl, .inl rfl⟩
  · exact ⟨48, rfl, .inr (.inl rfl)⟩
  · exact ⟨49, rfl, .inr (.inr rfl)⟩
  · exact ⟨45, rfl, .inl rfl⟩
  · exact ⟨45, rfl, .inl rfl⟩
  · exact ⟨45, rfl, .inl rfl⟩
  · omega
theorem at6 {x : Int} (h0 : 0 ≤ x) (h1 : x < 6) : ∃ v : Int, atI [V.int 6, .int 4, .int 3, .int 8, .int 8, .int 5] x = some (.int v) ∧ 0 < v ∧ v ≤ 8 := by
  obtain ⟨k, rfl⟩ := Int.eq_ofNat_of_zero_le h0
  have hk : k < 6 := by omega
  rcases k with _ | _ | _ | _ | _ | _ | k
  · exact ⟨6, rfl, by decide, by decide⟩
  · exact ⟨4, rfl, by decide, by decide⟩
  · exact ⟨3, rfl, by decide, by decide⟩
  · exact ⟨8, rfl, by decide, by decide⟩
  · exact ⟨8, rfl, by decide, by decide⟩
  · exact ⟨5, rfl, by decide, by decide⟩
  · omega
theorem mul_dash {m : Nat} (h1 : 1 ≤ m) (h6 : m ≤ 6) : Txt.mul (one 45) (m : Int) = SX.S (List.replicate m 45) := by
  rcases m with _ | _ | _ | _ | _ | _ | _ | m
  · omega
  all_goals first | decide +kernel | omega
def wS (b : Int) : Nat := if b = 1 then 49 else 48
theorem str01 {b : Int} (h : b = 0 ∨ b = 1) : (toString b : Str) = one (wS b) := by
  rcases h with rfl | rfl <;> decide +kernel
def rRepS : V → V → Hp → VK → Prop := fun x y H Q => ∃ (z : Str) (n : Int), x = .str z ∧ y = .int n ∧ z.length ≤ 16 ∧ 0 ≤ n ∧ n ≤ 1048576 ∧ Q (.str (Txt.mul z n)) H
theorem op_repS {X : Cx} : OpR X (binaryOp .Mult) rRepS := by
  intro pins s σ H x y v u Q I rx ry h
  obtain ⟨i, j, rfl, rfl, h1, h2, h3, q⟩ := h
  obtain ⟨t, rfl⟩ := rx
  obtain ⟨t', rfl⟩ := ry
  exact SB.mul (mulOk_of 16 1048576 h1 h3 (by omega) (by decide) (by decide)) fun t' tk => ⟨.str _, H, I.tok _, ⟨_, rfl⟩, q⟩
def sp_product (K : PySem.W.Frag) : Sp := fun vs H Q _ => ∃ (d l : Addr) (n : Int) (m : Nat), vs = [.ref d, .int m] ∧ DeckD H d l n ∧ n < 800000 ∧ 1 ≤ m ∧ m ≤ 6 ∧ ∀ (p : List Nat) (H' : Hp), DeckD H' d l (n + 8) → Fr d l H H' → ProdOk m p → Q (.str (SX.S p)) H'
theorem ok_product (T : Tx K mg) : FnOk P w K mg base CX0 3 T.f_product T.fd_product ["_law_deck_here", "_law_many_here"] (sp_product K) := by
  refine T.F_product.ok sc_product (fun vs H Q E h => ?_) (fun cdv A outer s H vs Q E hr h => ?_)
  · obtain ⟨d, l, n, m, rfl, _⟩ := h
    rfl
  · obtain ⟨d, l, n, m, rfl, D, hn, m1, m6, q⟩ := h
    refine ⟨_, (pss_cons (ps_set (i := 2) sc_product.nd rfl (by first | exact .inl rfl | exact .inr rfl) (pe_call (ok_draw T) (hr.mono (by decide)) (by rfl) T.g_draw T.F_draw.kp T.b_draw .nil pass0 (pa_cons (pv 0) (pa_cons pe_int pa_nil)))) (pss_cons (ps_if (pt_cmpR op_eq (pv 2) pe_int (nomark _)) (pss_one (ps_ret (pe_join pe_str (pe_lc (own := [("_law_worth_here", 4)]) (by rfl) sc_product.nd (pi_tup (pe_call (ok_row T) (hr.mono (by decide)) (by rfl) T.g_row T.F_row.kp T.b_row .nil pass0 (pa_cons (pv 0) (pa_cons (pv 1) pa_nil)))) (blkOk_by (own := [("_law_worth_here", 4)]) (N := ["_law_deck_here", "_law_many_here", "_law_way", "_law_k", "_law_worth_here"]) (sc := defScope s_product) (by decide +kernel)) (fun _ _ _ _ _ => (pg_name (i := 4) sc_product.nd rfl (by first | exact .inl rfl | exact .inr rfl))) (fun _ _ _ _ _ => pts_nil) (fun _ _ _ _ _ => (pe_callTy call_str_int (by rfl) T.m_str (by decide +kernel) (pa_cons (pv 4) pa_nil))))))) pss_nil) (pss_cons (ps_if (pt_cut (pw_and (pt_cmpR op_eq (pv 2) pe_int (nomark _)) (pw_and1 (pt_cmpR op_eq (pe_call (ok_draw T) (hr.mono (by decide)) (by rfl) T.g_draw T.F_draw.kp T.b_draw .nil pass0 (pa_cons (pv 0) (pa_cons pe_int pa_nil))) pe_int (nomark _)))).pt) (pss_one (ps_ret (pe_op op_repS pe_str (pv 1)))) pss_nil) (pss_one (ps_ret (pe_join pe_str (pe_lc (own := [("_law_k", 3)]) (by rfl) sc_product.nd (pi_range1 (by rfl) T.m_range (pa_cons (pv 1) pa_nil)) (blkOk_by (own := [("_law_k", 3)]) (N := ["_law_deck_here", "_law_many_here", "_law_way", "_law_k", "_law_worth_here"]) (sc := defScope s_product) (by decide +kernel)) (fun _ _ _ _ _ => (pg_name (i := 3) sc_product.nd rfl (by first | exact .inl rfl | exact .inr rfl))) (fun _ _ _ _ _ => pts_nil) (fun _ _ _ _ _ => (pe_item_str pe_str (pe_call (ok_draw T) (hr.mono (by decide)) (by rfl) T.g_draw T.F_draw.kp T.b_draw .nil pass0 (pa_cons (pv 0) (pa_cons (pe_ix (show IxR _ (rIxL K) from ix_list) (pe_lst (pa_cons pe_int (pa_cons pe_int (pa_cons pe_int (pa_cons pe_int (pa_cons pe_int (pa_cons pe_int pa_nil))))))) (pv 2) (fun _ _ => rfl)) pa_nil))) (fun _ _ => rfl)))))))))), ?_⟩
    refine ⟨.ref d, rfl, d, l, 6, _, rfl, D, by omega, by decide, by decide, fun H1 x D1 fr1 x0 x1 => ?_⟩
    refine ⟨.int x, rfl, rfl, _, rfl, ite2 (fun _ => ?_) (fun _ => ?_)⟩
    · refine ⟨⟨_, rfl⟩, .ref d, rfl, .int m, rfl, d, l, _, m, rfl, D1, by omega, m6, fun p bs H2 D2 fr2 lb okb hp => ?_⟩
      refine ⟨p, rfl, ⟨_, SqT.of hp⟩, fun L nL => ?_⟩
      have oL := D2.off nL
      have npL : p ≠ L := ne_of_none hp nL
      refine lc_tup (K := K) (a := p) (xs := bs.map V.int) (fun j H' => DeckD H' d l (n + 7) ∧ Fr d l H H' ∧ H' p = some (.tup (bs.map V.int)) ∧ H' L = some (.lst ((((bs.take j).map wS).map one).map V.str)))
        ⟨(D2.same (same_upd nL)).mono (by omega), (fr1.trans fr2).trans (Fr.new nL), same_upd nL _ _ hp, upd_same⟩ (fun j H' _ z => SqT.of z.2.2.1) ?_ ?_
      · rintro j v H3 hv ⟨D3, fr3, hp3, hL⟩
        obtain ⟨b, hb, rfl⟩ : ∃ b, bs[j]? = some b ∧ v = V.int b := by
          rw [List.getElem?_map] at hv
          cases hz : bs[j]? with
          | none => rw [hz] at hv; cases hv
          | some u => rw [hz] at hv; exact ⟨u, rfl, (Option.some.inj hv).symm⟩
        have hb01 := okb b (List.mem_of_getElem? hb)
        refine ⟨rfl, .int b, rfl, b, rfl, by rcases hb01 with rfl | rfl <;> decide, ?_⟩
        rw [str01 hb01]
        refine ⟨_, hL, ?_, D3.upd oL.1 oL.2, ?_, by rw [upd_ne npL]; exact hp3, ?_⟩
        · rw [List.length_map, List.length_map, List.length_map, List.length_take]
          exact Nat.lt_of_lt_of_le (show _ < 64 by omega) (by decide)
        · intro b' u h1 h2 e
          by_cases z : b' = L
          · subst z
            have h0 := (fr1.trans fr2) _ _ h1 h2 e
            rw [nL] at h0; cases h0
          · rw [upd_ne z]; exact fr3 _ _ h1 h2 e
        · rw [upd_same, List.take_add_one, hb]
          simp
      · rintro H3 ⟨D3, fr3, hp3, hL⟩
        rw [List.length_map, List.take_length] at hL
        refine ⟨Str.ofString "", L, (bs.map wS).map one, rfl, rfl, .inl (SqL.of hL), join_fit (by rw [List.length_map]; omega), ?_⟩
        rw [join_one]
        refine q _ H3 (D3.mono (by omega)) fr3 ⟨by rw [List.length_map, lb], fun c hc => ?_⟩
        obtain ⟨b, hb, rfl⟩ := List.mem_map.mp hc
        rcases okb b hb with rfl | rfl
        · exact .inr (.inl rfl)
        · exact .inr (.inr rfl)
    · refine ⟨fun _ H' => DeckD H' d l (n + 2) ∧ Fr d l H H', ?_, ?_⟩
      · refine ⟨.int x, rfl, rfl, _, rfl, ite2 (fun _ => ?_) (fun _ => ⟨D1.mono (by omega), fr1⟩)⟩
        refine ⟨.ref d, rfl, d, l, 4, _, rfl, D1, by omega, by decide, by decide, fun H2 y D2 fr2 y0 y1 => ⟨rfl, _, rfl, D2.mono (by omega), fr1.trans fr2⟩⟩
      · rintro b H2 ⟨D2, fr2⟩
        refine ite2 (fun _ => ?_) (fun _ => ?_)
        · refine ⟨.int m, rfl, _, _, rfl, rfl, (by rw [dash_S]; decide), by omega, by omega, ?_⟩
          rw [dash_S, mul_dash m1 m6]
          exact q _ H2 (D2.mono (by omega)) fr2 ⟨List.length_replicate, fun c hc => .inl (List.mem_replicate.mp hc).2⟩
        · refine ⟨⟨_, rfl⟩, .int m, rfl, m, rfl, by omega, by omega, fun L nL => ?_⟩
          have oL := D2.off nL
          have nL0 : H L = none := none_of_frD fr2 D2 nL
          refine lc_range (lo := 0) (n := (m : Int).toNat) (fun j H' => DeckD H' d l (n + 2 + j) ∧ Fr d l H H' ∧ ∃ cs : List Nat, cs.length = j ∧ (∀ c ∈ cs, SgOk c) ∧ H' L = some (.lst ((cs.map one).map V.str)))
            ⟨(D2.same (same_upd nL)).mono (by omega), fr2.trans (Fr.new nL), [], rfl, (fun c hc => by cases hc), upd_same⟩ ?_ ?_
          · rintro j H3 hj ⟨D3, fr3, cs, lc, okc, hL⟩
            have hj' : j < m := by simpa using hj
            refine ⟨rfl, .ref d, rfl, show 6 ≤ sizeLine by decide, fun q6 n6 => ?_⟩
            have s6 := same_upd (o := HO.lst [V.int 6, .int 4, .int 3, .int 8, .int 8, .int 5]) n6
            have hL6 := s6 _ _ hL
            obtain ⟨v, ev, v0, v8⟩ := at6 x0 x1
            refine ⟨.int x, rfl, q6, _, _, .int v, rfl, rfl, SqL.of upd_same, ev, d, l, v, _, rfl, D3.same s6, by omega, v0, by omega, fun H7 y D7 fr7 y0 y1 => ?_⟩
            have hL7 := fr7 _ _ oL.1 oL.2 hL6
            obtain ⟨c, hc, okc'⟩ := it8 y.toNat (by omega)
            refine ⟨Str.ofString "01-01---", y, c, rfl, rfl, y0, by omega, by rw [s8_S, SX.S_len]; show y < 8; omega, by rw [s8_S]; exact hc, _, hL7, ?_, (D7.upd oL.1 oL.2).mono (by push_cast; omega), Fr.upd ((fr3.trans (Fr.of s6)).trans fr7) nL0, cs ++ [c], by rw [List.length_append, lc]; rfl, fun z hz => ?_, ?_⟩
            · rw [List.length_map, List.length_map, lc]
              exact Nat.lt_of_lt_of_le (show j < 64 by omega) (by decide)
            · rcases List.mem_append.mp hz with z1 | z1
              · exact okc z z1
              · rw [List.mem_singleton.mp z1]; exact okc'
            · rw [upd_same, List.map_append, List.map_append]
              rfl
          · rintro H3 ⟨D3, fr3, cs, lc, okc, hL⟩
            have lc' : cs.length = m := by rw [lc]; simp
            refine ⟨Str.ofString "", L, cs.map one, rfl, rfl, .inl (SqL.of hL), join_fit (by omega), ?_⟩
            rw [join_one]
            exact q _ H3 (D3.mono (by have : ((m : Int).toNat : Int) ≤ 6 := by omega
                                      omega)) fr3 ⟨lc', okc⟩

end
end Gk

set_option Elab.async false
set_option linter.all false
set_option maxRecDepth 100000
set_option maxHeartbeats 1000000
namespace Gk
open PySem PySem.Spec PyProof.Rows L2
theorem str_dec (x y : Str) : decide (V.str x = V.str y) = decide (x = y) := by
  by_cases z : x = y
  · rw [decide_eq_true z, decide_eq_true (by rw [z])]
  · rw [decide_eq_false z, decide_eq_false (fun k => z (V.str.inj k))]
theorem one_inj {a b : Nat} : decide (one a = one b) = decide (a = b) := by
  by_cases z : a = b
  · rw [decide_eq_true z, decide_eq_true (by rw [z])]
  · rw [decide_eq_false z, decide_eq_false (fun k => z (by have := SX.S_inj k; simpa using this))]
section
variable {P : Program} {w : World} {K : PySem.W.Frag} {mg : Str → Option Value} {base : Heap}
/-! ### products: the program's own -/
def Row01' (r : List Int) : Prop := ∀ x ∈ r, x = 0 ∨ x = 1
def hall (p q : List Nat) : Bool := (p.zip q).all fun z => decide (z.1 = 45) || decide (z.1 = z.2)
def meetM (p q : List Nat) : Bool := (p.zip q).all fun z => decide (z.1 = 45) || decide (z.2 = 45) || decide (z.1 = z.2)
def rowS (r : List Int) : List Nat := r.map wS
def hrow (p : List Nat) (r : List Int) : Bool := hall p (rowS r)
def cubeM (a b : List Int) : List Nat := (a.zip b).map fun z => if z.1 = z.2 then wS z.1 else 45
theorem joinOk_ones (cs : List Nat) (h : cs.length ≤ 64) : JoinOk (Str.ofString "") (cs.map one) = true := by
  have key : ∀ (cs : List Nat) (n : Nat), (cs.map one).foldl (fun a t => a + t.length + (Str.ofString "").length) n = n + cs.length := by
    intro cs
    induction cs with
    | nil => intro n; rfl
    | cons c r ih =>
      intro n
      rw [List.map_cons, List.foldl_cons, ih, List.length_cons]
      show n + 1 + 0 + r.length = n + (r.length + 1)
      omega
  unfold JoinOk
  rw [List.foldl_toArray', key]
  · unfold Builtin.Str.tooLong
    rw [decide_eq_false (show ¬ (0 + cs.length > sizeLine) by rw [sizeLine_eq]; omega)]
    rfl
  · simp
def sp_show_row (T : Tx K mg) : Sp := fun vs H Q _ => ∃ (a : Addr) (r : List Int), vs = [.ref a] ∧ H a = some (.tup (r.map V.int)) ∧ Row01' r ∧ r.length ≤ 6 ∧ Tabs H T.tabs ∧ ∀ H', Gr H H' → Q (.str (SX.S (rowS r))) H'
theorem ok_show_row (T : Tx K mg) (B : Tb base T) : FnOk P w K mg base CX0 2 T.f_show_row T.fd_show_row ["row"] (sp_show_row T) := by
  refine okC T.F_show_row sc_show_row (fun vs H Q E h => ?_) (fun A outer s H vs Q E hr h => ?_)
  · obtain ⟨a, r, rfl, _⟩ := h
    rfl
  · obtain ⟨a, r, rfl, ha, ok, l6, tabs, q⟩ := h
    refine ⟨_, (pss_one (ps_ret (GxJ.pe_joinX (own := [("worth", 1)]) (k := 0) (hr.mono (by decide)) rfl sc_show_row.nd pe_str B.TB_show_row T.cd_show_row rfl rfl (by decide +kernel) (blkOk_by (own := [("worth", 1)]) (N := ["row", "worth"]) (sc := defScope s_show_row) (by decide +kernel)) (pi_tup (pv 0)) (fun _ _ _ _ _ _ _ hr gd => (pg_name (i := 1) sc_show_row.nd rfl (by first | exact .inl rfl | exact .inr rfl))) (fun _ _ _ _ _ _ _ hr gd => pts_nil) (fun _ _ _ _ _ _ _ hr gd => (pe_callTy call_str_int (by rfl) T.m_str (by decide +kernel) (pa_cons (pv 1) pa_nil))) (fun _ => rfl)))), ?_⟩
    have tab : GxR.TabG H T.P_show_row := tabs _ (by simp [Tx.tabs])
    refine ⟨_, rfl, .ref a, rfl, a, rfl, ⟨_, SqT.of ha⟩, tab, fun H2 tb2 => ?_⟩
    have g2 := Gr.tab tab tb2
    refine gx_tup (K := K) (a := a) (xs := r.map V.int) (fun j ys H' => H' = H2 ∧ ys = ((rowS (r.take j)).map one).map V.str) ⟨rfl, rfl⟩ (fun j ys H' _ ⟨e, _⟩ => by rw [e]; exact SqT.of (g2.tup ha)) ?_ ?_
    · rintro j x ys H' hx ⟨rfl, rfl⟩
      obtain ⟨b, hb, rfl⟩ : ∃ b, r[j]? = some b ∧ x = V.int b := by
        rw [List.getElem?_map] at hx
        cases hz : r[j]? with
        | none => rw [hz] at hx; cases hx
        | some u => rw [hz] at hx; exact ⟨u, rfl, (Option.some.inj hx).symm⟩
      have hb01 := ok b (List.mem_of_getElem? hb)
      refine ⟨rfl, .int b, rfl, b, rfl, by rcases hb01 with rfl | rfl <;> decide, ?_⟩
      rw [str01 hb01]
      refine ⟨?_, rfl, ?_⟩
      · unfold rowS
        rw [List.length_map, List.length_map, List.length_map, List.length_take]
        exact Nat.lt_of_lt_of_le (show _ < 64 by omega) (by decide)
      · unfold rowS
        rw [List.take_add_one, hb]
        simp
    · rintro ys H' ⟨rfl, rfl⟩
      rw [List.length_map, List.take_length]
      refine ⟨(rowS r).map one, rfl, joinOk_ones _ (by unfold rowS; rw [List.length_map]; omega), ?_⟩
      rw [join_one]
      exact q _ g2
theorem S_list (p : List Nat) : (SX.S p).cps.toList.map (fun c => V.str ⟨#[c]⟩) = p.map fun c => V.str (one c) := by
  show (p.toArray.toList).map _ = _
  rw [List.toList_toArray]
  rfl
theorem at_tx {H : Hp} (p : List Nat) : (ZpG.ZS.tx (SX.S p)).at K H (p.map fun c => V.str (one c)) := (S_list p).symm
theorem one_at {p : List Nat} {i : Nat} {x : V} (h : (p.map fun c => V.str (one c))[i]? = some x) : ∃ c, p[i]? = some c ∧ x = V.str (one c) := by
  rw [List.getElem?_map] at h
  cases hz : p[i]? with
  | none => rw [hz] at h; cases h
  | some u => rw [hz] at h; exact ⟨u, rfl, (Option.some.inj h).symm⟩
theorem eqV_one (a b : Nat) : eqV (.str (one a)) (.str (one b)) = decide (a = b) := by
  show (one a == one b) = _
  by_cases z : a = b
  · subst z
    simp
  · rw [decide_eq_false z]
    refine beq_eq_false_iff_ne.mpr fun k => z ?_
    have := SX.S_inj k
    simpa using this
theorem zip_take_succ {α β : Type} {p : List α} {q : List β} {i : Nat} {a : α} {b : β} (h1 : p[i]? = some a) (h2 : q[i]? = some b) : (p.zip q).take (i + 1) = (p.zip q).take i ++ [(a, b)] := by
  rw [List.take_add_one]
  have : (p.zip q)[i]? = some (a, b) := by
    rw [List.getElem?_zip_eq_some]
    exact ⟨h1, h2⟩
  rw [this]
  rfl
theorem all_stop {α : Type} {l : List α} {f : α → Bool} {i : Nat} {a : α} (h : l.take (i + 1) = l.take i ++ [a]) (e : f a = false) : l.all f = false := by
  rw [← List.take_append_drop (i + 1) l, List.all_append, h, List.all_append]
  simp [e]
def sp_holds_all (T : Tx K mg) : Sp := fun vs H Q _ => ∃ (p q' : List Nat), vs = [.str (SX.S p), .str (SX.S q')] ∧ p.length = q'.length ∧ Tabs H T.tabs ∧ ∀ H', Gr H H' → Q (.bl (hall p q')) H'
theorem ok_holds_all (T : Tx K mg) (B : Tb base T) : FnOk P w K mg base CX0 2 T.f_holds_all T.fd_holds_all ["product", "other"] (sp_holds_all T) := by
  refine okC T.F_holds_all sc_holds_all (fun vs H Q E h => ?_) (fun A outer s H vs Q E hr h => ?_)
  · obtain ⟨p, q', rfl, _⟩ := h
    rfl
  · obtain ⟨p, q', rfl, hl, tabs, q⟩ := h
    refine ⟨_, (pss_one (ps_ret (pe_allX (own := [("sign", 2), ("held", 3)]) (k := 0) (hr.mono (by decide)) rfl sc_holds_all.nd (by rfl) T.m_all (by decide +kernel) B.TB_holds_all T.cd_holds_all rfl rfl (by decide +kernel) (blkOk_by (own := [("sign", 2), ("held", 3)]) (N := ["product", "other", "sign", "held"]) (sc := defScope s_holds_all) (by decide +kernel)) (ZpG.pi_zip2 (by rfl) T.m_zip (pa_cons (pv 0) (pa_cons (pv 1) pa_nil))) (fun _ _ _ _ _ _ _ hr gd => (show PG _ _ (gTup K 2 _) from pg_tup rfl (pgs_cons (pg_name (i := 2) sc_holds_all.nd rfl (by first | exact .inl rfl | exact .inr rfl)) (pgs_cons (pg_name (i := 3) sc_holds_all.nd rfl (by first | exact .inl rfl | exact .inr rfl)) pgs_nil)))) (fun _ _ _ _ _ _ _ hr gd => pts_nil) (fun _ _ _ _ _ _ _ hr gd => (pe_cmpR (show OpR _ _ (rIn K false) from op_in_seq) (pv 2) (pe_tup (pa_cons pe_str (pa_cons (pv 3) pa_nil))) rfl)) (fun _ => rfl)))), ?_⟩
    have tab : GxR.TabG H T.P_holds_all := tabs _ (by simp [Tx.tabs])
    refine ⟨.str (SX.S p), rfl, .str (SX.S q'), rfl, .tx (SX.S p), .tx (SX.S q'), _, _, rfl, at_tx p, at_tx q', tab, fun H2 tb2 => ?_⟩
    have g2 := Gr.tab tab tb2
    refine ZpG.gx_zip2 (K := K) (n := p.length) (xs1 := p.map fun c => V.str (one c)) (xs2 := q'.map fun c => V.str (one c)) (by rw [List.length_map]) (by rw [List.length_map, hl]) (fun j _ H' => Gr H H' ∧ ((p.zip q').take j).all (fun z => decide (z.1 = 45) || decide (z.1 = z.2)) = true) ⟨g2, rfl⟩ (fun j _ H' _ _ => ⟨at_tx p, at_tx q'⟩) ?_ ?_
    · rintro j x y t _ H' hx hy nt ⟨g, ih⟩
      obtain ⟨a, ha, rfl⟩ := one_at hx
      obtain ⟨b, hb, rfl⟩ := one_at hy
      have g' := g.trans (Gr.none (o := .tup [V.str (one a), V.str (one b)]) nt)
      have ez := zip_take_succ ha hb
      refine ⟨t, _, rfl, SqT.of upd_same, rfl, _, _, rfl, _, _, rfl, rfl, rfl, ?_⟩
      refine ⟨.str (one a), rfl, .str (one b), rfl, sl2, fun u nu => ?_⟩
      have g'' := g'.trans (Gr.none (o := .tup [V.str (Str.ofString "-"), V.str (one b)]) nu)
      refine ⟨u, _, rfl, .inr (SqT.of upd_same), rfl, rfl, ?_⟩
      have ev : (if false = true then !inV (.str (one a)) [V.str (Str.ofString "-"), V.str (one b)] else inV (.str (one a)) [V.str (Str.ofString "-"), V.str (one b)]) = (decide (a = 45) || decide (a = b)) := by
        show (eqV (.str (Str.ofString "-")) (.str (one a)) || (eqV (.str (one b)) (.str (one a)) || false)) = _
        rw [dash_S, eqV_one, eqV_one, Bool.or_false]
        congr 1
        · exact decide_eq_decide.mpr ⟨Eq.symm, Eq.symm⟩
        · exact decide_eq_decide.mpr ⟨Eq.symm, Eq.symm⟩
      refine ⟨_, rfl, ?_⟩
      rw [ev]
      refine ite2 (fun e => ⟨g'', ?_⟩) (fun e => ?_)
      · rw [ez, List.all_append, ih]
        simpa using e
      · have : hall p q' = false := all_stop (f := fun z : Nat × Nat => decide (z.1 = 45) || decide (z.1 = z.2)) ez (Bool.eq_false_iff.mpr e)
        have z := q _ g''
        rw [this] at z
        exact z
    · rintro _ H' ⟨g, ih⟩
      have : (p.zip q').length ≤ p.length := by rw [List.length_zip]; omega
      rw [List.take_of_length_le this] at ih
      have z := q H' g
      unfold hall at z
      rw [ih] at z
      exact z
def sp_meet (T : Tx K mg) : Sp := fun vs H Q _ => ∃ (p q' : List Nat), vs = [.str (SX.S p), .str (SX.S q')] ∧ p.length = q'.length ∧ Tabs H T.tabs ∧ ∀ H', Gr H H' → Q (.bl (meetM p q')) H'
theorem ok_meet (T : Tx K mg) (B : Tb base T) : FnOk P w K mg base CX0 2 T.f_meet T.fd_meet ["product", "other"] (sp_meet T) := by
  refine okC T.F_meet sc_meet (fun vs H Q E h => ?_) (fun A outer s H vs Q E hr h => ?_)
  · obtain ⟨p, q', rfl, _⟩ := h
    rfl
  · obtain ⟨p, q', rfl, hl, tabs, q⟩ := h
    refine ⟨_, (pss_one (ps_ret (pe_allX (own := [("one", 2), ("two", 3)]) (k := 0) (hr.mono (by decide)) rfl sc_meet.nd (by rfl) T.m_all (by decide +kernel) B.TB_meet T.cd_meet rfl rfl (by decide +kernel) (blkOk_by (own := [("one", 2), ("two", 3)]) (N := ["product", "other", "one", "two"]) (sc := defScope s_meet) (by decide +kernel)) (ZpG.pi_zip2 (by rfl) T.m_zip (pa_cons (pv 0) (pa_cons (pv 1) pa_nil))) (fun _ _ _ _ _ _ _ hr gd => (show PG _ _ (gTup K 2 _) from pg_tup rfl (pgs_cons (pg_name (i := 2) sc_meet.nd rfl (by first | exact .inl rfl | exact .inr rfl)) (pgs_cons (pg_name (i := 3) sc_meet.nd rfl (by first | exact .inl rfl | exact .inr rfl)) pgs_nil)))) (fun _ _ _ _ _ _ _ hr gd => pts_nil) (fun _ _ _ _ _ _ _ hr gd => (pe_or (pe_cmpR (show OpR _ _ (rIn K false) from op_in_seq) pe_str (pe_tup (pa_cons (pv 2) (pa_cons (pv 3) pa_nil))) rfl) (pe_one (pe_cmpR op_eq (pv 2) (pv 3) (nomark _))))) (fun _ => rfl)))), ?_⟩
    have tab : GxR.TabG H T.P_meet := tabs _ (by simp [Tx.tabs])
    refine ⟨.str (SX.S p), rfl, .str (SX.S q'), rfl, .tx (SX.S p), .tx (SX.S q'), _, _, rfl, at_tx p, at_tx q', tab, fun H2 tb2 => ?_⟩
    have g2 := Gr.tab tab tb2
    refine ZpG.gx_zip2 (K := K) (n := p.length) (xs1 := p.map fun c => V.str (one c)) (xs2 := q'.map fun c => V.str (one c)) (by rw [List.length_map]) (by rw [List.length_map, hl]) (fun j _ H' => Gr H H' ∧ ((p.zip q').take j).all (fun z => decide (z.1 = 45) || decide (z.2 = 45) || decide (z.1 = z.2)) = true) ⟨g2, rfl⟩ (fun j _ H' _ _ => ⟨at_tx p, at_tx q'⟩) ?_ ?_
    · rintro j x y t _ H' hx hy nt ⟨g, ih⟩
      obtain ⟨a, ha, rfl⟩ := one_at hx
      obtain ⟨b, hb, rfl⟩ := one_at hy
      have g' := g.trans (Gr.none (o := .tup [V.str (one a), V.str (one b)]) nt)
      have ez := zip_take_succ ha hb
      refine ⟨t, _, rfl, SqT.of upd_same, rfl, _, _, rfl, _, _, rfl, rfl, rfl, ?_⟩
      refine ⟨.str (one a), rfl, .str (one b), rfl, sl2, fun u nu => ?_⟩
      have g'' := g'.trans (Gr.none (o := .tup [V.str (one a), V.str (one b)]) nu)
      have fin : ∀ c : Bool, c = (decide (a = 45) || decide (b = 45) || decide (a = b)) → ∃ b_1, V.bl c = V.bl b_1 ∧ if b_1 = true then Gr H (upd (upd H' t (.tup [V.str (one a), V.str (one b)])) u (.tup [V.str (one a), V.str (one b)])) ∧ ((p.zip q').take (j + 1)).all (fun z => decide (z.1 = 45) || decide (z.2 = 45) || decide (z.1 = z.2)) = true else Q (.bl false) (upd (upd H' t (.tup [V.str (one a), V.str (one b)])) u (.tup [V.str (one a), V.str (one b)])) := fun c hc => by
        refine ⟨c, rfl, ?_⟩
        refine ite2 (fun e => ⟨g'', ?_⟩) (fun e => ?_)
        · rw [ez, List.all_append, ih]
          rw [hc] at e
          simpa using e
        · rw [hc] at e
          have : meetM p q' = false := all_stop (f := fun z : Nat × Nat => decide (z.1 = 45) || decide (z.2 = 45) || decide (z.1 = z.2)) ez (Bool.eq_false_iff.mpr e)
          have z := q _ g''
          rw [this] at z
          exact z
      have ev : (if false = true then !inV (.str (Str.ofString "-")) [V.str (one a), V.str (one b)] else inV (.str (Str.ofString "-")) [V.str (one a), V.str (one b)]) = (decide (a = 45) || decide (b = 45)) := by
        show (eqV (.str (one a)) (.str (Str.ofString "-")) || (eqV (.str (one b)) (.str (Str.ofString "-")) || false)) = _
        rw [dash_S, eqV_one, eqV_one, Bool.or_false]
      refine ⟨u, _, rfl, .inr (SqT.of upd_same), rfl, rfl, _, rfl, ?_⟩
      rw [ev]
      refine ite2 (fun e => ?_) (fun e => ?_)
      · refine fin _ ?_
        rw [e]
        rfl
      · refine ⟨.str (one a), rfl, .str (one b), rfl, rfl, fin _ ?_⟩
        rw [Bool.eq_false_iff.mpr e, Bool.false_or, str_dec]
        exact one_inj
    · rintro _ H' ⟨g, ih⟩
      have : (p.zip q').length ≤ p.length := by rw [List.length_zip]; omega
      rw [List.take_of_length_le this] at ih
      have z := q H' g
      unfold meetM at z
      rw [ih] at z
      exact z

end
end Gk

set_option Elab.async false
set_option linter.all false
set_option maxRecDepth 100000
set_option maxHeartbeats 1000000
namespace Gk
open PySem PySem.Spec PyProof.Rows L2
/-! ### enumerate(tuple) -/
theorem draws_tuple {P : Program} {w : World} {A : Around} (hA : A.handled = none) (it a : Addr) (items : Array Value) (hne : a ≠ it) : Draws P w A it [it, a] items.size (fun i v => items[i]? = some v) (fun i h => h.IsTupleIter it a i ∧ h.IsTuple a items) where
  live := fun _ _ st => let ⟨o, ho, _⟩ := st.1; ⟨o, ho⟩
  frame := fun _ _ _ st hk => ⟨st.1.at fun o e => hk it (by simp) o e, by
    obtain ⟨o, ho, r⟩ := st.2
    exact ⟨o, hk a (by simp) o ho, r⟩⟩
  item := fun i s Q E hi st hQ => by
    refine RZ.nextOf_tuple_item st.1 st.2 (x := items[i]) (by simp [hi]) fun h' hit' hs' => ?_
    refine hQ _ h' s.toks (by simp [hi]) ⟨hit', ?_⟩ hs'
    obtain ⟨o, ho, r⟩ := st.2
    exact ⟨o, hs'.extBut a o hne ho, r⟩
  done := fun s Q E st hE => RZ.nextOf_tuple_end hA st.1 st.2 (by simp) hE
open PySem.AutoSeq1 in
set_option maxHeartbeats 1000000 in
theorem meets_enumerate_newT (l : Addr) (items : Array Value) (o : Obj) (hc : o.cls = .type "tuple") (n : Nat) (hd : o.data = .seq items n) :
    Meets (Builtin.«enumerate.__new__» ⟨[.type "enumerate", .ref l], []⟩) (fun _ R s => s.heap.get? l = some o ∧
      R (.ok (.ret (.ref (s.heap.push { cls := .type "tuple_iterator", data := .fields #[.ref l, .int 0 0] }).objs.size)))
        { s with heap := (s.heap.push { cls := .type "tuple_iterator", data := .fields #[.ref l, .int 0 0] }).push { cls := .type "enumerate", data := .fields #[.none, .bool false, .ref s.heap.objs.size, rawInt 0, .none, .none] } }) :=
  .of_wp fun prog w A R s h => by
    obtain ⟨hp, g, d, tk, os⟩ := s; obtain ⟨hl, h⟩ := h
    have hsub := sub_enumerate
    have hL : Heap.IsTuple (Shared.heap ⟨hp, g, d, tk, os⟩) l items := ⟨_, hl, hc, n, hd⟩
    wp_walk using wpAny_loadPart' hl
    refine wpAny_stack_any fun st => wpAny_pure ?_
    split
    · rename_i c _ _ _ _ _
      cases (c == Value.type "enumerate")
      · wp_walk using wpAny_loadPart' hl, wpAny_pyIter_tuple hL
        exact ⟨_, rfl, h⟩
      · wp_walk using wpAny_loadPart' hl, wpAny_pyIter_tuple hL
        exact ⟨_, rfl, h⟩
    · wp_walk using wpAny_loadPart' hl, wpAny_pyIter_tuple hL
      exact ⟨_, rfl, h⟩
theorem call_enumerate_tuple {prog : Program} {w : World} {A : Around} {E : Value → Shared → Prop} {s : Shared} {l : Addr} {items : Array Value} {Q : Value → Shared → Prop} (hL : s.heap.IsTuple l items)
    (h : ∀ h', IsEnum h' (s.heap.objs.size + 1) s.heap.objs.size 0 .none → h'.IsTupleIter s.heap.objs.size l 0 → h'.objs.size = s.heap.objs.size + 2 →
      (∀ b o, s.heap.get? b = some o → h'.get? b = some o) → Q (.ref (s.heap.objs.size + 1)) { s with heap := h' }) :
    wpAny (model prog w) A (call (.type "enumerate") [.ref l]) Q E s := by
  obtain ⟨o, hl, hc, n, hd⟩ := hL
  refine callType_new F.called_enumerate (by decide) (F.typeCall_enumerate_1 _) (F.newCall_enumerate_1 _) (fun obj => F.args_object_init_2 obj _) F.entry_enumerate_new
    (meets_enumerate_newT l items o hc n hd) ⟨hl, ?_⟩
  have hz : (s.heap.push { cls := .type "tuple_iterator", data := .fields #[.ref l, .int 0 0] }).objs.size = s.heap.objs.size + 1 := Heap.size_push ..
  show _ ∧ _
  rw [hz]
  have he : IsEnum ((s.heap.push { cls := .type "tuple_iterator", data := .fields #[.ref l, .int 0 0] }).push
      { cls := .type "enumerate", data := .fields #[.none, .bool false, .ref s.heap.objs.size, rawInt 0, .none, .none] }) (s.heap.objs.size + 1) s.heap.objs.size 0 .none := by
    have := Heap.get?_push_size (s.heap.push { cls := .type "tuple_iterator", data := .fields #[.ref l, .int 0 0] })
      (o := { cls := .type "enumerate", data := .fields #[.none, .bool false, .ref s.heap.objs.size, rawInt 0, .none, .none] }) rfl
    rw [hz] at this; exact this
  refine ⟨⟨_, he, rfl⟩, h _ he ⟨_, Heap.get?_push_of_some _ (Heap.get?_push_size _ rfl), rfl, rfl⟩ (by rw [Heap.size_push, hz]) fun b o x => Heap.get?_push_of_some _ (Heap.get?_push_of_some _ x)⟩
/-- the tuple at a, each item in a new pair -/
def IteT (K : PySem.W.Frag) (a : Addr) : It :=
  ⟨fun i H => ∃ (xs : List V) (x : V), SqT K H a xs ∧ xs[i]? = some x, fun i H v H' => ∃ T x, v = .ref T ∧ H T = none ∧ H' = upd H T (.tup [.int (i : Nat), x]) ∧ ∀ xs, SqT K H a xs → xs[i]? = some x, fun i H => ∃ xs : List V, SqT K H a xs ∧ xs.length = i⟩
theorem turn_enumT {P : Program} {w : World} {K : PySem.W.Frag} {elts : List Expr} {kk : Nat} {tpos : Pos} (a e it : Addr) :
    Turn P w K (.Tuple elts kk tpos) (IteT K a) [e, it] e (fun i h => (∃ old, IsEnum h e it ((i : Nat) : Int) old) ∧ h.IsTupleIter it a i ∧ e ≠ it) where
  mem := by simp
  obj := fun i h st b hb => by
    obtain ⟨⟨old, he⟩, ⟨o, ho, hc, hd⟩, _⟩ := st
    have e' : b = e ∨ b = it := by simpa using hb
    rcases e' with z | z
    · rw [z]; exact ⟨_, he, fun v q => nomatch q⟩
    · rw [z]; exact ⟨o, ho, fun v q => by rw [hd] at q; cases q⟩
  keep := fun i h h' st k => let ⟨⟨old, he⟩, hi, hne⟩ := st; ⟨⟨old, k e (by simp) _ he⟩, hi.at fun o q => k it (by simp) o q, hne⟩
  item := by
    intro X hP hw hK hc i pins s σ H E I hf st hg
    subst hP hw hK
    obtain ⟨⟨old, he⟩, hit, hne⟩ := st
    obtain ⟨xs, x, hq, hx⟩ := hg
    obtain ⟨its, rv, p, hz⟩ := I.tuple hq
    obtain ⟨u, hu, ru⟩ := rv.get hx
    have hel : e < s.heap.objs.size := Heap.lt_size he
    have hil : it < s.heap.objs.size := by obtain ⟨_, q, _⟩ := hit; exact Heap.lt_size q
    have hpt : s.heap.IsTuple a its.toArray := p
    have hai : a ≠ it := fun z => by
      obtain ⟨o1, h1, c1, _⟩ := hpt
      obtain ⟨o2, h2, c2, _⟩ := hit
      rw [z, h2] at h1
      cases h1
      rw [c2] at c1
      exact absurd (Value.type.inj c1) (by decide)
    have hae : e ≠ a := fun z => by
      obtain ⟨o1, h1, c1, _⟩ := hpt
      rw [← z, he] at h1
      cases h1
      exact absurd (Value.type.inj c1) (by decide)
    have hil2 : i < its.toArray.size := by
      rw [List.size_toArray]
      exact (List.getElem?_eq_some_iff.mp hu).1
    refine wpAny_pyNext_enum_itemD (draws_tuple (A := X.A.in1) (I.ok.hd hc) it a its.toArray hai) he ⟨hit, hpt⟩ hil2 hne (by simp only [List.mem_cons, List.not_mem_nil, or_false, not_or]; exact ⟨hne, hae⟩) fun y h' tk hy ho hst hT hsz hk => ?_
    have hyu : y = u := by
      have : its[i]? = some y := by simpa using hy
      rw [hu] at this
      exact (Option.some.inj this).symm
    subst hyu
    have hit' := hst.1
    refine ⟨_, rfl, wpAny_letOwnedTupleGo_enum (s := { s with heap := h', toks := tk + 1 }) ho fun h'' he' sb => ?_⟩
    have hT2 : h''.get? s.heap.objs.size = some { cls := .type "tuple", data := .seq #[.int i tk, y] } := (sb.2 _ (Nat.ne_of_gt hel)).trans hT
    have new : ObjOk X.prog X.w (upd H s.heap.objs.size (.tup [.int (i : Nat), x])) h'' s.heap.objs.size (.tup [.int (i : Nat), x]) :=
      ⟨by show 2 ≤ sizeLine; decide, [.int i tk, y], .cons ⟨_, rfl⟩ (.cons ru .nil), ⟨_, hT2, rfl, _, rfl⟩⟩
    have I1 : Inv X pins σ (upd H s.heap.objs.size (.tup [.int (i : Nat), x])) { s with heap := h'', toks := tk + 1 } :=
      I.turnedNew (ch := [e, it]) (fun b ob hb q => (sb.2 b (fun z => hb (by simp [z]))).trans (hk b ob (fun z => hb (by simp [z])) (fun z => hb (by simp [z])) q)) hf (Nat.le_refl _) new
    refine ⟨.ref s.heap.objs.size, _, I1, rfl, ⟨_, x, rfl, I.hok.fresh (Nat.le_refl _), rfl, fun ys hy => by rw [I.tuple_inj hy hq]; exact hx⟩, ⟨⟨y, ?_⟩, hit'.at fun o q => (sb.2 it (Ne.symm hne)).trans q, hne⟩, fun b hb => ?_⟩
    · have e1 : ((i + 1 : Nat) : Int) = (i : Int) + 1 := by omega
      rw [e1]; exact he'
    · have hb' : b < s.heap.objs.size := by
        have e' : b = e ∨ b = it := by simpa using hb
        rcases e' with z | z
        · rw [z]; exact hel
        · rw [z]; exact hil
      rw [upd_ne (Nat.ne_of_lt hb')]
      exact (hf b hb).1
  done := by
    intro X hP hw hK hc i pins s σ H E I hf st hg
    subst hP hw hK
    obtain ⟨⟨old, he⟩, hit, hne⟩ := st
    obtain ⟨xs, hq, hx⟩ := hg
    obtain ⟨its, rv, p, hz⟩ := I.tuple hq
    obtain ⟨f0, f1, f2, f3, f4, f5⟩ := hf it (by simp)
    have hl := rv.length
    have hpt : s.heap.IsTuple a its.toArray := p
    have hai : a ≠ it := fun z => by
      obtain ⟨o1, h1, c1, _⟩ := hpt
      obtain ⟨o2, h2, c2, _⟩ := hit
      rw [z, h2] at h1
      cases h1
      rw [c2] at c1
      exact absurd (Value.type.inj c1) (by decide)
    have hn : i = its.toArray.size := by rw [List.size_toArray]; omega
    exact wpAny_pyNext_enum_endD (draws_tuple (A := X.A.in1) (I.ok.hd hc) it a its.toArray hai) he (by rw [← hn]; exact ⟨hit, hpt⟩) fun h' eb => ⟨rfl, I.turned (t' := s.toks) (fun b o hb q => eb b o hb q) f0 f1 f3 f4 f5⟩
  self := fun A i s Q E st h => let ⟨⟨_, he⟩, _⟩ := st; wpAny_pyIter_enum he h
def iEnumT (K : PySem.W.Frag) (ta : TA) : TI := fun σ H R => ta σ H fun vs H1 => ∃ a xs, vs = [.ref a] ∧ SqT K H1 a xs ∧ R (IteT K a) H1
theorem pi_enumT {X : Cx} {e : Expr} {ta : TA} {p pos tpos : Pos} {elts : List Expr} {kk : Nat} (hg : Gl X "enumerate") (hm : X.mg "enumerate" = none) (ha : PA X [e] ta) (hs : starEach [e] X.env = [(false, eval e X.env)] := by rfl) :
    PI X (.Tuple elts kk tpos) (.Call (.Name "enumerate" p) [e] [] pos) (iEnumT X.K ta) := by
  refine ⟨fun pins s σ H R I h => ?_⟩
  refine Call_ (ld_blt I hg hm boot_enumerate (PyProof.Rows.callWith_type1 (thn (ha.run pos pins s σ H _ I h) fun us s1 ⟨vs, H1, I1, r1, q1⟩ => ?_) hs rfl))
  obtain ⟨a, xs, ex, hq, q⟩ := q1
  subst ex
  cases r1 with
  | cons r rr =>
    cases rr
    cases r
    obtain ⟨its, rv, p', hz⟩ := I1.tuple hq
    refine call_enumerate_tuple p' fun h' he hit hsz hk => wpAny_pyIter_enum he ?_
    have I2 : Inv X pins σ H1 { s1 with heap := h' } := I1.kept (t' := s1.toks) hk
    refine ⟨s1.heap.objs.size + 1, [s1.heap.objs.size + 1, s1.heap.objs.size], _, _, H1, rfl, I2, turn_enumT a (s1.heap.objs.size + 1) s1.heap.objs.size, ⟨⟨.none, he⟩, hit, Nat.succ_ne_self _⟩, fun b hb => ?_, q⟩
    have e' : b = s1.heap.objs.size + 1 ∨ b = s1.heap.objs.size := by simpa using hb
    have hle : s1.heap.objs.size ≤ b := by
      rcases e' with z | z
      · rw [z]; exact Nat.le_add_right _ _
      · rw [z]; exact Nat.le_refl _
    exact I1.fpOk hle (I1.hok.fresh hle)
theorem gx_enum {α : Type} {K : PySem.W.Frag} {a : Addr} {xs : List V} {g : TG} {tt : TT} {te : TE} {vs : List Nat} {σ0 : L2.St} {End : α → Hp → Prop} {Yd : α → V → Hp → (α → Hp → Prop) → Prop} {a0 : α} {H0 : Hp} (Pv : Nat → α → Hp → Prop) (h0 : Pv 0 a0 H0)
    (hl : ∀ i c H, i ≤ xs.length → Pv i c H → SqT K H a xs)
    (hs : ∀ i x T c H, xs[i]? = some x → H T = none → Pv i c H → g (.ref T) σ0 (upd H T (.tup [.int (i : Nat), x])) fun σ2 H2 => wipe σ2 vs = σ0 ∧ tt σ2 H2 fun b H3 => if b = true then te σ2 H3 fun y H4 => Yd c y H4 (Pv (i + 1)) else Pv (i + 1) c H3) (hd : ∀ c H, Pv xs.length c H → End c H) :
    ∃ W : Nat → Nat → α → Hp → Prop, (∃ m, W 0 m a0 H0) ∧ tGx (IteT K a) g tt te σ0 vs End Yd W := by
  refine ⟨fun i m c H => m = xs.length - i ∧ i ≤ xs.length ∧ Pv i c H, ⟨xs.length, rfl, Nat.zero_le _, h0⟩, ?_⟩
  rintro i m c H ⟨rfl, hi, p⟩
  by_cases hlt : i < xs.length
  · have hx : xs[i]? = some xs[i] := List.getElem?_eq_getElem hlt
    refine .inr ⟨⟨xs, xs[i], hl i c H hi p, hx⟩, Pv (i + 1), fun c' H' p' => ⟨xs.length - (i + 1), by omega, rfl, hlt, p'⟩, fun x H' y => ?_⟩
    obtain ⟨T, x1, rfl, nT, rfl, e1⟩ := y
    exact hs i x1 T c H (e1 xs (hl i c _ hi p)) nT p
  · have e : i = xs.length := by omega
    subst e
    exact .inl ⟨⟨xs, hl _ c H hi p, rfl⟩, hd c H p⟩
theorem gx_str {α : Type} {z : Str} {g : TG} {tt : TT} {te : TE} {vs : List Nat} {σ0 : L2.St} {End : α → Hp → Prop} {Yd : α → V → Hp → (α → Hp → Prop) → Prop} {a0 : α} {H0 : Hp} (Pv : Nat → α → Hp → Prop) (h0 : Pv 0 a0 H0)
    (hs : ∀ i x c H, z.cps[i]? = some x → Pv i c H → g (.str ⟨#[x]⟩) σ0 H fun σ2 H2 => wipe σ2 vs = σ0 ∧ tt σ2 H2 fun b H3 => if b = true then te σ2 H3 fun y H4 => Yd c y H4 (Pv (i + 1)) else Pv (i + 1) c H3) (hd : ∀ c H, Pv z.cps.size c H → End c H) :
    ∃ W : Nat → Nat → α → Hp → Prop, (∃ m, W 0 m a0 H0) ∧ tGx (Its z) g tt te σ0 vs End Yd W := by
  refine ⟨fun i m c H => m = z.cps.size - i ∧ i ≤ z.cps.size ∧ Pv i c H, ⟨z.cps.size, rfl, Nat.zero_le _, h0⟩, ?_⟩
  rintro i m c H ⟨rfl, hi, p⟩
  by_cases hlt : i < z.cps.size
  · refine .inr ⟨hlt, Pv (i + 1), fun c' H' p' => ⟨z.cps.size - (i + 1), by omega, rfl, hlt, p'⟩, fun x H' y => ?_⟩
    obtain ⟨rfl, ch, hc, rfl⟩ := y
    exact hs i ch c _ hc p
  · have e : i = z.cps.size := by omega
    subst e
    exact .inl ⟨Nat.le_refl _, hd c H p⟩

section
variable {P : Program} {w : World} {K : PySem.W.Frag} {mg : Str → Option Value} {base : Heap}
theorem for_enumT {K : PySem.W.Frag} {a : Addr} {xs : List V} {g : TG} {tb : TS} {D : Ends} {σ : L2.St} {H : Hp} (Pv : Nat → L2.St → Hp → Prop) (h0 : Pv 0 σ H) (hl : ∀ i σ H, i ≤ xs.length → Pv i σ H → SqT K H a xs)
    (hs : ∀ (i : Nat) (x : V) (T : Addr) (σ : L2.St) (H : Hp), xs[i]? = some x → H T = none → Pv i σ H → g (.ref T) σ (upd H T (.tup [.int (i : Nat), x])) fun σ2 H2 => tb { D with nx := Pv (i + 1), ct := Pv (i + 1), bk := D.nx } σ2 H2) (hd : ∀ σ H, Pv xs.length σ H → D.nx σ H) :
    ∃ W : Nat → Nat → L2.St → Hp → Prop, (∃ m, W 0 m σ H) ∧ ∀ i m σ H, W i m σ H →
      ((IteT K a).stop i H ∧ D.nx σ H) ∨ ((IteT K a).go i H ∧ ∃ N : L2.St → Hp → Prop, (∀ σ' H', N σ' H' → ∃ m', m' < m ∧ W (i + 1) m' σ' H') ∧ ∀ x H', (IteT K a).yld i H x H' → g x σ H' fun σ2 H2 => tb { D with nx := N, ct := N, bk := D.nx } σ2 H2) := by
  refine ⟨fun i m σ H => m = xs.length - i ∧ i ≤ xs.length ∧ Pv i σ H, ⟨xs.length, rfl, Nat.zero_le _, h0⟩, ?_⟩
  rintro i m σ H ⟨rfl, hi, p⟩
  have q := hl i σ H hi p
  by_cases hlt : i < xs.length
  · have hx : xs[i]? = some xs[i] := List.getElem?_eq_getElem hlt
    refine .inr ⟨⟨xs, xs[i], q, hx⟩, Pv (i + 1), fun σ' H' p' => ⟨xs.length - (i + 1), by omega, rfl, hlt, p'⟩, fun x H' y => ?_⟩
    obtain ⟨T, x1, rfl, nT, rfl, e1⟩ := y
    exact hs i x1 T σ H (e1 xs q) nT p
  · have e : i = xs.length := by omega
    subst e
    exact .inl ⟨⟨xs, q, rfl⟩, hd σ H p⟩
/-! ### covers: the program's own -/
def ChAt (H : Hp) (c : Addr) (a b : List Int) : Prop := ∃ ra rb, H c = some (.tup [.ref ra, .ref rb]) ∧ H ra = some (.tup (a.map V.int)) ∧ H rb = some (.tup (b.map V.int))
theorem ChAt.gr {H H' : Hp} {c : Addr} {a b : List Int} (h : ChAt H c a b) (g : Gr H H') : ChAt H' c a b := by
  obtain ⟨ra, rb, h1, h2, h3⟩ := h
  exact ⟨ra, rb, g.tup h1, g.tup h2, g.tup h3⟩
structure ChOk (m : Nat) (a b : List Int) : Prop where
  la : a.length = m
  lb : b.length = m
  oa : Row01' a
  ob : Row01' b
  m6 : m ≤ 6
def pVs (ps : List (List Nat)) : List V := ps.map fun p => V.str (SX.S p)
def CovAt (H : Hp) (c : Addr) (m : Nat) (ps : List (List Nat)) : Prop := ∃ t, H c = some (.tup [.int m, .ref t]) ∧ H t = some (.tup (pVs ps))
theorem CovAt.gr {H H' : Hp} {c : Addr} {m : Nat} {ps : List (List Nat)} (h : CovAt H c m ps) (g : Gr H H') : CovAt H' c m ps := by
  obtain ⟨t, h1, h2⟩ := h
  exact ⟨t, g.tup h1, g.tup h2⟩
def CovOk (m : Nat) (ps : List (List Nat)) : Prop := ∀ p ∈ ps, ProdOk m p
theorem pV_at {ps : List (List Nat)} {i : Nat} {x : V} (h : (pVs ps)[i]? = some x) : ∃ p, ps[i]? = some p ∧ x = V.str (SX.S p) := by
  unfold pVs at h
  rw [List.getElem?_map] at h
  cases hz : ps[i]? with
  | none => rw [hz] at h; cases h
  | some u => rw [hz] at h; exact ⟨u, rfl, (Option.some.inj h).symm⟩

def sp_holds_row (T : Tx K mg) : Sp := fun vs H Q _ => ∃ (p : List Nat) (a : Addr) (r : List Int), vs = [.str (SX.S p), .ref a] ∧ H a = some (.tup (r.map V.int)) ∧ Row01' r ∧ p.length = r.length ∧ r.length ≤ 6 ∧ Tabs H T.tabs ∧ ∀ H', Gr H H' → Q (.bl (hrow p r)) H'
theorem ok_holds_row (T : Tx K mg) (B : Tb base T) : FnOk P w K mg base CX0 3 T.f_holds_row T.fd_holds_row ["product", "row"] (sp_holds_row T) := by
  refine T.F_holds_row.ok sc_holds_row (fun vs H Q E h => ?_) (fun cdv A outer s H vs Q E hr h => ?_)
  · obtain ⟨p, a, r, rfl, _⟩ := h
    rfl
  · obtain ⟨p, a, r, rfl, ha, ok, hl, l6, tabs, q⟩ := h
    refine ⟨_, (pss_one (ps_ret (pe_call (ok_holds_all T B) (hr.mono (by decide)) (by rfl) T.g_holds_all T.F_holds_all.kp T.b_holds_all .nil pass0 (pa_cons (pv 0) (pa_cons (pe_call (ok_show_row T B) (hr.mono (by decide)) (by rfl) T.g_show_row T.F_show_row.kp T.b_show_row .nil pass0 (pa_cons (pv 1) pa_nil)) pa_nil))))), ?_⟩
    refine ⟨.str (SX.S p), rfl, .ref a, rfl, a, r, rfl, ha, ok, l6, tabs, fun H1 g1 => ?_⟩
    exact ⟨p, rowS r, rfl, by unfold rowS; rw [List.length_map]; exact hl, g1.tabs tabs, fun H2 g2 => q H2 (g1.trans g2)⟩
def sp_cube_of (T : Tx K mg) : Sp := fun vs H Q _ => ∃ (c : Addr) (m : Nat) (a b : List Int), vs = [.ref c] ∧ ChAt H c a b ∧ ChOk m a b ∧ Tabs H T.tabs ∧ ∀ H', Gr H H' → Q (.str (SX.S (cubeM a b))) H'
theorem int_at {r : List Int} {i : Nat} {x : V} (h : (r.map V.int)[i]? = some x) : ∃ b, r[i]? = some b ∧ x = V.int b := by
  rw [List.getElem?_map] at h
  cases hz : r[i]? with
  | none => rw [hz] at h; cases h
  | some u => rw [hz] at h; exact ⟨u, rfl, (Option.some.inj h).symm⟩
theorem int_dec (x y : Int) : decide (V.int x = V.int y) = decide (x = y) := by
  by_cases z : x = y
  · rw [decide_eq_true z, decide_eq_true (by rw [z])]
  · rw [decide_eq_false z, decide_eq_false (fun k => z (V.int.inj k))]
theorem ok_cube_of (T : Tx K mg) (B : Tb base T) : FnOk P w K mg base CX0 2 T.f_cube_of T.fd_cube_of ["change"] (sp_cube_of T) := by
  refine okC T.F_cube_of sc_cube_of (fun vs H Q E h => ?_) (fun A outer s H vs Q E hr h => ?_)
  · obtain ⟨c, m, a, b, rfl, _⟩ := h
    rfl
  · obtain ⟨c, m, a, b, rfl, ⟨ra, rb, hc, ha, hb⟩, ok, tabs, q⟩ := h
    refine ⟨_, (pss_cons (ps_asg (pv 0) (pg_tup rfl (pgs_cons (pg_name (i := 1) sc_cube_of.nd rfl (by first | exact .inl rfl | exact .inr rfl)) (pgs_cons (pg_name (i := 2) sc_cube_of.nd rfl (by first | exact .inl rfl | exact .inr rfl)) pgs_nil)))) (pss_one (ps_ret (GxJ.pe_joinX (own := [("before", 3), ("after", 4)]) (k := 0) (hr.mono (by decide)) rfl sc_cube_of.nd pe_str B.TB_cube_of T.cd_cube_of rfl rfl (by decide +kernel) (blkOk_by (own := [("before", 3), ("after", 4)]) (N := ["change", "a", "b", "before", "after"]) (sc := defScope s_cube_of) (by decide +kernel)) (ZpG.pi_zip2 (by rfl) T.m_zip (pa_cons (pv 1) (pa_cons (pv 2) pa_nil))) (fun _ _ _ _ _ _ _ hr gd => (show PG _ _ (gTup K 2 _) from pg_tup rfl (pgs_cons (pg_name (i := 3) sc_cube_of.nd rfl (by first | exact .inl rfl | exact .inr rfl)) (pgs_cons (pg_name (i := 4) sc_cube_of.nd rfl (by first | exact .inl rfl | exact .inr rfl)) pgs_nil)))) (fun _ _ _ _ _ _ _ hr gd => pts_nil) (fun _ _ _ _ _ _ _ hr gd => (pe_ifExp (pt_cmpR op_eq (pv 3) (pv 4) (nomark _)) (pe_callTy call_str_int (by rfl) T.m_str (by decide +kernel) (pa_cons (pv 3) pa_nil)) pe_str)) (fun _ => rfl))))), ?_⟩
    have tab : GxR.TabG H T.P_cube_of := tabs _ (by simp [Tx.tabs])
    refine ⟨.ref c, rfl, c, _, rfl, SqT.of hc, rfl, _, _, rfl, _, _, rfl, rfl, ?_⟩
    refine ⟨_, rfl, .ref ra, rfl, .ref rb, rfl, .tu ra, .tu rb, _, _, rfl, SqT.of ha, SqT.of hb, tab, fun H2 tb2 => ?_⟩
    have g2 := Gr.tab tab tb2
    have la := ok.la
    have lb := ok.lb
    have m6 := ok.m6
    refine ZpG.gx_zip2 (K := K) (n := m) (xs1 := a.map V.int) (xs2 := b.map V.int) (by rw [List.length_map, la]) (by rw [List.length_map, lb]) (fun j ys H' => Gr H H' ∧ ys = ((((a.zip b).take j).map fun z => if z.1 = z.2 then wS z.1 else 45).map one).map V.str) ⟨g2, rfl⟩ (fun j _ H' _ z => ⟨SqT.of (z.1.tup ha), SqT.of (z.1.tup hb)⟩) ?_ ?_
    · rintro j x y t ys H' hx hy nt ⟨g, rfl⟩
      obtain ⟨u, hu, rfl⟩ := int_at hx
      obtain ⟨v, hv, rfl⟩ := int_at hy
      have u01 := ok.oa u (List.mem_of_getElem? hu)
      have g' := g.trans (Gr.none (o := .tup [V.int u, V.int v]) nt)
      have ez := zip_take_succ hu hv
      have ll : ((((((a.zip b).take j).map fun z => if z.1 = z.2 then wS z.1 else 45).map one).map V.str)).length < sizeLine := by
        rw [List.length_map, List.length_map, List.length_map, List.length_take, List.length_zip]
        exact Nat.lt_of_lt_of_le (show _ < 64 by omega) (by decide)
      refine ⟨t, _, rfl, SqT.of upd_same, rfl, _, _, rfl, _, _, rfl, rfl, rfl, ?_⟩
      refine ⟨.int u, rfl, .int v, rfl, rfl, _, rfl, ?_⟩
      rw [int_dec]
      refine ite2 (fun e => ?_) (fun e => ?_)
      · have e : u = v := of_decide_eq_true e
        refine ⟨.int u, rfl, u, rfl, by rcases u01 with rfl | rfl <;> decide, ll, g', ?_⟩
        rw [str01 u01, ez]
        simp [e]
      · have e : ¬ u = v := fun z => e (decide_eq_true z)
        refine ⟨ll, g', ?_⟩
        rw [dash_S, ez]
        simp [e]
    · rintro ys H' ⟨g, rfl⟩
      have : (a.zip b).length ≤ m := by rw [List.length_zip]; omega
      rw [List.take_of_length_le this]
      refine ⟨(cubeM a b).map one, rfl, joinOk_ones _ ?_, ?_⟩
      · unfold cubeM
        rw [List.length_map]
        omega
      · rw [join_one]
        exact q _ g
theorem cube_len {m : Nat} {a b : List Int} (ok : ChOk m a b) : (cubeM a b).length = m := by
  unfold cubeM
  rw [List.length_map, List.length_zip, ok.la, ok.lb, Nat.min_self]
def toldM (ps : List (List Nat)) (r : List Int) : Bool := ps.any fun p => hrow p r
def bI (b : Bool) : Int := if b = true then 1 else 0
theorem any_stop {α : Type} {l : List α} {f : α → Bool} {i : Nat} {a : α} (h : l[i]? = some a) (e : f a = true) : l.any f = true := List.any_eq_true.mpr ⟨a, List.mem_of_getElem? h, e⟩
def sp_told_of (T : Tx K mg) : Sp := fun vs H Q _ => ∃ (c a : Addr) (m : Nat) (ps : List (List Nat)) (r : List Int), vs = [.ref c, .ref a] ∧ CovAt H c m ps ∧ CovOk m ps ∧ H a = some (.tup (r.map V.int)) ∧ Row01' r ∧ r.length = m ∧ m ≤ 6 ∧ Tabs H T.tabs ∧ ∀ H', Gr H H' → Q (.int (bI (toldM ps r))) H'
theorem ok_told_of (T : Tx K mg) (B : Tb base T) : FnOk P w K mg base CX0 5 T.f_told_of T.fd_told_of ["cover", "row"] (sp_told_of T) := by
  refine okC T.F_told_of sc_told_of (fun vs H Q E h => ?_) (fun A outer s H vs Q E hr h => ?_)
  · obtain ⟨c, a, m, ps, r, rfl, _⟩ := h
    rfl
  · obtain ⟨c, a, m, ps, r, rfl, ⟨t, hc, ht⟩, okp, ha, ok, lr, m6, tabs, q⟩ := h
    refine ⟨_, (pss_one (ps_ret (pe_ifExp (pt_val (pe_anyX (own := [("product", 2)]) (k := 3) (hr.mono (by decide)) rfl sc_told_of.nd (by rfl) T.m_any (by decide +kernel) B.TB_told_of T.cd_told_of rfl rfl (by decide +kernel) (blkOk_by (own := [("product", 2)]) (N := ["cover", "row", "product"]) (sc := defScope s_told_of) (by decide +kernel)) (pi_tup (pe_ix ix_tup (pv 0) pe_int (fun _ _ => rfl))) (fun _ _ _ _ _ _ _ hr gd => (pg_name (i := 2) sc_told_of.nd rfl (by first | exact .inl rfl | exact .inr rfl))) (fun _ _ _ _ _ _ _ hr gd => pts_nil) (fun _ _ _ _ _ _ _ hr gd => (pe_call (ok_holds_row T B) (hr.mono (by decide)) (by rfl) T.g_holds_row T.F_holds_row.kp T.b_holds_row .nil pass0 (pa_cons (pv 2) (pa_cons (pv 1) pa_nil)))) (fun _ => rfl))) pe_int pe_int))), ?_⟩
    have tab : GxR.TabG H T.P_told_of := tabs _ (by simp [Tx.tabs])
    refine ⟨.ref c, rfl, c, _, _, .ref t, rfl, rfl, SqT.of hc, rfl, t, rfl, ⟨_, SqT.of ht⟩, tab, fun H2 tb2 => ?_⟩
    have g2 := Gr.tab tab tb2
    refine gx_tup (K := K) (a := t) (xs := pVs ps) (fun j _ H' => Gr H H' ∧ (ps.take j).any (fun p => hrow p r) = false) ⟨g2, rfl⟩ (fun j _ H' _ e => SqT.of (e.1.tup ht)) ?_ ?_
    · rintro j x _ H' hx ⟨g, ih⟩
      obtain ⟨p, hp, rfl⟩ := pV_at hx
      have okp' := okp p (List.mem_of_getElem? hp)
      refine ⟨rfl, .str (SX.S p), rfl, .ref a, rfl, p, a, r, rfl, g.tup ha, ok, by rw [okp'.1, lr], by omega, g.tabs tabs, fun H3 g3 => ?_⟩
      refine ⟨_, rfl, ite2 (fun e => ?_) (fun e => ⟨g.trans g3, ?_⟩)⟩
      · refine ⟨true, rfl, iteT ?_⟩
        have z := q H3 (g.trans g3)
        have e' : toldM ps r = true := any_stop hp e
        rw [e'] at z
        exact z
      · rw [List.take_add_one, hp, List.any_append, ih]
        simpa using e
    · rintro _ H' ⟨g, ih⟩
      refine ⟨false, rfl, iteF ?_⟩
      have : (pVs ps).length = ps.length := by unfold pVs; rw [List.length_map]
      rw [this, List.take_length] at ih
      have z := q H' g
      unfold toldM at z
      rw [ih] at z
      exact z
def firstH (ps : List (List Nat)) (a b : List Int) : Option Nat := ps.findIdx? fun p => hall p (cubeM a b)
def oV : Option Nat → V
  | none => .non
  | some k => .int k
def sp_first_holding (T : Tx K mg) : Sp := fun vs H Q _ => ∃ (t c : Addr) (m : Nat) (ps : List (List Nat)) (a b : List Int), vs = [.ref t, .ref c] ∧ H t = some (.tup (pVs ps)) ∧ CovOk m ps ∧ ChAt H c a b ∧ ChOk m a b ∧ Tabs H T.tabs ∧ ∀ H', Gr H H' → Q (oV (firstH ps a b)) H'
theorem find_hit {α : Type} {l : List α} {f : α → Bool} {i : Nat} {a : α} (h : l[i]? = some a) (n : ∀ j, j < i → ∀ x, l[j]? = some x → f x = false) (e : f a = true) : l.findIdx? f = some i := by
  rw [List.findIdx?_eq_some_iff_getElem]
  obtain ⟨hl, rfl⟩ := List.getElem?_eq_some_iff.mp h
  exact ⟨hl, e, fun j hj => by simpa using n j hj _ (List.getElem?_eq_getElem _)⟩
theorem find_miss {α : Type} {l : List α} {f : α → Bool} (n : ∀ j, j < l.length → ∀ x, l[j]? = some x → f x = false) : l.findIdx? f = none := by
  rw [List.findIdx?_eq_none_iff]
  intro x hx
  obtain ⟨i, hi, rfl⟩ := List.getElem_of_mem hx
  exact n i hi _ (List.getElem?_eq_getElem _)
theorem ok_first_holding (T : Tx K mg) (B : Tb base T) : FnOk P w K mg base CX0 3 T.f_first_holding T.fd_first_holding ["products", "change"] (sp_first_holding T) := by
  refine T.F_first_holding.ok sc_first_holding (fun vs H Q E h => ?_) (fun cdv A outer s H vs Q E hr h => ?_)
  · obtain ⟨t, c, m, ps, a, b, rfl, _⟩ := h
    rfl
  · obtain ⟨t, c, m, ps, a, b, rfl, ht, okp, hch, ok, tabs, q⟩ := h
    refine ⟨_, (pss_cons (ps_set (i := 2) sc_first_holding.nd rfl (by first | exact .inl rfl | exact .inr rfl) (pe_call (ok_cube_of T B) (hr.mono (by decide)) (by rfl) T.g_cube_of T.F_cube_of.kp T.b_cube_of .nil pass0 (pa_cons (pv 1) pa_nil))) (pss_cons (ps_for PassesOwn.never rfl (pi_enumT (by rfl) T.m_enumerate (pa_cons (pv 0) pa_nil)) (pg_tup rfl (pgs_cons (pg_name (i := 3) sc_first_holding.nd rfl (by first | exact .inl rfl | exact .inr rfl)) (pgs_cons (pg_name (i := 4) sc_first_holding.nd rfl (by first | exact .inl rfl | exact .inr rfl)) pgs_nil))) (pss_one (ps_if (pt_val (pe_call (ok_holds_all T B) (hr.mono (by decide)) (by rfl) T.g_holds_all T.F_holds_all.kp T.b_holds_all .nil pass0 (pa_cons (pv 4) (pa_cons (pv 2) pa_nil)))) (pss_one (ps_ret (pv 3))) pss_nil))) (pss_one (ps_ret pe_non)))), ?_⟩
    refine ⟨.ref c, rfl, c, m, a, b, rfl, hch, ok, tabs, fun H1 g1 => ?_⟩
    refine ⟨.ref t, rfl, t, _, rfl, SqT.of (g1.tup ht), for_enumT (K := K) (a := t) (xs := pVs ps) (fun i σ H' => ∃ y3 y4, σ = [some (.ref t), some (.ref c), some (.str (SX.S (cubeM a b))), y3, y4] ∧ Gr H H' ∧ ∀ j, j < i → ∀ x, ps[j]? = some x → hall x (cubeM a b) = false)
      ⟨_, _, rfl, g1, fun j hj => absurd hj (Nat.not_lt_zero _)⟩ (fun i σ H' _ ⟨_, _, _, g, _⟩ => SqT.of (g.tup ht)) ?_ ?_⟩
    · rintro i x t' σ H2 hx nt ⟨y3, y4, rfl, g2, no⟩
      obtain ⟨p, hp, rfl⟩ := pV_at hx
      have okp' := okp p (List.mem_of_getElem? hp)
      have g3 := g2.trans (Gr.none (o := .tup [V.int (i : Nat), V.str (SX.S p)]) nt)
      refine ⟨t', _, rfl, SqT.of upd_same, rfl, _, _, rfl, _, _, rfl, rfl, ?_⟩
      refine ⟨.str (SX.S p), rfl, .str (SX.S (cubeM a b)), rfl, p, cubeM a b, rfl, by rw [okp'.1, cube_len ok], g3.tabs tabs, fun H4 g4 => ⟨_, rfl, ite2 (fun e => ?_) (fun e => ?_)⟩⟩
      · refine ⟨.int (i : Nat), rfl, ?_⟩
        have z := q H4 (g3.trans g4)
        have e' : firstH ps a b = some i := find_hit hp no e
        rw [e'] at z
        exact z
      · refine ⟨_, _, rfl, g3.trans g4, fun j hj x' hx' => ?_⟩
        by_cases h : j < i
        · exact no j h x' hx'
        · have : j = i := by omega
          subst this
          rw [hp] at hx'
          cases Option.some.inj hx'
          exact Bool.eq_false_iff.mpr e
    · rintro σ H2 ⟨y3, y4, rfl, g2, no⟩
      have z := q H2 g2
      have : (pVs ps).length = ps.length := by unfold pVs; rw [List.length_map]
      have e' : firstH ps a b = none := find_miss fun j hj => no j (by rw [this]; exact hj)
      rw [e'] at z
      exact z
def flashM (a b : List Int) (p : List Nat) : Bool := meetM p (cubeM a b) && (!hrow p a && !hrow p b)
def sp_flashes (T : Tx K mg) : Sp := fun vs H Q _ => ∃ (p : List Nat) (c : Addr) (m : Nat) (a b : List Int), vs = [.str (SX.S p), .ref c] ∧ ProdOk m p ∧ ChAt H c a b ∧ ChOk m a b ∧ Tabs H T.tabs ∧ ∀ H', Gr H H' → Q (.bl (flashM a b p)) H'
theorem ok_flashes (T : Tx K mg) (B : Tb base T) : FnOk P w K mg base CX0 4 T.f_flashes T.fd_flashes ["product", "change"] (sp_flashes T) := by
  refine T.F_flashes.ok sc_flashes (fun vs H Q E h => ?_) (fun cdv A outer s H vs Q E hr h => ?_)
  · obtain ⟨p, c, m, a, b, rfl, _⟩ := h
    rfl
  · obtain ⟨p, c, m, a, b, rfl, okp, hch, ok, tabs, q⟩ := h
    refine ⟨_, (pss_cons (ps_asg (pv 1) (pg_tup rfl (pgs_cons (pg_name (i := 2) sc_flashes.nd rfl (by first | exact .inl rfl | exact .inr rfl)) (pgs_cons (pg_name (i := 3) sc_flashes.nd rfl (by first | exact .inl rfl | exact .inr rfl)) pgs_nil)))) (pss_one (ps_ret (pe_and (pe_call (ok_meet T B) (hr.mono (by decide)) (by rfl) T.g_meet T.F_meet.kp T.b_meet .nil pass0 (pa_cons (pv 0) (pa_cons (pe_call (ok_cube_of T B) (hr.mono (by decide)) (by rfl) T.g_cube_of T.F_cube_of.kp T.b_cube_of .nil pass0 (pa_cons (pv 1) pa_nil)) pa_nil))) (pe_and (pe_not (pe_call (ok_holds_row T B) (hr.mono (by decide)) (by rfl) T.g_holds_row T.F_holds_row.kp T.b_holds_row .nil pass0 (pa_cons (pv 0) (pa_cons (pv 2) pa_nil)))) (pe_one (pe_not (pe_call (ok_holds_row T B) (hr.mono (by decide)) (by rfl) T.g_holds_row T.F_holds_row.kp T.b_holds_row .nil pass0 (pa_cons (pv 0) (pa_cons (pv 3) pa_nil)))))))))), ?_⟩
    obtain ⟨ra, rb, hc, ha, hb⟩ := id hch
    have la := ok.la
    have lb := ok.lb
    have m6 := ok.m6
    refine ⟨.ref c, rfl, c, _, rfl, SqT.of hc, rfl, _, _, rfl, _, _, rfl, rfl, ?_⟩
    refine ⟨.str (SX.S p), rfl, .ref c, rfl, c, m, a, b, rfl, hch, ok, tabs, fun H1 g1 => ?_⟩
    refine ⟨p, cubeM a b, rfl, by rw [okp.1, cube_len ok], g1.tabs tabs, fun H2 g2 => ⟨_, rfl, ite2 (fun e => ?_) (fun e => ?_)⟩⟩
    · have g12 := g1.trans g2
      refine ⟨.str (SX.S p), rfl, .ref ra, rfl, p, ra, a, rfl, g12.tup ha, ok.oa, by rw [okp.1, la], by omega, g12.tabs tabs, fun H3 g3 => ⟨_, rfl, _, rfl, ite2 (fun e2 => ?_) (fun e2 => ?_)⟩⟩
      · have g13 := g12.trans g3
        refine ⟨.str (SX.S p), rfl, .ref rb, rfl, p, rb, b, rfl, g13.tup hb, ok.ob, by rw [okp.1, lb], by omega, g13.tabs tabs, fun H4 g4 => ⟨_, rfl, ?_⟩⟩
        have z := q H4 (g13.trans g4)
        unfold flashM at z
        rw [e, e2, Bool.true_and, Bool.true_and] at z
        exact z
      · have z := q H3 (g12.trans g3)
        unfold flashM at z
        rw [e, Bool.eq_false_iff.mpr e2, Bool.true_and, Bool.false_and] at z
        exact z
    · have z := q H2 (g1.trans g2)
      unfold flashM at z
      rw [Bool.eq_false_iff.mpr e, Bool.false_and] at z
      exact z

end
end Gk

set_option Elab.async false
set_option linter.all false
set_option maxRecDepth 100000
set_option maxHeartbeats 1000000
namespace Gk
open PySem PySem.Spec PyProof.Rows L2

section
variable {P : Program} {w : World} {K : PySem.W.Frag} {mg : Str → Option Value} {base : Heap}
def gapS : Str := Str.ofString "gap"
def heldS : Str := Str.ofString "held"
def meetsS : Str := Str.ofString "meets"
def clearS : Str := Str.ofString "clear"
def judD (ps : List (List Nat)) (a b : List Int) : PyData :=
  if toldM ps a = true ∧ toldM ps b = true then (match firstH ps a b with
    | none => .tuple [.str gapS]
    | some k => .tuple [.str heldS, .int k])
  else (match ps.findIdx? (flashM a b) with
    | some k => .tuple [.str meetsS, .int k]
    | none => .tuple [.str clearS])
theorem bI_ne {H : Hp} (b : Bool) : TruV K (.int (bI b)) H b := by cases b <;> rfl
def sp_judged (T : Tx K mg) : Sp := fun vs H Q _ => ∃ (cv c : Addr) (m : Nat) (ps : List (List Nat)) (a b : List Int), vs = [.ref cv, .ref c] ∧ CovAt H cv m ps ∧ CovOk m ps ∧ ChAt H c a b ∧ ChOk m a b ∧ Tabs H T.tabs ∧ ∀ r H', Gr H H' → Tk H' (.ref r) (judD ps a b) → Q (.ref r) H'
theorem ok_judged (T : Tx K mg) (B : Tb base T) : FnOk P w K mg base CX0 6 T.f_judged T.fd_judged ["cover", "change"] (sp_judged T) := by
  refine T.F_judged.ok sc_judged (fun vs H Q E h => ?_) (fun cdv A outer s H vs Q E hr h => ?_)
  · obtain ⟨cv, c, m, ps, a, b, rfl, _⟩ := h
    rfl
  · obtain ⟨cv, c, m, ps, a, b, rfl, hcv, okp, hch, ok, tabs, q⟩ := h
    refine ⟨_, (pss_cons (ps_asg (pv 1) (pg_tup rfl (pgs_cons (pg_name (i := 2) sc_judged.nd rfl (by first | exact .inl rfl | exact .inr rfl)) (pgs_cons (pg_name (i := 3) sc_judged.nd rfl (by first | exact .inl rfl | exact .inr rfl)) pgs_nil)))) (pss_cons (ps_set (i := 4) sc_judged.nd rfl (by first | exact .inl rfl | exact .inr rfl) (pe_ix ix_tup (pv 0) pe_int (fun _ _ => rfl))) (pss_cons (ps_if (pt_cut (pw_and (pt_truth (pe_call (ok_told_of T B) (hr.mono (by decide)) (by rfl) T.g_told_of T.F_told_of.kp T.b_told_of .nil pass0 (pa_cons (pv 0) (pa_cons (pv 2) pa_nil))) (by intro _; rfl)) (pw_and1 (pt_truth (pe_call (ok_told_of T B) (hr.mono (by decide)) (by rfl) T.g_told_of T.F_told_of.kp T.b_told_of .nil pass0 (pa_cons (pv 0) (pa_cons (pv 3) pa_nil))) (by intro _; rfl)))).pt) (pss_cons (ps_set (i := 5) sc_judged.nd rfl (by first | exact .inl rfl | exact .inr rfl) (pe_call (ok_first_holding T B) (hr.mono (by decide)) (by rfl) T.g_first_holding T.F_first_holding.kp T.b_first_holding .nil pass0 (pa_cons (pv 4) (pa_cons (pv 1) pa_nil)))) (pss_one (ps_ret (pe_ifExp (pt_cmpR op_isN (pv 5) pe_non (nomark _)) (pe_tup (pa_cons pe_str pa_nil)) (pe_tup (pa_cons pe_str (pa_cons (pv 5) pa_nil))))))) pss_nil) (pss_cons (ps_for PassesOwn.never rfl (pi_enumT (by rfl) T.m_enumerate (pa_cons (pv 4) pa_nil)) (pg_tup rfl (pgs_cons (pg_name (i := 5) sc_judged.nd rfl (by first | exact .inl rfl | exact .inr rfl)) (pgs_cons (pg_name (i := 6) sc_judged.nd rfl (by first | exact .inl rfl | exact .inr rfl)) pgs_nil))) (pss_one (ps_if (pt_val (pe_call (ok_flashes T B) (hr.mono (by decide)) (by rfl) T.g_flashes T.F_flashes.kp T.b_flashes .nil pass0 (pa_cons (pv 6) (pa_cons (pv 1) pa_nil)))) (pss_one (ps_ret (pe_tup (pa_cons pe_str (pa_cons (pv 5) pa_nil))))) pss_nil))) (pss_one (ps_ret (pe_tup (pa_cons pe_str pa_nil)))))))), ?_⟩
    obtain ⟨ra, rb, hc, ha, hb⟩ := id hch
    obtain ⟨t, h1, ht⟩ := id hcv
    have la := ok.la
    have lb := ok.lb
    have m6 := ok.m6
    refine ⟨.ref c, rfl, c, _, rfl, SqT.of hc, rfl, _, _, rfl, _, _, rfl, rfl, ?_⟩
    refine ⟨.ref cv, rfl, cv, _, _, .ref t, rfl, rfl, SqT.of h1, rfl, ?_⟩
    -- both 1
    refine ⟨fun z H' => Gr H H' ∧ (z = true ↔ toldM ps a = true ∧ toldM ps b = true), ?_, ?_⟩
    · refine ⟨.ref cv, rfl, .ref ra, rfl, cv, ra, m, ps, a, rfl, hcv, okp, ha, ok.oa, la, m6, tabs, fun H1 g1 => ⟨_, bI_ne _, ite2 (fun e => ?_) (fun e => ⟨g1, Iff.intro (fun z => by cases z) (fun z => absurd z.1 e)⟩)⟩⟩
      refine ⟨.ref cv, rfl, .ref rb, rfl, cv, rb, m, ps, b, rfl, hcv.gr g1, okp, g1.tup hb, ok.ob, lb, m6, g1.tabs tabs, fun H2 g2 => ⟨_, bI_ne _, g1.trans g2, Iff.intro (fun z => ⟨e, z⟩) (fun z => z.2)⟩⟩
    · rintro z H2 ⟨g2, hz⟩
      refine ite2 (fun e => ?_) (fun e => ?_)
      · have e' := hz.mp e
        refine ⟨.ref t, rfl, .ref c, rfl, t, c, m, ps, a, b, rfl, g2.tup ht, okp, hch.gr g2, ok, g2.tabs tabs, fun H3 g3 => ?_⟩
        have g23 := g2.trans g3
        have ej : judD ps a b = (match firstH ps a b with | none => .tuple [.str gapS] | some k => .tuple [.str heldS, .int k]) := if_pos e'
        cases hf : firstH ps a b with
        | none =>
          rw [hf] at ej
          refine ⟨.non, rfl, rfl, _, rfl, iteT ⟨sl1, fun r nr => ?_⟩⟩
          refine q r _ (g23.trans (Gr.none nr)) ?_
          rw [ej]
          exact .tup upd_same (.cons (.str _) .nil)
        | some k =>
          rw [hf] at ej
          refine ⟨.int k, rfl, rfl, _, rfl, iteF ⟨.int k, rfl, sl2, fun r nr => ?_⟩⟩
          refine q r _ (g23.trans (Gr.none nr)) ?_
          rw [ej]
          exact .tup upd_same (.cons (.str _) (.cons (.int _) .nil))
      · have e' : ¬ (toldM ps a = true ∧ toldM ps b = true) := fun k => e (hz.mpr k)
        have ej : judD ps a b = (match ps.findIdx? (flashM a b) with | some k => .tuple [.str meetsS, .int k] | none => .tuple [.str clearS]) := if_neg e'
        refine ⟨.ref t, rfl, t, _, rfl, SqT.of (g2.tup ht), for_enumT (K := K) (a := t) (xs := pVs ps) (fun i σ H' => ∃ y5 y6, σ = [some (.ref cv), some (.ref c), some (.ref ra), some (.ref rb), some (.ref t), y5, y6] ∧ Gr H H' ∧ ∀ j, j < i → ∀ x, ps[j]? = some x → flashM a b x = false)
          ⟨_, _, rfl, g2, fun j hj => absurd hj (Nat.not_lt_zero _)⟩ (fun i σ H' _ ⟨_, _, _, g, _⟩ => SqT.of (g.tup ht)) ?_ ?_⟩
        · rintro i x t' σ H3 hx nt ⟨y5, y6, rfl, g3, no⟩
          obtain ⟨p, hp, rfl⟩ := pV_at hx
          have okp' := okp p (List.mem_of_getElem? hp)
          have g4 := g3.trans (Gr.none (o := .tup [V.int (i : Nat), V.str (SX.S p)]) nt)
          refine ⟨t', _, rfl, SqT.of upd_same, rfl, _, _, rfl, _, _, rfl, rfl, ?_⟩
          refine ⟨.str (SX.S p), rfl, .ref c, rfl, p, c, m, a, b, rfl, okp', hch.gr g4, ok, g4.tabs tabs, fun H5 g5 => ⟨_, rfl, ite2 (fun e => ?_) (fun e => ?_)⟩⟩
          · refine ⟨.int (i : Nat), rfl, sl2, fun r nr => ?_⟩
            refine q r _ ((g4.trans g5).trans (Gr.none nr)) ?_
            rw [ej, find_hit hp no e]
            exact .tup upd_same (.cons (.str _) (.cons (.int _) .nil))
          · refine ⟨_, _, rfl, g4.trans g5, fun j hj x' hx' => ?_⟩
            by_cases h : j < i
            · exact no j h x' hx'
            · have : j = i := by omega
              subst this
              rw [hp] at hx'
              cases Option.some.inj hx'
              exact Bool.eq_false_iff.mpr e
        · rintro σ H3 ⟨y5, y6, rfl, g3, no⟩
          have : (pVs ps).length = ps.length := by unfold pVs; rw [List.length_map]
          refine ⟨sl1, fun r nr => ?_⟩
          refine q r _ (g3.trans (Gr.none nr)) ?_
          rw [ej, find_miss fun j hj => no j (by rw [this]; exact hj)]
          exact .tup upd_same (.cons (.str _) .nil)
def judS (ps : List (List Nat)) (a b : List Int) : Str :=
  if toldM ps a = true ∧ toldM ps b = true then (match firstH ps a b with
    | none => gapS
    | some _ => heldS)
  else (match ps.findIdx? (flashM a b) with
    | some _ => meetsS
    | none => clearS)
theorem jud_head (ps : List (List Nat)) (a b : List Int) : ∃ r, judD ps a b = .tuple (.str (judS ps a b) :: r) := by
  unfold judD judS
  split
  · cases firstH ps a b with
    | none => exact ⟨_, rfl⟩
    | some k => exact ⟨_, rfl⟩
  · cases ps.findIdx? (flashM a b) with
    | none => exact ⟨_, rfl⟩
    | some k => exact ⟨_, rfl⟩
def froM (ps : List (List Nat)) (a b : List Int) : Bool := decide (judS ps a b = gapS) || decide (judS ps a b = meetsS)
def cwD (ps : List (List Nat)) (a b : List Int) : PyData := .tuple [.int (bI (toldM ps a)), .int (bI (toldM ps b)), .bool (froM ps a b)]
theorem eqV_str (x y : Str) : eqV (.str x) (.str y) = decide (y = x) := by
  show (x == y) = _
  by_cases z : y = x
  · subst z
    simp
  · rw [decide_eq_false z]
    exact beq_eq_false_iff_ne.mpr fun k => z k.symm
def sp_cover_word (T : Tx K mg) : Sp := fun vs H Q _ => ∃ (cv c : Addr) (m : Nat) (ps : List (List Nat)) (a b : List Int), vs = [.ref cv, .ref c] ∧ CovAt H cv m ps ∧ CovOk m ps ∧ ChAt H c a b ∧ ChOk m a b ∧ Tabs H T.tabs ∧ ∀ r H', Gr H H' → Tk H' (.ref r) (cwD ps a b) → Q (.ref r) H'
theorem ok_cover_word (T : Tx K mg) (B : Tb base T) : FnOk P w K mg base CX0 7 T.f_cover_word T.fd_cover_word ["cover", "change"] (sp_cover_word T) := by
  refine T.F_cover_word.ok sc_cover_word (fun vs H Q E h => ?_) (fun cdv A outer s H vs Q E hr h => ?_)
  · obtain ⟨cv, c, m, ps, a, b, rfl, _⟩ := h
    rfl
  · obtain ⟨cv, c, m, ps, a, b, rfl, hcv, okp, hch, ok, tabs, q⟩ := h
    refine ⟨_, (pss_cons (ps_asg (pv 1) (pg_tup rfl (pgs_cons (pg_name (i := 2) sc_cover_word.nd rfl (by first | exact .inl rfl | exact .inr rfl)) (pgs_cons (pg_name (i := 3) sc_cover_word.nd rfl (by first | exact .inl rfl | exact .inr rfl)) pgs_nil)))) (pss_one (ps_ret (pe_tup (pa_cons (pe_call (ok_told_of T B) (hr.mono (by decide)) (by rfl) T.g_told_of T.F_told_of.kp T.b_told_of .nil pass0 (pa_cons (pv 0) (pa_cons (pv 2) pa_nil))) (pa_cons (pe_call (ok_told_of T B) (hr.mono (by decide)) (by rfl) T.g_told_of T.F_told_of.kp T.b_told_of .nil pass0 (pa_cons (pv 0) (pa_cons (pv 3) pa_nil))) (pa_cons (pe_cmpR op_in_seq (pe_ix ix_tup (pe_call (ok_judged T B) (hr.mono (by decide)) (by rfl) T.g_judged T.F_judged.kp T.b_judged .nil pass0 (pa_cons (pv 0) (pa_cons (pv 1) pa_nil))) pe_int (fun _ _ => rfl)) (pe_tup (pa_cons pe_str (pa_cons pe_str pa_nil))) rfl) pa_nil))))))), ?_⟩
    obtain ⟨ra, rb, hc, ha, hb⟩ := id hch
    have la := ok.la
    have lb := ok.lb
    have m6 := ok.m6
    refine ⟨.ref c, rfl, c, _, rfl, SqT.of hc, rfl, _, _, rfl, _, _, rfl, rfl, ?_⟩
    refine ⟨.ref cv, rfl, .ref ra, rfl, cv, ra, m, ps, a, rfl, hcv, okp, ha, ok.oa, la, m6, tabs, fun H1 g1 => ?_⟩
    refine ⟨.ref cv, rfl, .ref rb, rfl, cv, rb, m, ps, b, rfl, hcv.gr g1, okp, g1.tup hb, ok.ob, lb, m6, g1.tabs tabs, fun H2 g2 => ?_⟩
    have g12 := g1.trans g2
    refine ⟨.ref cv, rfl, .ref c, rfl, cv, c, m, ps, a, b, rfl, hcv.gr g12, okp, hch.gr g12, ok, g12.tabs tabs, fun r H3 g3 tr => ?_⟩
    obtain ⟨rest, er⟩ := jud_head ps a b
    rw [er] at tr
    obtain ⟨r', xs, e, hr', tx⟩ := tr.tup_inv
    cases e
    cases tx with
    | cons t1 t2 =>
      cases t1
      refine ⟨r, _, _, .str (judS ps a b), rfl, rfl, SqT.of hr', atI_nat (j := 0) rfl, sl2, fun u nu => ?_⟩
      refine ⟨u, _, rfl, .inr (SqT.of upd_same), rfl, rfl, sl3, fun r2 n2 => ?_⟩
      refine q r2 _ (((g12.trans g3).trans (Gr.none nu)).trans (Gr.none n2)) ?_
      have ev : (if false = true then !inV (.str (judS ps a b)) [V.str (Str.ofString "gap"), V.str (Str.ofString "meets")] else inV (.str (judS ps a b)) [V.str (Str.ofString "gap"), V.str (Str.ofString "meets")]) = froM ps a b := by
        show (eqV (.str (Str.ofString "gap")) (.str (judS ps a b)) || (eqV (.str (Str.ofString "meets")) (.str (judS ps a b)) || false)) = _
        rw [eqV_str, eqV_str, Bool.or_false]
        rfl
      rw [ev]
      exact .tup upd_same (.cons (.int _) (.cons (.int _) (.cons (.bl _) .nil)))

end
end Gk

set_option Elab.async false
set_option linter.all false
set_option maxRecDepth 100000
set_option maxHeartbeats 1000000
namespace Gk
open PySem PySem.Spec PyProof.Rows L2
section
variable {P : Program} {w : World} {K : PySem.W.Frag} {mg : Str → Option Value} {base : Heap}
/-! ### changes drawn -/
theorem ChAt.same {H H' : Hp} {c : Addr} {a b : List Int} (h : ChAt H c a b) (g : Same H H') : ChAt H' c a b := by
  obtain ⟨ra, rb, h1, h2, h3⟩ := h
  exact ⟨ra, rb, g _ _ h1, g _ _ h2, g _ _ h3⟩
theorem ChAt.ts {H H' : Hp} {c : Addr} {a b : List Int} (h : ChAt H c a b) (g : Ts H H') : ChAt H' c a b := by
  obtain ⟨ra, rb, h1, h2, h3⟩ := h
  exact ⟨ra, rb, g _ _ h1, g _ _ h2, g _ _ h3⟩
def sp_change (K : PySem.W.Frag) : Sp := fun vs H Q _ => ∃ (d l : Addr) (n : Int) (m : Nat), vs = [.ref d, .int m] ∧ DeckD H d l n ∧ n < 800000 ∧ 1 ≤ m ∧ m ≤ 6 ∧ ∀ (c : Addr) (a b : List Int) (H' : Hp), DeckD H' d l (n + 13) → Fr d l H H' → ChAt H' c a b → ChOk m a b → Q (.ref c) H'
theorem ok_change (T : Tx K mg) : FnOk P w K mg base CX0 3 T.f_change T.fd_change ["_law_deck_here", "_law_many_here"] (sp_change K) := by
  refine T.F_change.ok sc_change (fun vs H Q E h => ?_) (fun cdv A outer s H vs Q E hr h => ?_)
  · obtain ⟨d, l, n, m, rfl, _⟩ := h
    rfl
  · obtain ⟨d, l, n, m, rfl, D, hn, m1, m6, q⟩ := h
    refine ⟨_, (pss_cons (ps_set (i := 2) sc_change.nd rfl (by first | exact .inl rfl | exact .inr rfl) (pe_call (ok_draw T) (hr.mono (by decide)) (by rfl) T.g_draw T.F_draw.kp T.b_draw .nil pass0 (pa_cons (pv 0) (pa_cons pe_int pa_nil)))) (pss_cons (ps_set (i := 3) sc_change.nd rfl (by first | exact .inl rfl | exact .inr rfl) (pe_call (ok_row T) (hr.mono (by decide)) (by rfl) T.g_row T.F_row.kp T.b_row .nil pass0 (pa_cons (pv 0) (pa_cons (pv 1) pa_nil)))) (pss_cons (ps_if (pt_cmpR op_eq (pv 2) pe_int (nomark _)) (pss_one (ps_ret (pe_tup (pa_cons (pv 3) (pa_cons (pv 3) pa_nil))))) pss_nil) (pss_cons (ps_if (pt_cmpR op_eq (pv 2) pe_int (nomark _)) (pss_one (ps_ret (pe_tup (pa_cons (pv 3) (pa_cons (pe_callTy call_tuple_of (by rfl) T.m_tuple (by decide +kernel) (pa_cons (pe_lc (own := [("_law_worth_here", 5)]) (by rfl) sc_change.nd (pi_tup (pv 3)) (blkOk_by (own := [("_law_worth_here", 5)]) (N := ["_law_deck_here", "_law_many_here", "_law_way", "_law_row_here", "_law_place", "_law_worth_here"]) (sc := defScope s_change) (by decide +kernel)) (fun _ _ _ _ _ => (pg_name (i := 5) sc_change.nd rfl (by first | exact .inl rfl | exact .inr rfl))) (fun _ _ _ _ _ => pts_nil) (fun _ _ _ _ _ => (pe_op op_sub pe_int (pv 5)))) pa_nil)) pa_nil))))) pss_nil) (pss_cons (ps_if (pt_cmpR op_lt (pv 2) pe_int (nomark _)) (pss_cons (ps_set (i := 4) sc_change.nd rfl (by first | exact .inl rfl | exact .inr rfl) (pe_call (ok_draw T) (hr.mono (by decide)) (by rfl) T.g_draw T.F_draw.kp T.b_draw .nil pass0 (pa_cons (pv 0) (pa_cons (pv 1) pa_nil)))) (pss_one (ps_ret (pe_tup (pa_cons (pv 3) (pa_cons (pe_op op_catA (pe_op op_catA (pe_slice sl_tupA (pv 3) po_none (po_some (pv 4))) (pe_tup (pa_cons (pe_op op_sub pe_int (pe_ix ix_tup (pv 3) (pv 4) (fun _ _ => rfl))) pa_nil))) (pe_slice sl_tupA (pv 3) (po_some (pe_op op_add (pv 4) pe_int)) po_none)) pa_nil)))))) pss_nil) (pss_one (ps_ret (pe_tup (pa_cons (pv 3) (pa_cons (pe_call (ok_row T) (hr.mono (by decide)) (by rfl) T.g_row T.F_row.kp T.b_row .nil pass0 (pa_cons (pv 0) (pa_cons (pv 1) pa_nil))) pa_nil)))))))))), ?_⟩
    refine ⟨.ref d, rfl, d, l, 8, _, rfl, D, by omega, by decide, by decide, fun H1 x D1 fr1 x0 x1 => ?_⟩
    refine ⟨.ref d, rfl, .int m, rfl, d, l, _, m, rfl, D1, by omega, m6, fun p bs H2 D2 fr2 lb okb hp => ?_⟩
    have fr12 := fr1.trans fr2
    refine ⟨.int x, rfl, rfl, _, rfl, ite2 (fun _ => ?_) (fun _ => ?_)⟩
    · refine ⟨.ref p, rfl, .ref p, rfl, sl2, fun c nc => ?_⟩
      have s3 := same_upd (o := HO.tup [V.ref p, .ref p]) nc
      exact q c bs bs _ ((D2.same s3).mono (by omega)) (fr12.trans (Fr.of s3)) ⟨p, p, upd_same, s3 _ _ hp, s3 _ _ hp⟩ ⟨lb, lb, okb, okb, m6⟩
    refine ⟨.int x, rfl, rfl, _, rfl, ite2 (fun _ => ?_) (fun _ => ?_)⟩
    · refine ⟨.ref p, rfl, .ref p, rfl, p, rfl, ⟨_, SqT.of hp⟩, fun L nL => ?_⟩
      refine lc_tup (K := K) (a := p) (xs := bs.map V.int) (fun j H' => Same H2 (hd1 L H') ∧ H' L = some (.lst (((bs.take j).map fun b => 1 - b).map V.int))) ⟨hd1_of (same_upd nL) nL, upd_same⟩ (fun j H' _ z => SqT.of (hd1_le _ _ (z.1 _ _ hp))) ?_ ?_
      · rintro j v H3 hv ⟨s3, hL⟩
        obtain ⟨b, hb, rfl⟩ := int_at hv
        refine ⟨rfl, .int b, rfl, _, _, rfl, rfl, _, hL, ?_, s3.trans hd1_upd, ?_⟩
        · rw [List.length_map, List.length_map, List.length_take]
          exact Nat.lt_of_lt_of_le (show _ < 64 by omega) (by decide)
        · rw [upd_same, List.take_add_one, hb]
          simp
      · rintro H3 ⟨s3, hL⟩
        rw [List.length_map, List.take_length] at hL
        have s23 : Same H2 H3 := fun b o e => hd1_le _ _ (s3 _ _ e)
        refine ⟨L, _, rfl, .inl ⟨SqL.of hL, fun t nt => ⟨sl2, fun c nc => ?_⟩⟩⟩
        have s4 := same_upd (o := HO.tup ((bs.map fun b => 1 - b).map V.int)) nt
        have s5 := same_upd (o := HO.tup [V.ref p, .ref t]) nc
        have sa := (s23.trans s4).trans s5
        refine q c bs (bs.map fun b => 1 - b) _ ((D2.same sa).mono (by omega)) (fr12.trans (Fr.of sa)) ⟨p, t, upd_same, sa _ _ hp, s5 _ _ upd_same⟩ ⟨lb, by rw [List.length_map, lb], okb, fun y hy => ?_, m6⟩
        obtain ⟨b, hb, rfl⟩ := List.mem_map.mp hy
        have := okb b hb
        omega
    refine ⟨.int x, rfl, _, _, rfl, rfl, _, rfl, ite2 (fun _ => ?_) (fun _ => ?_)⟩
    · refine ⟨.ref d, rfl, .int m, rfl, d, l, m, _, rfl, D2, by omega, by omega, by omega, fun H3 y D3 fr3 y0 y1 => ?_⟩
      obtain ⟨k, rfl⟩ := Int.eq_ofNat_of_zero_le y0
      have hk : k < bs.length := by omega
      have hp3 := Ts.frD D2 fr3 _ _ hp
      have hat : atI (bs.map V.int) ((k : Nat) : Int) = some (.int bs[k]) := atI_nat (by rw [List.getElem?_map, List.getElem?_eq_getElem hk]; rfl)
      refine ⟨.ref p, rfl, .ref p, rfl, .int (k : Nat), rfl, (k : Int), rfl, slA hp3 fun q1 H4 s4 h4 => ?_⟩
      rw [cut_to] at h4
      refine ⟨.ref p, rfl, .int (k : Nat), rfl, p, _, _, _, rfl, rfl, SqT.of (s4 _ _ hp3), hat, _, _, rfl, rfl, sl1, fun t nt => ?_⟩
      have s5 := same_upd (o := HO.tup [V.int (1 - bs[k])]) nt
      refine catA (s5 _ _ h4) upd_same ?_ fun q2 H6 s6 h6 => ?_
      · rw [List.length_take, List.length_map]
        exact Nat.le_trans (show _ ≤ 64 by simp only [List.length_cons, List.length_nil]; omega) (by decide)
      have s46 := (s4.trans s5).trans s6
      refine ⟨.ref p, rfl, .int (k : Nat), rfl, _, _, rfl, rfl, ((k + 1 : Nat) : Int), rfl, ?_⟩
      refine slAn (s46 _ _ hp3) fun q3 H7 s7 h7 => ?_
      rw [cut_from] at h7
      refine catA (s7 _ _ h6) h7 ?_ fun oa H8 s8 h8 => ?_
      · rw [List.length_append, List.length_take, List.length_drop, List.length_map]
        exact Nat.le_trans (show _ ≤ 64 by simp only [List.length_cons, List.length_nil]; omega) (by decide)
      rw [set_put (by rw [List.length_map]; exact hk)] at h8
      refine ⟨sl2, fun c nc => ?_⟩
      have s9 := same_upd (o := HO.tup [V.ref p, .ref oa]) nc
      have sa := ((s46.trans s7).trans s8).trans s9
      have hset : (bs.map V.int).set k (V.int (1 - bs[k])) = (bs.set k (1 - bs[k])).map V.int := by rw [List.map_set]
      rw [hset] at h8
      refine q c bs (bs.set k (1 - bs[k])) _ ((D3.same sa).mono (by omega)) ((fr12.trans fr3).trans (Fr.of sa)) ⟨p, oa, upd_same, sa _ _ hp3, s9 _ _ h8⟩ ⟨lb, by rw [List.length_set, lb], okb, fun y hy => ?_, m6⟩
      rcases List.mem_or_eq_of_mem_set hy with z | z
      · exact okb y z
      · have := okb bs[k] (List.getElem_mem hk)
        omega
    · refine ⟨.ref p, rfl, .ref d, rfl, .int m, rfl, d, l, _, m, rfl, D2, by omega, m6, fun p2 bs2 H3 D3 fr3 lb2 okb2 hp2 => ⟨sl2, fun c nc => ?_⟩⟩
      have s4 := same_upd (o := HO.tup [V.ref p, .ref p2]) nc
      have hp3 := Ts.frD D2 fr3 _ _ hp
      exact q c bs bs2 _ ((D3.same s4).mono (by omega)) ((fr12.trans fr3).trans (Fr.of s4)) ⟨p, p2, upd_same, s4 _ _ hp3, s4 _ _ hp2⟩ ⟨lb, lb2, okb, okb2, m6⟩

/-! ### covers drawn -/
theorem CovAt.ts {H H' : Hp} {c : Addr} {m : Nat} {ps : List (List Nat)} (h : CovAt H c m ps) (g : Ts H H') : CovAt H' c m ps := by
  obtain ⟨t, h1, h2⟩ := h
  exact ⟨t, g _ _ h1, g _ _ h2⟩
theorem S_app (a b : List Nat) : SX.S a ++ SX.S b = SX.S (a ++ b) := by
  show (⟨a.toArray ++ b.toArray⟩ : Str) = ⟨(a ++ b).toArray⟩
  congr 1
  simp
theorem cut_S1 {cs : List Nat} {h : Nat} (hl : h ≤ cs.length) : cutS (SX.S cs) none (some (h : Int)) = SX.S (cs.take h) := by
  unfold cutS
  rw [SX.S_len, HT.sIx_none, HT.sIx_nat, Nat.min_eq_left hl]
  show (⟨(((SX.S cs).cps.toList.drop 0).take (h - 0)).toArray⟩ : Str) = _
  rw [List.drop_zero, Nat.sub_zero]
theorem cut_S2 {cs : List Nat} {h : Nat} (hl : h ≤ cs.length) : cutS (SX.S cs) (some (h : Int)) none = SX.S (cs.drop h) := by
  unfold cutS
  rw [SX.S_len, HT.sIx_none, HT.sIx_nat, Nat.min_eq_left hl]
  show (⟨((cs.drop h).take (cs.length - h)).toArray⟩ : Str) = _
  rw [List.take_of_length_le (by rw [List.length_drop]; exact Nat.le_refl _)]
theorem s3c_S : Str.ofString "01-" = SX.S [48, 49, 45] := by decide +kernel
theorem it3 : ∀ k : Nat, k < 3 → ∃ c, (SX.S [48, 49, 45]).cps[k]? = some c ∧ SgOk c := by
  intro k h
  rcases k with _ | _ | _ | k
  · exact ⟨48, rfl, .inr (.inl rfl)⟩
  · exact ⟨49, rfl, .inr (.inr rfl)⟩
  · exact ⟨45, rfl, .inl rfl⟩
  · omega
theorem dpStrs {H : Hp} : ∀ ps : List (List Nat), DpAll K H (pVs ps) (ps.map fun p => PyData.str (SX.S p))
  | [] => .nil
  | p :: r => .cons (.str _) (dpStrs r)
theorem strOk_S {p : List Nat} (h : ∀ c ∈ p, SgOk c) : PyData.canLay0 (.str (SX.S p)) = true := by
  simp only [PyData.canLay0, PyData.strOk]
  rw [Array.all_eq_true_iff_forall_mem]
  intro c hc
  have : c ∈ p := by
    simpa using hc
  refine decide_eq_true ?_
  rcases h c this with rfl | rfl | rfl <;> decide
theorem lay_strs {m : Nat} : ∀ ps : List (List Nat), CovOk m ps → PyData.canLayAll0 (ps.map fun p => PyData.str (SX.S p)) = true
  | [], _ => rfl
  | p :: r, h => by
    have := lay_strs r fun q hq => h q (List.mem_cons_of_mem _ hq)
    show (PyData.canLay0 (.str (SX.S p)) && PyData.canLayAll0 (r.map fun p => PyData.str (SX.S p))) = true
    rw [this, Bool.and_true]
    exact strOk_S (h p (List.mem_cons_self ..)).2
theorem depth_strs : ∀ ps : List (List Nat), PyData.depthAll (ps.map fun p => PyData.str (SX.S p)) ≤ 1
  | [] => Nat.zero_le _
  | p :: r => by
    rw [List.map_cons]
    unfold PyData.depthAll
    have := depth_strs r
    have e : (PyData.str (SX.S p)).depth = 0 := rfl
    rw [e]
    omega
theorem sh_strsL {m : Nat} {ps : List (List Nat)} (h : CovOk m ps) : SeqAt.shaped (.list (ps.map fun p => PyData.str (SX.S p))) = true := by
  unfold SeqAt.shaped
  rw [Bool.and_eq_true]
  refine ⟨?_, decide_eq_true ?_⟩
  · simp only [PyData.canLay0, lay_strs ps h]
  · have := depth_strs ps
    simp only [PyData.depth]
    omega
theorem ne_strs (ps : List (List Nat)) : (!PyData.eqv (.list (ps.map fun p => PyData.str (SX.S p))) (.list [])) = !ps.isEmpty := by cases ps <;> rfl
def sp_cover (K : PySem.W.Frag) : Sp := fun vs H Q _ => ∃ (d l : Addr) (n : Int) (m : Nat), vs = [.ref d, .int m] ∧ DeckD H d l n ∧ n < 700000 ∧ 1 ≤ m ∧ m ≤ 6 ∧ ∀ (c : Addr) (ps : List (List Nat)) (H' : Hp), DeckD H' d l (n + 300) → Fr d l H H' → CovAt H' c m ps → CovOk m ps → ps.length ≤ 16 → Q (.ref c) H'
theorem ok_cover (T : Tx K mg) : FnOk P w K mg base CX0 4 T.f_cover T.fd_cover ["_law_deck_here", "_law_many_here"] (sp_cover K) := by
  refine T.F_cover.ok sc_cover (fun vs H Q E h => ?_) (fun cdv A outer s H vs Q E hr h => ?_)
  · obtain ⟨d, l, n, m, rfl, _⟩ := h
    rfl
  · obtain ⟨d, l, n, m, rfl, D, hn, m1, m6, q⟩ := h
    refine ⟨_, (pss_cons (ps_set (i := 2) sc_cover.nd rfl (by first | exact .inl rfl | exact .inr rfl) (pe_call (ok_draw T) (hr.mono (by decide)) (by rfl) T.g_draw T.F_draw.kp T.b_draw .nil pass0 (pa_cons (pv 0) (pa_cons pe_int pa_nil)))) (pss_cons (ps_set (i := 3) sc_cover.nd rfl (by first | exact .inl rfl | exact .inr rfl) (pe_lst pa_nil)) (pss_cons (ps_for PassesOwn.never rfl (pi_range1 (by rfl) T.m_range (pa_cons (pe_ix ix_list (pe_lst (pa_cons (pe_call (ok_draw T) (hr.mono (by decide)) (by rfl) T.g_draw T.F_draw.kp T.b_draw .nil pass0 (pa_cons (pv 0) (pa_cons pe_int pa_nil))) (pa_cons pe_int pa_nil))) (pe_callTy call_int1 (by rfl) T.m_int (by decide +kernel) (pa_cons (pe_cmpR op_eq (pv 2) pe_int (nomark _)) pa_nil)) (fun _ _ => rfl)) pa_nil)) (pg_name (i := 4) sc_cover.nd rfl (by first | exact .inl rfl | exact .inr rfl)) (pss_cons (ps_set (i := 5) sc_cover.nd rfl (by first | exact .inl rfl | exact .inr rfl) (pe_call (ok_draw T) (hr.mono (by decide)) (by rfl) T.g_draw T.F_draw.kp T.b_draw .nil pass0 (pa_cons (pv 0) (pa_cons pe_int pa_nil)))) (pss_cons (ps_set (i := 6) sc_cover.nd rfl (by first | exact .inl rfl | exact .inr rfl) (pe_call (ok_product T) (hr.mono (by decide)) (by rfl) T.g_product T.F_product.kp T.b_product .nil pass0 (pa_cons (pv 0) (pa_cons (pv 1) pa_nil)))) (C8.pss_cut (ps_if (pt_cut (pw_and (pt_cmpR op_lt (pv 5) pe_int (nomark _)) (pw_and1 (pt_cmpR (op_neD hr.units) (pv 3) (pe_lst pa_nil) (nomark _)))).pt) (pss_one (ps_set (i := 6) sc_cover.nd rfl (by first | exact .inl rfl | exact .inr rfl) (pe_ix ix_list (pv 3) (pe_call (ok_draw T) (hr.mono (by decide)) (by rfl) T.g_draw T.F_draw.kp T.b_draw .nil pass0 (pa_cons (pv 0) (pa_cons (pe_callB call_len_seq (by rfl) T.m_len PySem.boot_len (pa_cons (pv 3) pa_nil)) pa_nil))) (fun _ _ => rfl)))) pss_nil) (C8.pss_cut (ps_if (pt_cmpR op_lt (pv 5) pe_int (nomark _)) (pss_cons (ps_set (i := 7) sc_cover.nd rfl (by first | exact .inl rfl | exact .inr rfl) (pe_call (ok_draw T) (hr.mono (by decide)) (by rfl) T.g_draw T.F_draw.kp T.b_draw .nil pass0 (pa_cons (pv 0) (pa_cons (pv 1) pa_nil)))) (pss_one (ps_set (i := 6) sc_cover.nd rfl (by first | exact .inl rfl | exact .inr rfl) (pe_op op_add_str (pe_op op_add_str (pe_slice sl_str (pv 6) po_none (po_some (pv 7))) (pe_item_str pe_str (pe_call (ok_draw T) (hr.mono (by decide)) (by rfl) T.g_draw T.F_draw.kp T.b_draw .nil pass0 (pa_cons (pv 0) (pa_cons pe_int pa_nil))) (fun _ _ => rfl))) (pe_slice sl_str (pv 6) (po_some (pe_op op_add (pv 7) pe_int)) po_none))))) pss_nil) (pss_one (ps_expr (pe_bm PySem.F.plainAttrs_list PySem.F.slot_list_append PySem.F.type_list_append mt_append (pv 3) (pa_cons (pv 6) pa_nil))))))))) (pss_one (ps_ret (pe_tup (pa_cons (pv 1) (pa_cons (pe_callTy call_tuple_of (by rfl) T.m_tuple (by decide +kernel) (pa_cons (pv 3) pa_nil)) pa_nil)))))))), ?_⟩
    refine ⟨.ref d, rfl, d, l, 8, _, rfl, D, by omega, by decide, by decide, fun H1 x D1 fr1 x0 x1 => ?_⟩
    refine ⟨Nat.zero_le _, fun F nF => ?_⟩
    have sF := same_upd (o := HO.lst []) nF
    have oF := D1.off nF
    have hF0 : (upd H1 F (.lst [])) F = some (.lst (pVs [])) := upd_same
    have D1' := D1.same sF
    have frF : Fr d l H (upd H1 F (.lst [])) := fr1.trans (Fr.new nF)
    have nF0 : H F = none := none_of_frD fr1 D1 nF
    revert hF0 D1' frF
    generalize upd H1 F (.lst []) = H1'
    intro hF0 D1' frF
    refine ⟨.ref d, rfl, d, l, 7, _, rfl, D1', by omega, by decide, by decide, fun H2 y D2 fr2 y0 y1 => ⟨sl2, fun t nt => ?_⟩⟩
    have s3 := same_upd (o := HO.lst [V.int y, .int 16]) nt
    refine ⟨.int x, rfl, rfl, .inr ⟨_, rfl, t, _, _, _, rfl, rfl, SqL.of upd_same, at2i _ _ _, ?_⟩⟩
    obtain ⟨N, eN, hN⟩ : ∃ N : Nat, (if decide (V.int x = V.int 5) = true then 16 else y : Int) = (N : Int) ∧ N ≤ 16 := by
      obtain ⟨k, rfl⟩ := Int.eq_ofNat_of_zero_le y0
      split
      · exact ⟨16, rfl, Nat.le_refl _⟩
      · exact ⟨k, rfl, by omega⟩
    rw [eN]
    refine ⟨(N : Int), rfl, by omega, by omega, ?_⟩
    refine for_range (lo := 0) (n := ((N : Nat) : Int).toNat) (fun i σ H' => ∃ y4 y5 y6 y7, σ = [some (.ref d), some (.int m), some (.int x), some (.ref F), y4, y5, y6, y7] ∧ DeckD H' d l (n + 2 + 12 * i) ∧ Fr d l H H' ∧ ∃ ps, H' F = some (.lst (pVs ps)) ∧ ps.length = i ∧ CovOk m ps)
      ⟨_, _, _, _, rfl, (D2.same s3).mono (by omega), (frF.trans fr2).trans (Fr.of s3), [], s3 _ _ (fr2 _ _ oF.1 oF.2 hF0), rfl, fun p hp => by cases hp⟩ ?_ ?_
    · rintro i σ H4 hi ⟨y4, y5, y6, y7, rfl, D4, fr4, ps, hF4, lps, okp⟩
      have hi' : i < N := by simpa using hi
      refine ⟨.ref d, rfl, d, l, 8, _, rfl, D4, by omega, by decide, by decide, fun H5 z D5 fr5 z0 z1 => ?_⟩
      refine ⟨.ref d, rfl, .int m, rfl, d, l, _, m, rfl, D5, by omega, m1, m6, fun p H6 D6 fr6 okp6 => ?_⟩
      have hF6 := fr6 _ _ oF.1 oF.2 (fr5 _ _ oF.1 oF.2 hF4)
      have fr46 := (fr4.trans fr5).trans fr6
      -- one of those told already
      refine ⟨fun σ H' => ∃ p', σ = [some (.ref d), some (.int m), some (.int x), some (.ref F), some (.int (0 + (i : Int))), some (.int z), some (.str (SX.S p')), y7] ∧ DeckD H' d l (n + 2 + 12 * i + 10) ∧ Fr d l H H' ∧ H' F = some (.lst (pVs ps)) ∧ ProdOk m p', ?_, ?_⟩
      · refine ⟨fun b H' => DeckD H' d l (n + 2 + 12 * i + 9) ∧ Fr d l H H' ∧ H' F = some (.lst (pVs ps)) ∧ (b = true → ps ≠ []), ?_, ?_⟩
        · refine ⟨.int z, rfl, _, _, rfl, rfl, _, rfl, ite2 (fun _ => ?_) (fun _ => ⟨D6.mono (by omega), fr46, hF6, fun e => by cases e⟩)⟩
          refine ⟨.ref F, rfl, Nat.zero_le _, fun e ne => ?_⟩
          have s7 := same_upd (o := HO.lst []) ne
          refine ⟨.list (ps.map fun p => .str (SX.S p)), .list [], .lst (SqL.of (s7 _ _ hF6)) (dpStrs ps), .lst (SqL.of upd_same) .nil, sh_strsL okp, rfl, _, rfl, ?_⟩
          rw [ne_strs]
          refine ⟨(D6.same s7).mono (by omega), fr46.trans (Fr.of s7), s7 _ _ hF6, fun e h => ?_⟩
          rw [h] at e
          cases e
        · rintro b H7 ⟨D7, fr7, hF7, hb⟩
          refine ite2 (fun e => ?_) (fun e => ?_)
          · have hne := hb e
            have lpos : 0 < ps.length := List.length_pos_iff.mpr hne
            have lV : (pVs ps).length = ps.length := by unfold pVs; rw [List.length_map]
            refine ⟨.ref F, rfl, .ref d, rfl, .ref F, rfl, F, _, rfl, .inl (SqL.of hF7), ?_⟩
            rw [lV]
            refine ⟨d, l, _, _, rfl, D7, by omega, by omega, by omega, fun H8 u D8 fr8 u0 u1 => ?_⟩
            obtain ⟨k, rfl⟩ := Int.eq_ofNat_of_zero_le u0
            have hk : k < ps.length := by omega
            have hF8 := fr8 _ _ oF.1 oF.2 hF7
            have hat : atI (pVs ps) ((k : Nat) : Int) = some (.str (SX.S ps[k])) := atI_nat (by unfold pVs; rw [List.getElem?_map, List.getElem?_eq_getElem hk]; rfl)
            refine ⟨F, _, _, _, rfl, rfl, SqL.of hF8, hat, ?_⟩
            exact ⟨ps[k], rfl, D8.mono (by omega), fr7.trans fr8, hF8, okp _ (List.getElem_mem hk)⟩
          · exact ⟨p, rfl, D7.mono (by omega), fr7, hF7, okp6⟩
      · rintro σ H7 ⟨p', rfl, D7, fr7, hF7, okp'⟩
        have lp' := okp'.1
        -- a sign otherwise
        refine ⟨fun σ H' => ∃ p'' y7, σ = [some (.ref d), some (.int m), some (.int x), some (.ref F), some (.int (0 + (i : Int))), some (.int z), some (.str (SX.S p'')), y7] ∧ DeckD H' d l (n + 2 + 12 * i + 12) ∧ Fr d l H H' ∧ H' F = some (.lst (pVs ps)) ∧ ProdOk m p'', ?_, ?_⟩
        · refine ⟨.int z, rfl, _, _, rfl, rfl, _, rfl, ite2 (fun _ => ?_) (fun _ => ⟨p', y7, rfl, D7.mono (by omega), fr7, hF7, okp'⟩)⟩
          refine ⟨.ref d, rfl, .int m, rfl, d, l, m, _, rfl, D7, by omega, by omega, by omega, fun H8 u D8 fr8 u0 u1 => ?_⟩
          obtain ⟨k, rfl⟩ := Int.eq_ofNat_of_zero_le u0
          have hk : k < p'.length := by omega
          have okl : (SX.S p').length ≤ sizeLine := by
            rw [SX.S_len]
            exact Nat.le_trans (show p'.length ≤ 64 by omega) (by decide)
          refine ⟨.str (SX.S p'), rfl, .int (k : Nat), rfl, (k : Int), rfl, SX.S p', rfl, okl, ?_⟩
          rw [cut_S1 (Nat.le_of_lt hk)]
          refine ⟨.ref d, rfl, d, l, 3, _, rfl, D8, by omega, by decide, by decide, fun H9 v D9 fr9 v0 v1 => ?_⟩
          obtain ⟨c, hc, okc⟩ := it3 v.toNat (by omega)
          refine ⟨Str.ofString "01-", v, c, rfl, rfl, v0, by omega, by rw [s3c_S, SX.S_len]; show v < 3; omega, by rw [s3c_S]; exact hc, ?_⟩
          refine ⟨_, _, rfl, rfl, ?_, ?_⟩
          · rw [SX.S_len, List.length_take]
            exact Nat.le_trans (show _ ≤ 64 by show min k p'.length + 1 ≤ 64; omega) (by decide)
          have e1 : SX.S (p'.take k) ++ (⟨#[c]⟩ : Str) = SX.S (p'.take k ++ [c]) := S_app _ [c]
          rw [e1]
          refine ⟨.str (SX.S p'), rfl, .int (k : Nat), rfl, _, _, rfl, rfl, ((k + 1 : Nat) : Int), rfl, ?_⟩
          refine ⟨SX.S p', rfl, okl, ?_⟩
          rw [cut_S2 hk]
          refine ⟨_, _, rfl, rfl, ?_, ?_⟩
          · rw [SX.S_len, SX.S_len, List.length_append, List.length_take, List.length_drop]
            exact Nat.le_trans (show _ ≤ 64 by simp only [List.length_cons, List.length_nil]; omega) (by decide)
          rw [S_app, set_put hk]
          refine ⟨p'.set k c, _, rfl, D9.mono (by omega), (fr7.trans fr8).trans fr9, fr9 _ _ oF.1 oF.2 (fr8 _ _ oF.1 oF.2 hF7), by rw [List.length_set, lp'], fun z hz => ?_⟩
          rcases List.mem_or_eq_of_mem_set hz with h | h
          · exact okp'.2 z h
          · rw [h]; exact okc
        · rintro σ H8 ⟨p'', y7', rfl, D8, fr8, hF8, okp''⟩
          refine ⟨.ref F, rfl, .inl ⟨rfl, _, SqL.of hF8⟩, .str (SX.S p''), rfl, F, _, _, rfl, rfl, hF8, ?_, ?_⟩
          · unfold pVs
            rw [List.length_map]
            exact Nat.lt_of_lt_of_le (show _ < 64 by omega) (by decide)
          · refine ⟨_, _, _, _, rfl, (D8.upd oF.1 oF.2).mono (by push_cast; omega), Fr.upd fr8 nF0, ps ++ [p''], ?_, by rw [List.length_append, lps]; rfl, fun r hr => ?_⟩
            · rw [upd_same]
              unfold pVs
              rw [List.map_append]
              rfl
            · rcases List.mem_append.mp hr with h | h
              · exact okp r h
              · rw [List.mem_singleton.mp h]; exact okp''
    · rintro σ H4 ⟨y4, y5, y6, y7, rfl, D4, fr4, ps, hF4, lps, okp⟩
      have lps' : ps.length = N := by rw [lps]; simp
      refine ⟨.int m, rfl, .ref F, rfl, F, _, rfl, .inl ⟨SqL.of hF4, fun t' nt' => ⟨sl2, fun c nc => ?_⟩⟩⟩
      have s5 := same_upd (o := HO.tup (pVs ps)) nt'
      have s6 := same_upd (o := HO.tup [V.int m, .ref t']) nc
      have sa := s5.trans s6
      exact q c ps _ ((D4.same sa).mono (by have : (((N : Nat) : Int).toNat : Int) ≤ 16 := by omega
                                            omega)) (fr4.trans (Fr.of sa)) ⟨t', upd_same, s6 _ _ upd_same⟩ okp (by omega)

end
end Gk

set_option Elab.async false
set_option linter.all false
set_option maxRecDepth 100000
set_option maxHeartbeats 1000000
set_option pp.maxSteps 4500
set_option pp.deepTerms false
namespace Gk
open PySem PySem.Spec PyProof.Rows L2

theorem filter_take {α : Type} {l : List α} {f : α → Bool} {i : Nat} {a : α} (h : l[i]? = some a) : (l.take (i + 1)).filter f = (l.take i).filter f ++ (if f a = true then [a] else []) := by
  rw [List.take_add_one, h, List.filter_append]
  congr 1
  show List.filter _ [a] = _
  rw [List.filter_cons, List.filter_nil]
section
variable {P : Program} {w : World} {K : PySem.W.Frag} {mg : Str → Option Value} {base : Heap}
/-! ### how often a cover changes at most -/
def passM (a b : List Int) (ps : List (List Nat)) : Nat := (ps.filter (flashM a b)).length
def greatM (ps : List (List Nat)) (a b : List Int) : Int := if (firstH ps a b).isSome = true then 0 else bI (toldM ps a) + 2 * (passM a b ps : Int) + bI (toldM ps b)
def sp_cover_greatest (T : Tx K mg) : Sp := fun vs H Q _ => ∃ (cv c : Addr) (m : Nat) (ps : List (List Nat)) (a b : List Int), vs = [.ref cv, .ref c] ∧ CovAt H cv m ps ∧ CovOk m ps ∧ ps.length ≤ 64 ∧ ChAt H c a b ∧ ChOk m a b ∧ Tabs H T.tabs ∧ ∀ H', Gr H H' → Q (.int (greatM ps a b)) H'
theorem ok_cover_greatest (T : Tx K mg) (B : Tb base T) : FnOk P w K mg base CX0 6 T.f_cover_greatest T.fd_cover_greatest ["cover", "change"] (sp_cover_greatest T) := by
  refine okC T.F_cover_greatest sc_cover_greatest (fun vs H Q E h => ?_) (fun A outer s H vs Q E hr h => ?_)
  · obtain ⟨cv, c, m, ps, a, b, rfl, _⟩ := h
    rfl
  · obtain ⟨cv, c, m, ps, a, b, rfl, hcv, okp, l64, hch, ok, tabs, q⟩ := h
    refine ⟨_, (pss_cons (ps_asg (pv 1) (pg_tup rfl (pgs_cons (pg_name (i := 2) sc_cover_greatest.nd rfl (by first | exact .inl rfl | exact .inr rfl)) (pgs_cons (pg_name (i := 3) sc_cover_greatest.nd rfl (by first | exact .inl rfl | exact .inr rfl)) pgs_nil)))) (pss_cons (ps_set (i := 4) sc_cover_greatest.nd rfl (by first | exact .inl rfl | exact .inr rfl) (pe_ix ix_tup (pv 0) pe_int (fun _ _ => rfl))) (pss_cons (ps_if (pt_cmpR op_notN (pe_call (ok_first_holding T B) (hr.mono (by decide)) (by rfl) T.g_first_holding T.F_first_holding.kp T.b_first_holding .nil pass0 (pa_cons (pv 4) (pa_cons (pv 1) pa_nil))) pe_non (nomark _)) (pss_one (ps_ret pe_int)) pss_nil) (pss_cons (ps_set (i := 5) sc_cover_greatest.nd rfl (by first | exact .inl rfl | exact .inr rfl) (GxS.pe_sumX (own := [("product", 6)]) (k := 4) (hr.mono (by decide)) rfl sc_cover_greatest.nd (by rfl) T.m_sum (by decide +kernel) B.TB_cover_greatest T.cd_cover_greatest rfl rfl (by decide +kernel) (blkOk_by (own := [("product", 6)]) (N := ["cover", "change", "a", "b", "products", "flashing", "product"]) (sc := defScope s_cover_greatest) (by decide +kernel)) (pi_tup (pv 4)) (fun _ _ _ _ _ _ _ hr gd => (pg_name (i := 6) sc_cover_greatest.nd rfl (by first | exact .inl rfl | exact .inr rfl))) (fun _ _ _ _ _ _ _ hr gd => (pts_one (pt_val (pe_call (ok_flashes T B) (hr.mono (by decide)) (by rfl) T.g_flashes T.F_flashes.kp T.b_flashes .nil pass0 (pa_cons (pv 6) (pa_cons (pv 1) pa_nil)))))) (fun _ _ _ _ _ _ _ hr gd => pe_int) (fun _ => rfl))) (pss_one (ps_ret (pe_op op_add (pe_op op_add (pe_call (ok_told_of T B) (hr.mono (by decide)) (by rfl) T.g_told_of T.F_told_of.kp T.b_told_of .nil pass0 (pa_cons (pv 0) (pa_cons (pv 2) pa_nil))) (pe_op op_mul pe_int (pv 5))) (pe_call (ok_told_of T B) (hr.mono (by decide)) (by rfl) T.g_told_of T.F_told_of.kp T.b_told_of .nil pass0 (pa_cons (pv 0) (pa_cons (pv 3) pa_nil)))))))))), ?_⟩
    obtain ⟨ra, rb, hc, ha, hb⟩ := id hch
    obtain ⟨t, hct, ht⟩ := id hcv
    have m6 := ok.m6
    refine ⟨.ref c, rfl, c, _, rfl, SqT.of hc, rfl, _, _, rfl, _, _, rfl, rfl, ?_⟩
    refine ⟨.ref cv, rfl, cv, _, _, .ref t, rfl, rfl, SqT.of hct, rfl, ?_⟩
    refine ⟨.ref t, rfl, .ref c, rfl, t, c, m, ps, a, b, rfl, ht, okp, hch, ok, tabs, fun H1 g1 => ⟨rfl, _, rfl, ?_⟩⟩
    have lV : (pVs ps).length = ps.length := by unfold pVs; rw [List.length_map]
    cases hf : firstH ps a b with
    | some k =>
      refine iteT ?_
      have : greatM ps a b = 0 := if_pos (by rw [hf]; rfl)
      have r := q H1 g1
      rw [this] at r
      exact r
    | none =>
      refine iteF ?_
      have eg : greatM ps a b = bI (toldM ps a) + 2 * (passM a b ps : Int) + bI (toldM ps b) := if_neg (by rw [hf]; decide)
      refine ⟨.ref t, rfl, t, rfl, ⟨_, SqT.of (g1.tup ht)⟩, g1.2 _ (tabs _ (by simp [Tx.tabs])), fun H2 tb2 => ?_⟩
      have g2 := g1.trans (Gr.tab (g1.2 _ (tabs _ (by simp [Tx.tabs]))) tb2)
      refine gx_tup (K := K) (a := t) (xs := pVs ps) (fun i acc H' => Gr H2 H' ∧ acc = ((((ps.take i).filter (flashM a b)).length : Nat) : Int)) ⟨Gr.refl, rfl⟩ (fun i ys H' _ hP => SqT.of ((g2.trans hP.1).tup ht)) ?_ ?_
      · rintro i x acc H3 hx ⟨g3, rfl⟩
        obtain ⟨p, hp, rfl⟩ := pV_at hx
        have okp' := okp p (List.mem_of_getElem? hp)
        have g23 := g2.trans g3
        have hi : i < ps.length := (List.getElem?_eq_some_iff.mp hp).1
        have lf : ((ps.take i).filter (flashM a b)).length ≤ i := Nat.le_trans (List.length_filter_le ..) (by rw [List.length_take]; omega)
        refine ⟨rfl, .str (SX.S p), rfl, .ref c, rfl, p, c, m, a, b, rfl, okp', hch.gr g23, ok, g23.tabs tabs, fun H4 g4 => ?_⟩
        refine ⟨_, rfl, ite2 (fun e => ?_) (fun e => ⟨g3.trans g4, ?_⟩)⟩
        · refine ⟨1, rfl, ⟨by decide, by decide⟩, ⟨by omega, by omega⟩, g3.trans g4, ?_⟩
          rw [filter_take hp, if_pos e, List.length_append]
          push_cast
          rfl
        · rw [filter_take hp, if_neg e, List.append_nil]
      · rintro acc H3 ⟨g3, rfl⟩
        rw [lV, List.take_length]
        have g4 := g2.trans g3
        have lf : (ps.filter (flashM a b)).length ≤ 64 := Nat.le_trans (List.length_filter_le ..) l64
        refine ⟨.ref cv, rfl, .ref ra, rfl, cv, ra, m, ps, a, rfl, hcv.gr g4, okp, g4.tup ha, ok.oa, ok.la, m6, g4.tabs tabs, fun H5 g5 => ?_⟩
        have g6 := g4.trans g5
        refine ⟨.int ((ps.filter (flashM a b)).length : Nat), rfl, _, _, rfl, rfl, .inl ⟨by decide, by decide⟩, _, _, rfl, rfl, ?_⟩
        refine ⟨.ref cv, rfl, .ref rb, rfl, cv, rb, m, ps, b, rfl, hcv.gr g6, okp, g6.tup hb, ok.ob, ok.lb, m6, g6.tabs tabs, fun H7 g7 => ⟨_, _, rfl, rfl, ?_⟩⟩
        have r := q H7 (g6.trans g7)
        rw [eg] at r
        exact r

end
end Gk

set_option Elab.async false
set_option linter.all false
set_option maxRecDepth 100000
set_option maxHeartbeats 1000000
set_option pp.maxSteps 900
namespace Gk
open PySem PySem.Spec PyProof.Rows L2
theorem hall_iff {p q : List Nat} : hall p q = true ↔ ∀ (i a b : Nat), p[i]? = some a → q[i]? = some b → a = 45 ∨ a = b := by
  unfold hall
  rw [List.all_eq_true]
  constructor
  · intro h i a b ha hb
    have := h (a, b) (List.mem_of_getElem? (i := i) (by rw [List.getElem?_zip_eq_some]; exact ⟨ha, hb⟩))
    simpa using this
  · intro h z hz
    obtain ⟨i, hi⟩ := List.getElem?_of_mem hz
    rw [List.getElem?_zip_eq_some] at hi
    simpa using h i z.1 z.2 hi.1 hi.2
theorem hrow_iff {p : List Nat} {r : List Int} : hrow p r = true ↔ ∀ (i a : Nat) (x : Int), p[i]? = some a → r[i]? = some x → a = 45 ∨ a = wS x := by
  unfold hrow
  rw [hall_iff]
  constructor
  · intro h i a x ha hx
    exact h i a (wS x) ha (by unfold rowS; rw [List.getElem?_map, hx]; rfl)
  · intro h i a b ha hb
    unfold rowS at hb
    rw [List.getElem?_map] at hb
    obtain ⟨x, hx, e⟩ := Option.map_eq_some_iff.mp hb
    rw [← e]
    exact h i a x ha hx

theorem meet_iff {p q : List Nat} : meetM p q = true ↔ ∀ (i a b : Nat), p[i]? = some a → q[i]? = some b → a = 45 ∨ b = 45 ∨ a = b := by
  unfold meetM
  rw [List.all_eq_true]
  constructor
  · intro h i a b ha hb
    have := h (a, b) (List.mem_of_getElem? (i := i) (by rw [List.getElem?_zip_eq_some]; exact ⟨ha, hb⟩))
    simpa [or_assoc] using this
  · intro h z hz
    obtain ⟨i, hi⟩ := List.getElem?_of_mem hz
    rw [List.getElem?_zip_eq_some] at hi
    simpa [or_assoc] using h i z.1 z.2 hi.1 hi.2

/-! ### a cover with delays, told over time -/
def litN (p : List Nat) (n : Nat) : List Nat := (List.range n).filter fun i => decide (p.getD i 45 ≠ 45)
theorem litN_in {p : List Nat} {n i : Nat} : i ∈ litN p n ↔ i < n ∧ p.getD i 45 ≠ 45 := by
  unfold litN
  rw [List.mem_filter, List.mem_range, decide_eq_true_iff]
theorem litN_succ (p : List Nat) (n : Nat) : litN p (n + 1) = litN p n ++ (if p.getD n 45 ≠ 45 then [n] else []) := by
  unfold litN
  rw [List.range_succ, List.filter_append]
  congr 1
  rw [List.filter_cons, List.filter_nil]
  by_cases h : p.getD n 45 = 45
  · rw [if_neg (by rw [decide_eq_true_iff]; exact fun k => k h), if_neg (fun k => k h)]
  · rw [if_pos (by rw [decide_eq_true_iff]; exact h), if_pos h]
theorem litN_le (p : List Nat) (n : Nat) : (litN p n).length ≤ n := by
  unfold litN
  exact Nat.le_trans (List.length_filter_le ..) (by rw [List.length_range]; exact Nat.le_refl _)
theorem litN_mono (p : List Nat) {n k : Nat} (h : n ≤ k) : (litN p n).length ≤ (litN p k).length := by
  induction h with
  | refl => exact Nat.le_refl _
  | step _ ih =>
    rw [litN_succ, List.length_append]
    omega
def okL (p : List Nat) (a b : List Int) (t : Int) (e : Nat × Int) : Bool := decide (wS (if t < e.2 then a.getD e.1 0 else b.getD e.1 0) = p.getD e.1 45)
def hat (p : List Nat) (part : List Int) (a b : List Int) (t : Int) : Bool := ((litN p p.length).zip part).all (okL p a b t)
def wrt (ps : List (List Nat)) (ds : List (List Int)) (a b : List Int) (t : Int) : Bool := (ps.zip ds).any fun e => hat e.1 e.2 a b t
structure DelOk (ps : List (List Nat)) (ds : List (List Int)) : Prop where
  len : ds.length = ps.length
  fit : ∀ e ∈ ps.zip ds, e.2.length = (litN e.1 e.1.length).length
  pos : ∀ e ∈ ps.zip ds, ∀ d ∈ e.2, 0 ≤ d
theorem row_at {p : List Nat} {r : List Int} {i : Nat} (hl : p.length = r.length) (h : hrow p r = true) (hi : i < p.length) (n : p.getD i 45 ≠ 45) : wS (r.getD i 0) = p.getD i 45 := by
  have e1 : p[i]? = some p[i] := List.getElem?_eq_getElem hi
  have hi2 : i < r.length := by omega
  have e2 : r[i]? = some r[i] := List.getElem?_eq_getElem hi2
  rw [List.getD_eq_getElem?_getD, e1, Option.getD_some] at n
  rw [List.getD_eq_getElem?_getD, List.getD_eq_getElem?_getD, e1, e2, Option.getD_some, Option.getD_some]
  rcases hrow_iff.mp h i _ _ e1 e2 with z | z
  · exact absurd z n
  · exact z.symm
theorem row_of {p : List Nat} {r : List Int} (hl : p.length = r.length) (h : ∀ i, i < p.length → p.getD i 45 ≠ 45 → wS (r.getD i 0) = p.getD i 45) : hrow p r = true := by
  refine hrow_iff.mpr fun i c x h1 h2 => ?_
  have hi : i < p.length := (List.getElem?_eq_some_iff.mp h1).1
  have e1 : p.getD i 45 = c := by rw [List.getD_eq_getElem?_getD, h1, Option.getD_some]
  have e2 : r.getD i 0 = x := by rw [List.getD_eq_getElem?_getD, h2, Option.getD_some]
  by_cases z : c = 45
  · exact .inl z
  · have := h i hi (by rw [e1]; exact z)
    rw [e1, e2] at this
    exact .inr this.symm
theorem hat_anti {p : List Nat} {part a b : List Int} {t t' : Int} (hl : p.length = a.length) (h : hrow p a = true) (le : t ≤ t') (g : hat p part a b t' = true) : hat p part a b t = true := by
  refine List.all_eq_true.mpr fun e he => ?_
  have g1 := List.all_eq_true.mp g e he
  obtain ⟨i1, i2⟩ := litN_in.mp (List.of_mem_zip (a := e.1) (b := e.2) he).1
  unfold okL at g1 ⊢
  rw [decide_eq_true_iff] at g1 ⊢
  by_cases z : t < e.2
  · rw [if_pos z]
    exact row_at hl h i1 i2
  · rw [if_neg z]
    rwa [if_neg (by omega)] at g1
theorem hat_mono {p : List Nat} {part a b : List Int} {t t' : Int} (hl : p.length = b.length) (h : hrow p b = true) (le : t ≤ t') (g : hat p part a b t = true) : hat p part a b t' = true := by
  refine List.all_eq_true.mpr fun e he => ?_
  have g1 := List.all_eq_true.mp g e he
  obtain ⟨i1, i2⟩ := litN_in.mp (List.of_mem_zip (a := e.1) (b := e.2) he).1
  unfold okL at g1 ⊢
  rw [decide_eq_true_iff] at g1 ⊢
  by_cases z : t' < e.2
  · rw [if_pos z]
    rwa [if_pos (by omega)] at g1
  · rw [if_neg z]
    exact row_at hl h i1 i2
theorem in_zip {α β : Type} {l : List α} {r : List β} (h : r.length = l.length) {x : α} (hx : x ∈ l) : ∃ y, (x, y) ∈ l.zip r := by
  obtain ⟨i, hi, rfl⟩ := List.getElem_of_mem hx
  have hi2 : i < r.length := by omega
  refine ⟨r[i], ?_⟩
  have : (l.zip r)[i]? = some (l[i], r[i]) := by rw [List.getElem?_zip_eq_some]; exact ⟨List.getElem?_eq_getElem hi, List.getElem?_eq_getElem hi2⟩
  exact List.mem_of_getElem? this
theorem hat_start {p : List Nat} {part a b : List Int} {t : Int} (hl : p.length = a.length) (fit : part.length = (litN p p.length).length) (h : ∀ d ∈ part, t < d) : hat p part a b t = hrow p a := by
  rw [Bool.eq_iff_iff]
  constructor
  · intro g
    refine row_of hl fun i hi n => ?_
    obtain ⟨d, hd⟩ := in_zip fit (litN_in.mpr ⟨hi, n⟩)
    have g1 := List.all_eq_true.mp g _ hd
    unfold okL at g1
    rw [decide_eq_true_iff] at g1
    have := h d (List.of_mem_zip hd).2
    rwa [if_pos this] at g1
  · intro g
    refine List.all_eq_true.mpr fun e he => ?_
    obtain ⟨z1, z2⟩ := List.of_mem_zip (a := e.1) (b := e.2) he
    obtain ⟨i1, i2⟩ := litN_in.mp z1
    unfold okL
    rw [decide_eq_true_iff, if_pos (h _ z2)]
    exact row_at hl g i1 i2
theorem hat_end {p : List Nat} {part a b : List Int} {t : Int} (hl : p.length = b.length) (fit : part.length = (litN p p.length).length) (h : ∀ d ∈ part, d ≤ t) : hat p part a b t = hrow p b := by
  rw [Bool.eq_iff_iff]
  constructor
  · intro g
    refine row_of hl fun i hi n => ?_
    obtain ⟨d, hd⟩ := in_zip fit (litN_in.mpr ⟨hi, n⟩)
    have g1 := List.all_eq_true.mp g _ hd
    unfold okL at g1
    rw [decide_eq_true_iff] at g1
    have := h d (List.of_mem_zip hd).2
    rwa [if_neg (by omega)] at g1
  · intro g
    refine List.all_eq_true.mpr fun e he => ?_
    obtain ⟨z1, z2⟩ := List.of_mem_zip (a := e.1) (b := e.2) he
    obtain ⟨i1, i2⟩ := litN_in.mp z1
    have := h _ z2
    unfold okL
    rw [decide_eq_true_iff, if_neg (by omega)]
    exact row_at hl g i1 i2
theorem any_zip {α β : Type} {f : α → Bool} {g : α × β → Bool} : ∀ {l : List α} {r : List β}, r.length = l.length → (∀ e ∈ l.zip r, g e = f e.1) → (l.zip r).any g = l.any f
  | [], r, _, _ => by simp
  | x :: l, [], h, _ => by cases h
  | x :: l, y :: r, h, k => by
    rw [List.zip_cons_cons, List.any_cons, List.any_cons, k _ List.mem_cons_self, any_zip (by simpa using h) fun e he => k e (List.mem_cons_of_mem _ he)]
theorem wrt_start {m : Nat} {ps : List (List Nat)} {ds : List (List Int)} {a b : List Int} {t : Int} (okp : CovOk m ps) (ok : ChOk m a b) (D : DelOk ps ds) (h : ∀ e ∈ ps.zip ds, ∀ d ∈ e.2, t < d) : wrt ps ds a b t = toldM ps a :=
  any_zip D.len fun e he => hat_start (by rw [(okp e.1 (List.of_mem_zip (a := e.1) (b := e.2) he).1).1, ok.la]) (D.fit e he) (h e he)
theorem wrt_end {m : Nat} {ps : List (List Nat)} {ds : List (List Int)} {a b : List Int} {t : Int} (okp : CovOk m ps) (ok : ChOk m a b) (D : DelOk ps ds) (h : ∀ e ∈ ps.zip ds, ∀ d ∈ e.2, d ≤ t) : wrt ps ds a b t = toldM ps b :=
  any_zip D.len fun e he => hat_end (by rw [(okp e.1 (List.of_mem_zip (a := e.1) (b := e.2) he).1).1, ok.lb]) (D.fit e he) (h e he)
/-! how often a worth turns -/
def fl (x : Bool) : List Bool → Nat
  | [] => 0
  | y :: l => (if x = y then 0 else 1) + fl y l
theorem fl_op (o : Bool → Bool → Bool) (g h : Int → Bool) : ∀ (ts : List Int) (t0 : Int), fl (o (g t0) (h t0)) (ts.map fun t => o (g t) (h t)) ≤ fl (g t0) (ts.map g) + fl (h t0) (ts.map h)
  | [], _ => Nat.zero_le _
  | t :: ts, t0 => by
    have ih := fl_op o g h ts t
    rw [List.map_cons, List.map_cons, List.map_cons]
    unfold fl
    by_cases e1 : g t0 = g t
    · by_cases e2 : h t0 = h t
      · rw [if_pos e1, if_pos e2, if_pos (by rw [e1, e2])]
        omega
      · rw [if_pos e1, if_neg e2]
        split <;> omega
    · rw [if_neg e1]
      split <;> split <;> omega
theorem fl_const {g : Int → Bool} {x : Bool} : ∀ ts : List Int, (∀ t ∈ ts, g t = x) → fl x (ts.map g) = 0
  | [], _ => rfl
  | t :: ts, h => by
    have e := h t List.mem_cons_self
    have ih := fl_const (g := g) (x := x) ts fun u hu => h u (List.mem_cons_of_mem _ hu)
    rw [List.map_cons]
    unfold fl
    rw [e, if_pos rfl, ih]
theorem fl_anti {g : Int → Bool} : ∀ (ts : List Int) (t0 : Int), (t0 :: ts).Pairwise (fun s t => g t = true → g s = true) → fl (g t0) (ts.map g) ≤ if g t0 = true then 1 else 0
  | [], _, _ => Nat.zero_le _
  | t :: ts, t0, h => by
    obtain ⟨h1, h2⟩ := List.pairwise_cons.mp h
    have ih := fl_anti ts t h2
    have k := h1 t List.mem_cons_self
    rw [List.map_cons]
    unfold fl
    cases e1 : g t0 <;> cases e2 : g t <;> simp only [e2] at ih k ⊢
    · simpa using ih
    · rw [e1] at k
      exact absurd (k trivial) (by decide)
    · simp at ih ⊢
      omega
    · simpa using ih
theorem fl_mono {g : Int → Bool} : ∀ (ts : List Int) (t0 : Int), (t0 :: ts).Pairwise (fun s t => g s = true → g t = true) → fl (g t0) (ts.map g) ≤ if g t0 = true then 0 else 1
  | [], _, _ => Nat.zero_le _
  | t :: ts, t0, h => by
    obtain ⟨h1, h2⟩ := List.pairwise_cons.mp h
    have ih := fl_mono ts t h2
    have k := h1 t List.mem_cons_self
    rw [List.map_cons]
    unfold fl
    cases e1 : g t0 <;> cases e2 : g t <;> simp only [e2] at ih k ⊢
    · simpa using ih
    · simp at ih ⊢
      omega
    · rw [e1] at k
      exact absurd (k rfl) (by decide)
    · simpa using ih
def par (x : Bool) (n : Nat) : Bool := xor x (decide (n % 2 = 1))
theorem par_succ (x : Bool) (n : Nat) : par x (n + 1) = !par x n := by
  unfold par
  have : decide ((n + 1) % 2 = 1) = !decide (n % 2 = 1) := by
    rcases Nat.mod_two_eq_zero_or_one n with h | h
    · have : (n + 1) % 2 = 1 := by omega
      simp [h, this]
    · have : (n + 1) % 2 = 0 := by omega
      simp [h, this]
  rw [this]
  cases x <;> cases decide (n % 2 = 1) <;> rfl
def stepW (f : Int → Bool) (x : Bool) (acc : List Int) (t : Int) : List Int := if f t = par x acc.length then acc else acc ++ [t]
def walkW (f : Int → Bool) (x : Bool) (ts : List Int) : List Int := ts.foldl (stepW f x) []
theorem step_par (f : Int → Bool) (x : Bool) (acc : List Int) (t : Int) : par x (stepW f x acc t).length = f t := by
  unfold stepW
  by_cases e : f t = par x acc.length
  · rw [if_pos e, e]
  · rw [if_neg e, List.length_append, List.length_singleton, par_succ]
    cases h : f t <;> cases k : par x acc.length <;> simp_all
theorem walk_len (f : Int → Bool) (x : Bool) : ∀ (ts acc : List Int), (ts.foldl (stepW f x) acc).length = acc.length + fl (par x acc.length) (ts.map f)
  | [], _ => rfl
  | t :: ts, acc => by
    rw [List.foldl_cons, walk_len f x ts, step_par, List.map_cons]
    show _ = acc.length + ((if par x acc.length = f t then 0 else 1) + fl (f t) (ts.map f))
    have : (stepW f x acc t).length = acc.length + (if par x acc.length = f t then 0 else 1) := by
      unfold stepW
      by_cases e : f t = par x acc.length
      · rw [if_pos e, if_pos e.symm]
        rfl
      · rw [if_neg e, if_neg (fun h => e h.symm), List.length_append]
        rfl
    omega
theorem walk_end (f : Int → Bool) (x : Bool) : ∀ (ts acc : List Int), par x (ts.foldl (stepW f x) acc).length = match ts.getLast? with
    | none => par x acc.length
    | some t => f t
  | [], _ => rfl
  | [t], acc => step_par f x acc t
  | t :: u :: ts, acc => by
    rw [List.foldl_cons, walk_end f x (u :: ts)]
    rw [List.getLast?_cons_cons]
    cases h : (u :: ts).getLast? with
    | none => simp at h
    | some v => rfl
theorem walk_take (f : Int → Bool) (x : Bool) (ts : List Int) {i : Nat} {t : Int} (h : ts[i]? = some t) : walkW f x (ts.take (i + 1)) = stepW f x (walkW f x (ts.take i)) t := by
  unfold walkW
  rw [List.take_add_one, h, List.foldl_append]
  rfl
theorem walk_sub (f : Int → Bool) (x : Bool) : ∀ (ts acc : List Int) (u : Int), u ∈ ts.foldl (stepW f x) acc → u ∈ acc ∨ u ∈ ts
  | [], _, _, h => .inl h
  | t :: ts, acc, u, h => by
    rcases walk_sub f x ts _ u h with k | k
    · unfold stepW at k
      split at k
      · exact .inl k
      · rcases List.mem_append.mp k with k | k
        · exact .inl k
        · rw [List.mem_singleton.mp k]
          exact .inr List.mem_cons_self
    · exact .inr (List.mem_cons_of_mem _ k)
/-- rising lists with the same members are the same -/
theorem rise_eq : ∀ {l r : List Int}, l.Pairwise (· < ·) → r.Pairwise (· < ·) → (∀ x, x ∈ l ↔ x ∈ r) → l = r
  | [], [], _, _, _ => rfl
  | [], y :: r, _, _, h => absurd ((h y).mpr List.mem_cons_self) (by simp)
  | x :: l, [], _, _, h => absurd ((h x).mp List.mem_cons_self) (by simp)
  | x :: l, y :: r, hl, hr, h => by
    obtain ⟨l1, l2⟩ := List.pairwise_cons.mp hl
    obtain ⟨r1, r2⟩ := List.pairwise_cons.mp hr
    have e : x = y := by
      rcases List.mem_cons.mp ((h x).mp List.mem_cons_self) with a | a
      · exact a
      · rcases List.mem_cons.mp ((h y).mpr List.mem_cons_self) with b | b
        · exact b.symm
        · have := r1 x a
          have := l1 y b
          omega
    subst e
    congr 1
    refine rise_eq l2 r2 fun z => ?_
    have k := h z
    constructor
    · intro hz
      have := l1 z hz
      rcases List.mem_cons.mp (k.mp (List.mem_cons_of_mem _ hz)) with a | a
      · omega
      · exact a
    · intro hz
      have := r1 z hz
      rcases List.mem_cons.mp (k.mpr (List.mem_cons_of_mem _ hz)) with a | a
      · omega
      · exact a
def delL (ds : List (List Int)) : List Int := ds.flatten
theorem delL_in {ps : List (List Nat)} {ds : List (List Int)} (D : DelOk ps ds) {d : Int} : d ∈ delL ds ↔ ∃ e ∈ ps.zip ds, d ∈ e.2 := by
  unfold delL
  rw [List.mem_flatten]
  constructor
  · rintro ⟨part, h1, h2⟩
    obtain ⟨i, hi, rfl⟩ := List.getElem_of_mem h1
    have hi2 : i < ps.length := by have := D.len; omega
    refine ⟨(ps[i], ds[i]), ?_, h2⟩
    have : (ps.zip ds)[i]? = some (ps[i], ds[i]) := by rw [List.getElem?_zip_eq_some]; exact ⟨List.getElem?_eq_getElem hi2, List.getElem?_eq_getElem hi⟩
    exact List.mem_of_getElem? this
  · rintro ⟨e, he, h⟩
    exact ⟨e.2, (List.of_mem_zip (a := e.1) (b := e.2) he).2, h⟩
/-- time 0, put in as well, changes nothing -/
theorem walk_zero {m : Nat} {ps : List (List Nat)} {ds : List (List Int)} {a b ts us : List Int} (okp : CovOk m ps) (ok : ChOk m a b) (D : DelOk ps ds) (s1 : ts.Pairwise (· < ·)) (h1 : ∀ x, x ∈ ts ↔ x ∈ delL ds) (s2 : us.Pairwise (· < ·)) (h2 : ∀ x, x ∈ us ↔ x ∈ 0 :: delL ds) :
    walkW (wrt ps ds a b) (toldM ps a) us = walkW (wrt ps ds a b) (toldM ps a) ts := by
  have pos : ∀ x ∈ ts, 0 ≤ x := fun x hx => by
    obtain ⟨e, he, hd⟩ := (delL_in D).mp ((h1 x).mp hx)
    exact D.pos e he x hd
  by_cases z : (0 : Int) ∈ delL ds
  · rw [rise_eq s2 s1 fun x => ?_]
    rw [h2 x, h1 x, List.mem_cons]
    exact ⟨fun k => k.elim (fun e => e ▸ z) id, .inr⟩
  · have e : us = 0 :: ts := by
      refine rise_eq s2 (List.pairwise_cons.mpr ⟨fun x hx => ?_, s1⟩) fun x => ?_
      · have p := pos x hx
        have : x ≠ 0 := fun k => z (k ▸ (h1 x).mp hx)
        omega
      · rw [h2 x, List.mem_cons, List.mem_cons, h1 x]
    subst e
    have w0 : wrt ps ds a b 0 = toldM ps a := wrt_start okp ok D fun e he d hd => by
      have p := D.pos e he d hd
      have : d ≠ 0 := fun k => z (k ▸ (delL_in D).mpr ⟨e, he, hd⟩)
      omega
    unfold walkW
    rw [List.foldl_cons]
    congr 1
    unfold stepW
    rw [w0]
    exact if_pos (by unfold par; cases toldM ps a <;> rfl)
theorem wave_last {m : Nat} {ps : List (List Nat)} {ds : List (List Int)} {a b ts : List Int} (okp : CovOk m ps) (ok : ChOk m a b) (D : DelOk ps ds) (s1 : ts.Pairwise (· < ·)) (h1 : ∀ x, x ∈ ts ↔ x ∈ delL ds) :
    par (toldM ps a) (walkW (wrt ps ds a b) (toldM ps a) ts).length = toldM ps b := by
  unfold walkW
  rw [walk_end]
  cases h : ts.getLast? with
  | none =>
    have e : ts = [] := by simpa using h
    subst e
    have no : ∀ e ∈ ps.zip ds, ∀ d ∈ e.2, False := fun e he d hd => absurd ((h1 d).mpr ((delL_in D).mpr ⟨e, he, hd⟩)) (by simp)
    have e1 := wrt_start (t := 0) okp ok D fun e he d hd => (no e he d hd).elim
    have e2 := wrt_end (t := 0) okp ok D fun e he d hd => (no e he d hd).elim
    show par (toldM ps a) 0 = _
    rw [← e2, e1]
    unfold par
    cases toldM ps a <;> rfl
  | some t =>
    refine wrt_end okp ok D fun e he d hd => ?_
    have hm := (h1 d).mpr ((delL_in D).mpr ⟨e, he, hd⟩)
    obtain ⟨l, rfl⟩ := List.getLast?_eq_some_iff.mp h
    rcases List.mem_append.mp hm with k | k
    · have := (List.pairwise_append.mp s1).2.2 d k t (by simp)
      omega
    · rw [List.mem_singleton.mp k]
      exact Int.le_refl _
theorem fl_any {g : List Nat × List Int → Int → Bool} {n : List Nat × List Int → Nat} {ts : List Int} {t0 : Int} : ∀ l : List (List Nat × List Int), (∀ e ∈ l, fl (g e t0) (ts.map (g e)) ≤ n e) → fl (l.any fun e => g e t0) (ts.map fun t => l.any fun e => g e t) ≤ (l.map n).sum
  | [], _ => by
    have := fl_const (g := fun _ => false) (x := false) ts fun t _ => rfl
    simpa using this
  | e :: l, h => by
    have ih := fl_any (g := g) (n := n) (ts := ts) (t0 := t0) l fun u hu => h u (List.mem_cons_of_mem _ hu)
    have k := h e List.mem_cons_self
    have o := fl_op (fun x y => x || y) (g e) (fun t => l.any fun e => g e t) ts t0
    rw [List.map_cons, List.sum_cons]
    have e1 : ((e :: l).any fun e => g e t0) = (g e t0 || l.any fun e => g e t0) := List.any_cons
    have e2 : (ts.map fun t => (e :: l).any fun e => g e t) = ts.map fun t => g e t || l.any fun e => g e t := List.map_congr_left fun t _ => List.any_cons
    rw [e1, e2]
    omega
theorem sum_zip {f : List Nat → Bool} : ∀ {ps : List (List Nat)} {ds : List (List Int)}, ((ps.zip ds).map fun e => if f e.1 = true then 2 else 0).sum ≤ 2 * (ps.filter f).length
  | [], _ => by simp
  | p :: ps, [] => by simp
  | p :: ps, d :: ds => by
    have ih := sum_zip (f := f) (ps := ps) (ds := ds)
    rw [List.zip_cons_cons, List.map_cons, List.sum_cons, List.filter_cons]
    by_cases e : f p = true
    · rw [if_pos e, if_pos e, List.length_cons]
      omega
    · rw [if_neg e, if_neg e]
      omega
theorem wS01 {x : Int} : wS x = 48 ∨ wS x = 49 := by unfold wS; split <;> simp
theorem bits {x y : Int} (hx : x = 0 ∨ x = 1) (hy : y = 0 ∨ y = 1) (n : x ≠ y) {c : Nat} (hc : SgOk c) (c45 : c ≠ 45) : c = wS x ∨ c = wS y := by
  rcases hc with rfl | rfl | rfl
  · exact absurd rfl c45
  · rcases hx with rfl | rfl <;> rcases hy with rfl | rfl <;> first | exact absurd rfl n | exact .inl rfl | exact .inr rfl
  · rcases hx with rfl | rfl <;> rcases hy with rfl | rfl <;> first | exact absurd rfl n | exact .inl rfl | exact .inr rfl
theorem at01 {r : List Int} (o : Row01' r) (i : Nat) : r.getD i 0 = 0 ∨ r.getD i 0 = 1 := by
  rw [List.getD_eq_getElem?_getD]
  cases h : r[i]? with
  | none => exact .inl rfl
  | some x => exact o x (List.mem_of_getElem? h)
theorem cube_at {a b : List Int} {i : Nat} (h1 : i < a.length) (h2 : i < b.length) : (cubeM a b)[i]? = some (if a.getD i 0 = b.getD i 0 then wS (a.getD i 0) else 45) := by
  unfold cubeM
  have : (a.zip b)[i]? = some (a[i], b[i]) := by rw [List.getElem?_zip_eq_some]; exact ⟨List.getElem?_eq_getElem h1, List.getElem?_eq_getElem h2⟩
  rw [List.getElem?_map, this]
  simp [List.getD_eq_getElem?_getD, List.getElem?_eq_getElem h1, List.getElem?_eq_getElem h2]
/-- a product that holds at neither row: at most one pulse, and none unless it flashes -/
theorem hat_pulse {m : Nat} {p : List Nat} {part a b : List Int} {ts : List Int} {t0 : Int} (okp : ProdOk m p) (ok : ChOk m a b) (fit : part.length = (litN p p.length).length) (na : hrow p a = false) (nb : hrow p b = false) (rise : (t0 :: ts).Pairwise (· < ·)) :
    fl (hat p part a b t0) (ts.map (hat p part a b)) ≤ if flashM a b p = true then 2 else 0 := by
  have lp := okp.1
  have la := ok.la
  have lb := ok.lb
  by_cases mt : meetM p (cubeM a b) = true
  · have ef : flashM a b p = true := by unfold flashM; rw [mt, na, nb]; rfl
    rw [if_pos ef]
    -- each sign is the first row's or the second's
    have each : ∀ i, i < p.length → p.getD i 45 ≠ 45 → p.getD i 45 = wS (a.getD i 0) ∨ p.getD i 45 = wS (b.getD i 0) := by
      intro i hi n
      have e1 : p[i]? = some (p.getD i 45) := by rw [List.getD_eq_getElem?_getD, List.getElem?_eq_getElem hi]; rfl
      have hc := okp.2 _ (List.mem_of_getElem? e1)
      by_cases e : a.getD i 0 = b.getD i 0
      · have e2 := cube_at (a := a) (b := b) (i := i) (by omega) (by omega)
        rw [if_pos e] at e2
        rcases meet_iff.mp mt i _ _ e1 e2 with z | z | z
        · exact absurd z n
        · rcases wS01 (x := a.getD i 0) with k | k <;> rw [k] at z <;> cases z
        · exact .inl z
      · exact bits (at01 ok.oa i) (at01 ok.ob i) e hc n
    let A : Int → Bool := fun t => ((litN p p.length).zip part).all fun e => !decide (p.getD e.1 45 = wS (a.getD e.1 0)) || okL p a b t e
    let B : Int → Bool := fun t => ((litN p p.length).zip part).all fun e => decide (p.getD e.1 45 = wS (a.getD e.1 0)) || okL p a b t e
    have eh : ∀ t, hat p part a b t = (A t && B t) := by
      intro t
      rw [Bool.eq_iff_iff, Bool.and_eq_true]
      constructor
      · intro g
        refine ⟨List.all_eq_true.mpr fun e he => ?_, List.all_eq_true.mpr fun e he => ?_⟩
        · rw [List.all_eq_true.mp g e he, Bool.or_true]
        · rw [List.all_eq_true.mp g e he, Bool.or_true]
      · rintro ⟨g1, g2⟩
        refine List.all_eq_true.mpr fun e he => ?_
        have k1 := List.all_eq_true.mp g1 e he
        have k2 := List.all_eq_true.mp g2 e he
        by_cases z : p.getD e.1 45 = wS (a.getD e.1 0)
        · rw [decide_eq_true z, Bool.not_true, Bool.false_or] at k1
          exact k1
        · rw [decide_eq_false z, Bool.false_or] at k2
          exact k2
    have hA : (t0 :: ts).Pairwise (fun s t => A t = true → A s = true) := rise.imp fun {s t} lt g => by
      refine List.all_eq_true.mpr fun e he => ?_
      have k := List.all_eq_true.mp g e he
      obtain ⟨i1, i2⟩ := litN_in.mp (List.of_mem_zip (a := e.1) (b := e.2) he).1
      by_cases z : p.getD e.1 45 = wS (a.getD e.1 0)
      · rw [decide_eq_true z, Bool.not_true, Bool.false_or] at k ⊢
        unfold okL at k ⊢
        rw [decide_eq_true_iff] at k ⊢
        by_cases y : s < e.2
        · rw [if_pos y]
          exact z.symm
        · rw [if_neg y]
          rwa [if_neg (by omega)] at k
      · rw [decide_eq_false z]
        rfl
    have hB : (t0 :: ts).Pairwise (fun s t => B s = true → B t = true) := rise.imp fun {s t} lt g => by
      refine List.all_eq_true.mpr fun e he => ?_
      have k := List.all_eq_true.mp g e he
      obtain ⟨i1, i2⟩ := litN_in.mp (List.of_mem_zip (a := e.1) (b := e.2) he).1
      by_cases z : p.getD e.1 45 = wS (a.getD e.1 0)
      · rw [decide_eq_true z]
        rfl
      · rw [decide_eq_false z, Bool.false_or] at k ⊢
        unfold okL at k ⊢
        rw [decide_eq_true_iff] at k ⊢
        by_cases y : t < e.2
        · rw [if_pos y]
          rwa [if_pos (by omega)] at k
        · rw [if_neg y]
          rcases each e.1 i1 i2 with w | w
          · exact absurd w z
          · exact w.symm
    have o := fl_op (fun x y => x && y) A B ts t0
    have eA := fl_anti ts t0 hA
    have eB := fl_mono ts t0 hB
    have e2 : ts.map (hat p part a b) = ts.map fun t => A t && B t := List.map_congr_left fun t _ => eh t
    rw [eh t0, e2]
    have : (if A t0 = true then 1 else 0) ≤ 1 := by split <;> decide
    have : (if B t0 = true then 0 else 1) ≤ 1 := by split <;> decide
    omega
  · have ef : ¬ flashM a b p = true := fun h => mt (Bool.and_eq_true_iff.mp h).1
    rw [if_neg ef]
    have no : ∀ t, hat p part a b t = false := by
      intro t
      rw [Bool.eq_false_iff]
      intro g
      refine mt (meet_iff.mpr fun i c x h1 h2 => ?_)
      have hi : i < p.length := (List.getElem?_eq_some_iff.mp h1).1
      have e1 : p.getD i 45 = c := by rw [List.getD_eq_getElem?_getD, h1]; rfl
      have e2 := cube_at (a := a) (b := b) (i := i) (by omega) (by omega)
      rw [e2] at h2
      have h2 := Option.some.inj h2
      by_cases c45 : c = 45
      · exact .inl c45
      · by_cases e : a.getD i 0 = b.getD i 0
        · rw [if_pos e] at h2
          obtain ⟨d, hd⟩ := in_zip fit (litN_in.mpr ⟨hi, by rw [e1]; exact c45⟩)
          have k := List.all_eq_true.mp g _ hd
          unfold okL at k
          rw [decide_eq_true_iff, e1] at k
          dsimp only at k
          refine .inr (.inr ?_)
          rw [← h2, ← k]
          split
          · rfl
          · rw [e]
        · rw [if_neg e] at h2
          exact .inr (.inl h2.symm)
    rw [no t0, fl_const ts fun t _ => no t]
    exact Nat.le_refl _
theorem wave_few {m : Nat} {ps : List (List Nat)} {ds : List (List Int)} {a b ts : List Int} (okp : CovOk m ps) (ok : ChOk m a b) (D : DelOk ps ds) (s1 : ts.Pairwise (· < ·)) (h1 : ∀ x, x ∈ ts ↔ x ∈ delL ds) :
    ((walkW (wrt ps ds a b) (toldM ps a) ts).length : Int) ≤ greatM ps a b := by
  have pos : ∀ x ∈ ts, 0 ≤ x := fun x hx => by
    obtain ⟨e, he, hd⟩ := (delL_in D).mp ((h1 x).mp hx)
    exact D.pos e he x hd
  have rise : ((-1 : Int) :: ts).Pairwise (· < ·) := List.pairwise_cons.mpr ⟨fun x hx => by have := pos x hx; omega, s1⟩
  have w0 : wrt ps ds a b (-1) = toldM ps a := wrt_start okp ok D fun e he d hd => by have := D.pos e he d hd; omega
  have lw : (walkW (wrt ps ds a b) (toldM ps a) ts).length = fl (wrt ps ds a b (-1)) (ts.map (wrt ps ds a b)) := by
    unfold walkW
    rw [walk_len, w0]
    show 0 + fl (par (toldM ps a) 0) _ = _
    rw [Nat.zero_add]
    congr 1
    unfold par
    cases toldM ps a <;> rfl
  rw [lw]
  have oke : ∀ e ∈ ps.zip ds, ProdOk m e.1 := fun e he => okp e.1 (List.of_mem_zip (a := e.1) (b := e.2) he).1
  have la := ok.la
  have lb := ok.lb
  unfold greatM
  cases hf : firstH ps a b with
  | some k =>
    rw [if_pos (show (some k).isSome = true from rfl)]
    have hit : ∀ t, wrt ps ds a b t = true := by
      intro t
      unfold firstH at hf
      obtain ⟨hk, hp, _⟩ := List.findIdx?_eq_some_iff_getElem.mp hf
      obtain ⟨part, hz⟩ := in_zip D.len (List.getElem_mem hk)
      have okk := oke _ hz
      refine List.any_eq_true.mpr ⟨_, hz, List.all_eq_true.mpr fun e he => ?_⟩
      obtain ⟨i1, i2⟩ := litN_in.mp (List.of_mem_zip (a := e.1) (b := e.2) he).1
      have i1 : e.1 < ps[k].length := i1
      have i2 : ps[k].getD e.1 45 ≠ 45 := i2
      have lk := okk.1
      have e1 : ps[k][e.1]? = some (ps[k].getD e.1 45) := by rw [List.getD_eq_getElem?_getD, List.getElem?_eq_getElem i1]; rfl
      have e2 := cube_at (a := a) (b := b) (i := e.1) (by omega) (by omega)
      unfold okL
      rw [decide_eq_true_iff]
      rcases hall_iff.mp hp e.1 _ _ e1 e2 with z | z
      · exact absurd z i2
      · by_cases y : a.getD e.1 0 = b.getD e.1 0
        · rw [if_pos y] at z
          rw [← y]
          show wS (if t < e.2 then _ else _) = ps[k].getD e.1 45
          rw [z]
          split <;> rfl
        · rw [if_neg y] at z
          exact absurd z i2
    rw [hit (-1), fl_const ts fun t _ => hit t]
    exact Int.le_refl _
  | none =>
    rw [if_neg (by decide)]
    let A : Int → Bool := fun t => (ps.zip ds).any fun e => hrow e.1 a && hat e.1 e.2 a b t
    let B : Int → Bool := fun t => (ps.zip ds).any fun e => hrow e.1 b && hat e.1 e.2 a b t
    let R : Int → Bool := fun t => (ps.zip ds).any fun e => (!hrow e.1 a && !hrow e.1 b) && hat e.1 e.2 a b t
    have ew : ∀ t, wrt ps ds a b t = (A t || (B t || R t)) := by
      intro t
      rw [Bool.eq_iff_iff, Bool.or_eq_true, Bool.or_eq_true]
      show (wrt ps ds a b t = true) ↔ ((ps.zip ds).any _ = true ∨ (ps.zip ds).any _ = true ∨ (ps.zip ds).any _ = true)
      unfold wrt
      rw [List.any_eq_true, List.any_eq_true, List.any_eq_true, List.any_eq_true]
      constructor
      · rintro ⟨e, he, g⟩
        by_cases ha : hrow e.1 a = true
        · exact .inl ⟨e, he, by rw [ha, g]; rfl⟩
        · by_cases hb : hrow e.1 b = true
          · exact .inr (.inl ⟨e, he, by rw [hb, g]; rfl⟩)
          · exact .inr (.inr ⟨e, he, by rw [Bool.eq_false_iff.mpr ha, Bool.eq_false_iff.mpr hb, g]; rfl⟩)
      · rintro (⟨e, he, g⟩ | ⟨e, he, g⟩ | ⟨e, he, g⟩)
        · exact ⟨e, he, (Bool.and_eq_true_iff.mp g).2⟩
        · exact ⟨e, he, (Bool.and_eq_true_iff.mp g).2⟩
        · exact ⟨e, he, (Bool.and_eq_true_iff.mp g).2⟩
    have hA : ((-1 : Int) :: ts).Pairwise (fun s t => A t = true → A s = true) := rise.imp fun {s t} lt g => by
      obtain ⟨e, he, k⟩ := List.any_eq_true.mp g
      obtain ⟨k1, k2⟩ := Bool.and_eq_true_iff.mp k
      exact List.any_eq_true.mpr ⟨e, he, by rw [k1, hat_anti (by rw [(oke e he).1, la]) k1 (Int.le_of_lt lt) k2]; rfl⟩
    have hB : ((-1 : Int) :: ts).Pairwise (fun s t => B s = true → B t = true) := rise.imp fun {s t} lt g => by
      obtain ⟨e, he, k⟩ := List.any_eq_true.mp g
      obtain ⟨k1, k2⟩ := Bool.and_eq_true_iff.mp k
      exact List.any_eq_true.mpr ⟨e, he, by rw [k1, hat_mono (by rw [(oke e he).1, lb]) k1 (Int.le_of_lt lt) k2]; rfl⟩
    have nA : fl (A (-1)) (ts.map A) ≤ if toldM ps a = true then 1 else 0 := by
      refine Nat.le_trans (fl_anti ts (-1) hA) ?_
      by_cases z : A (-1) = true
      · rw [if_pos z, if_pos ?_]
        · exact Nat.le_refl _
        · obtain ⟨e, he, k⟩ := List.any_eq_true.mp z
          exact List.any_eq_true.mpr ⟨e.1, (List.of_mem_zip (a := e.1) (b := e.2) he).1, (Bool.and_eq_true_iff.mp k).1⟩
      · rw [if_neg z]
        exact Nat.zero_le _
    have nB : fl (B (-1)) (ts.map B) ≤ if toldM ps b = true then 1 else 0 := by
      by_cases z : toldM ps b = true
      · rw [if_pos z]
        refine Nat.le_trans (fl_mono ts (-1) hB) ?_
        split <;> decide
      · have no : ∀ t, B t = false := fun t => by
          rw [Bool.eq_false_iff]
          intro g
          obtain ⟨e, he, k⟩ := List.any_eq_true.mp g
          exact z (List.any_eq_true.mpr ⟨e.1, (List.of_mem_zip (a := e.1) (b := e.2) he).1, (Bool.and_eq_true_iff.mp k).1⟩)
        rw [no (-1), fl_const ts fun t _ => no t]
        exact Nat.zero_le _
    have nR : fl (R (-1)) (ts.map R) ≤ 2 * passM a b ps := by
      refine Nat.le_trans (fl_any (g := fun e t => (!hrow e.1 a && !hrow e.1 b) && hat e.1 e.2 a b t) (n := fun e => if flashM a b e.1 = true then 2 else 0) (ps.zip ds) fun e he => ?_) sum_zip
      by_cases z : (!hrow e.1 a && !hrow e.1 b) = true
      · obtain ⟨z1, z2⟩ := Bool.and_eq_true_iff.mp z
        have := hat_pulse (oke e he) ok (D.fit e he) (by simpa using z1) (by simpa using z2) rise
        simpa only [z, Bool.true_and] using this
      · have z' := Bool.eq_false_iff.mpr z
        have no : ∀ t ∈ ts, (fun t => (!hrow e.1 a && !hrow e.1 b) && hat e.1 e.2 a b t) t = false := fun t _ => by
          show ((!hrow e.1 a && !hrow e.1 b) && _) = false
          rw [z']
          rfl
        have k := fl_const ts no
        simp only [z', Bool.false_and] at k ⊢
        rw [k]
        exact Nat.zero_le _
    have o1 := fl_op (fun x y => x || y) A (fun t => B t || R t) ts (-1)
    have o2 := fl_op (fun x y => x || y) B R ts (-1)
    have e2 : ts.map (wrt ps ds a b) = ts.map fun t => A t || (B t || R t) := List.map_congr_left fun t _ => ew t
    rw [ew (-1), e2]
    unfold bI
    have cA : (if toldM ps a = true then (1 : Int) else 0) = ((if toldM ps a = true then 1 else 0 : Nat) : Int) := by split <;> rfl
    have cB : (if toldM ps b = true then (1 : Int) else 0) = ((if toldM ps b = true then 1 else 0 : Nat) : Int) := by split <;> rfl
    rw [cA, cB]
    omega
/-- neither gap nor meets: at most one change -/
def badJ (ps : List (List Nat)) (a b : List Int) : Bool := (toldM ps a && toldM ps b && (firstH ps a b).isNone) || (!(toldM ps a && toldM ps b) && (ps.findIdx? (flashM a b)).isSome)
theorem great_one {ps : List (List Nat)} {a b : List Int} (h : badJ ps a b = false) : greatM ps a b ≤ 1 := by
  unfold greatM
  by_cases z : (firstH ps a b).isSome = true
  · rw [if_pos z]
    decide
  · rw [if_neg z]
    have zn : (firstH ps a b).isNone = true := by
      cases h : firstH ps a b with
      | none => rfl
      | some k => rw [h] at z; exact absurd rfl z
    unfold badJ at h
    rw [zn, Bool.and_true] at h
    obtain ⟨h1, h2⟩ := Bool.or_eq_false_iff.mp h
    rw [h1, Bool.not_false, Bool.true_and] at h2
    have nf : passM a b ps = 0 := by
      unfold passM
      rw [List.length_eq_zero_iff, List.filter_eq_nil_iff]
      intro p hp k
      have hn : ps.findIdx? (flashM a b) = none := by
        cases e : ps.findIdx? (flashM a b) with
        | none => rfl
        | some j => rw [e] at h2; cases h2
      have := List.findIdx?_eq_none_iff.mp hn p hp
      rw [this] at k
      cases k
    rw [nf]
    unfold bI
    revert h1
    cases toldM ps a <;> cases toldM ps b <;> simp

end Gk

set_option Elab.async false
set_option linter.all false
set_option maxRecDepth 100000
set_option maxHeartbeats 1000000
set_option pp.maxSteps 900
set_option pp.deepTerms false
namespace Gk
open PySem PySem.Spec PyProof.Rows L2
section
variable {P : Program} {w : World} {K : PySem.W.Frag} {mg : Str → Option Value} {base : Heap}
/-! ### the literals of a product; does it hold at a time -/
theorem int_atI {r : List Int} {i : Nat} (h : i < r.length) : atI (r.map V.int) ((i : Nat) : Int) = some (.int (r.getD i 0)) :=
  atI_nat (by rw [List.getElem?_map, List.getElem?_eq_getElem h, List.getD_eq_getElem?_getD, List.getElem?_eq_getElem h]; rfl)
theorem not_not_dec {q : Prop} [Decidable q] (h : ¬ (!decide q) = true) : q := by
  by_cases z : q
  · exact z
  · rw [decide_eq_false z] at h
    exact absurd rfl h
def natVs (l : List Nat) : List V := l.map fun k => V.int (k : Nat)
def sp_literals_of (K : PySem.W.Frag) : Sp := fun vs H Q _ => ∃ (p : List Nat), vs = [.str (SX.S p)] ∧ p.length ≤ 64 ∧ ∀ L H', Same H H' → H' L = some (.lst (natVs (litN p p.length))) → Q (.ref L) H'
theorem ok_literals_of (T : Tx K mg) : FnOk P w K mg base CX0 1 T.f_literals_of T.fd_literals_of ["product"] (sp_literals_of K) := by
  refine T.F_literals_of.ok sc_literals_of (fun vs H Q E h => ?_) (fun cdv A outer s H vs Q E hr h => ?_)
  · obtain ⟨p, rfl, _⟩ := h
    rfl
  · obtain ⟨p, rfl, l64, q⟩ := h
    refine ⟨_, (pss_one (ps_ret (pe_lc (own := [("place", 1), ("sign", 2)]) (by rfl) sc_literals_of.nd (pi_enumS (by rfl) T.m_enumerate (pa_cons (pv 0) pa_nil)) (blkOk_by (own := [("place", 1), ("sign", 2)]) (N := ["product", "place", "sign"]) (sc := defScope s_literals_of) (by decide +kernel)) (fun _ _ _ _ _ => (show PG _ _ (gTup K 2 _) from pg_tup rfl (pgs_cons (pg_name (i := 1) sc_literals_of.nd rfl (by first | exact .inl rfl | exact .inr rfl)) (pgs_cons (pg_name (i := 2) sc_literals_of.nd rfl (by first | exact .inl rfl | exact .inr rfl)) pgs_nil)))) (fun _ _ _ _ _ => (pts_one (pt_cmpR op_ne (pv 2) pe_str (nomark _)))) (fun _ _ _ _ _ => (pv 1))))), ?_⟩
    refine ⟨.str (SX.S p), rfl, SX.S p, rfl, fun D nD => ?_⟩
    refine lc_enumS (z := SX.S p) (fun i H' => Same H (hd1 D H') ∧ H' D = some (.lst (natVs (litN p i)))) ⟨hd1_of (same_upd nD) nD, upd_same⟩ ?_ ?_
    · rintro i c t H2 hx nt ⟨s2, hD⟩
      have hc := S_at hx
      have hi : i < p.length := (List.getElem?_eq_some_iff.mp hc).1
      have eg : p.getD i 45 = c := by rw [List.getD_eq_getElem?_getD, hc]; rfl
      have ntD : t ≠ D := (ne_of_none hD nt).symm
      have s3 := s2.trans (hd1_same (p := D) (same_upd (o := HO.tup [V.int (i : Nat), V.str (one c)]) nt))
      have hD3 : upd H2 t (HO.tup [V.int (i : Nat), V.str (one c)]) D = some (.lst (natVs (litN p i))) := by rw [upd_ne ntD.symm]; exact hD
      refine ⟨t, _, rfl, SqT.of upd_same, rfl, _, _, rfl, _, _, rfl, rfl, rfl, ?_⟩
      change upd H2 t (HO.tup [V.int (i : Nat), V.str (one c)]) D = _ at hD3
      refine ⟨.str (one c), rfl, rfl, _, rfl, ?_⟩
      rw [str_dec, dash_S, one_inj]
      refine ite2 (fun e => ?_) (fun e => ?_)
      · have nc : c ≠ 45 := by simpa using e
        refine ⟨.int (i : Nat), rfl, _, hD3, ?_, s3.trans hd1_upd, ?_⟩
        · unfold natVs
          rw [List.length_map]
          have := litN_le p i
          exact Nat.lt_of_lt_of_le (show _ < 65 by omega) (by decide)
        · rw [upd_same, litN_succ, eg, if_pos nc]
          unfold natVs
          rw [List.map_append]
          rfl
      · have ec : c = 45 := by simpa using e
        refine ⟨s3, ?_⟩
        rw [litN_succ, eg, if_neg (fun k => k ec), List.append_nil]
        exact hD3
    · rintro H2 ⟨s2, hD⟩
      rw [S_size] at hD
      exact q D H2 (fun b o e => hd1_le _ _ (s2 _ _ e)) hD
theorem nat_at {l : List Nat} {i : Nat} {x : V} (h : (natVs l)[i]? = some x) : ∃ k : Nat, l[i]? = some k ∧ x = V.int (k : Nat) := by
  unfold natVs at h
  rw [List.getElem?_map] at h
  cases hz : l[i]? with
  | none => rw [hz] at h; cases h
  | some u => rw [hz] at h; exact ⟨u, rfl, (Option.some.inj h).symm⟩
def sp_holds_at (K : PySem.W.Frag) : Sp := fun vs H Q _ => ∃ (p : List Nat) (pa c : Addr) (part : List Int) (m : Nat) (a b : List Int) (t : Int), vs = [.str (SX.S p), .ref pa, .ref c, .int t] ∧ ProdOk m p ∧ H pa = some (.tup (part.map V.int)) ∧ part.length = (litN p p.length).length ∧ ChAt H c a b ∧ ChOk m a b ∧ ∀ H', Same H H' → Q (.bl (hat p part a b t)) H'
theorem ok_holds_at (T : Tx K mg) : FnOk P w K mg base CX0 2 T.f_holds_at T.fd_holds_at ["product", "part", "change", "time"] (sp_holds_at K) := by
  refine T.F_holds_at.ok sc_holds_at (fun vs H Q E h => ?_) (fun cdv A outer s H vs Q E hr h => ?_)
  · obtain ⟨p, pa, c, part, m, a, b, t, rfl, _⟩ := h
    rfl
  · obtain ⟨p, pa, c, part, m, a, b, t, rfl, okp, hpa, fit, ⟨ra, rb, hc, ha, hb⟩, ok, q⟩ := h
    refine ⟨_, (pss_cons (ps_asg (pv 2) (pg_tup rfl (pgs_cons (pg_name (i := 4) sc_holds_at.nd rfl (by first | exact .inl rfl | exact .inr rfl)) (pgs_cons (pg_name (i := 5) sc_holds_at.nd rfl (by first | exact .inl rfl | exact .inr rfl)) pgs_nil)))) (pss_cons (ps_for PassesOwn.never rfl (ZpG.pi_zip2 (by rfl) T.m_zip (pa_cons (pe_call (ok_literals_of T) (hr.mono (by decide)) (by rfl) T.g_literals_of T.F_literals_of.kp T.b_literals_of .nil pass0 (pa_cons (pv 0) pa_nil)) (pa_cons (pv 1) pa_nil))) (pg_tup rfl (pgs_cons (pg_name (i := 6) sc_holds_at.nd rfl (by first | exact .inl rfl | exact .inr rfl)) (pgs_cons (pg_name (i := 7) sc_holds_at.nd rfl (by first | exact .inl rfl | exact .inr rfl)) pgs_nil))) (pss_cons (ps_set (i := 8) sc_holds_at.nd rfl (by first | exact .inl rfl | exact .inr rfl) (pe_ifExp (pt_cmpR op_lt (pv 3) (pv 7) (nomark _)) (pe_ix ix_tup (pv 4) (pv 6) (fun _ _ => rfl)) (pe_ix ix_tup (pv 5) (pv 6) (fun _ _ => rfl)))) (pss_one (ps_if (pt_cmpR op_ne (pe_item_str (pv 0) (pv 6) (fun _ _ => rfl)) (pe_callTy call_str_int (by rfl) T.m_str (by decide +kernel) (pa_cons (pv 8) pa_nil)) (nomark _)) (pss_one (ps_ret pe_bl)) pss_nil)))) (pss_one (ps_ret pe_bl)))), ?_⟩
    have lp := okp.1
    have la := ok.la
    have lb := ok.lb
    have m6 := ok.m6
    refine ⟨.ref c, rfl, c, _, rfl, SqT.of hc, rfl, _, _, rfl, _, _, rfl, rfl, ?_⟩
    refine ⟨.str (SX.S p), rfl, p, rfl, by omega, fun L H1 s1 hL => ?_⟩
    have hpa1 := s1 _ _ hpa
    have ha1 := s1 _ _ ha
    have hb1 := s1 _ _ hb
    refine ⟨.ref pa, rfl, .li L, .tu pa, _, _, rfl, SqL.of hL, SqT.of hpa1, ?_⟩
    refine ZpG.for_zip2 (K := K) (n := (litN p p.length).length) (xs1 := natVs (litN p p.length)) (xs2 := part.map V.int) (by unfold natVs; rw [List.length_map]) (by rw [List.length_map, fit]) (fun j σ H' => ∃ y6 y7 y8, σ = [some (.str (SX.S p)), some (.ref pa), some (.ref c), some (.int t), some (.ref ra), some (.ref rb), y6, y7, y8] ∧ Same H H' ∧ H' L = some (.lst (natVs (litN p p.length))) ∧ (((litN p p.length).zip part).take j).all (okL p a b t) = true) ⟨_, _, _, rfl, s1, hL, rfl⟩ (fun j σ H' _ ⟨_, _, _, _, z, zL, _⟩ => ⟨SqL.of zL, SqT.of (z _ _ hpa)⟩) ?_ ?_
    · rintro j x y tt σ H2 hx hy nt ⟨y6, y7, y8, rfl, s2', hL2, ih⟩
      obtain ⟨i, hi, rfl⟩ := nat_at hx
      obtain ⟨d, hd, rfl⟩ := int_at hy
      have ez := zip_take_succ hi hd
      obtain ⟨i1, i2⟩ := litN_in.mp (List.mem_of_getElem? hi)
      have su := same_upd (o := HO.tup [V.int (i : Nat), V.int d]) nt
      have s2 := s2'.trans su
      have hL3 := su _ _ hL2
      refine ⟨tt, _, rfl, SqT.of upd_same, rfl, _, _, rfl, _, _, rfl, rfl, ?_⟩
      revert s2 hL3
      clear su
      generalize upd H2 tt _ = H3
      intro s2 hL3
      have hcp : (SX.S p).cps[(((i : Nat) : Int)).toNat]? = some (p.getD i 45) := by
        show p.toArray[i]? = _
        rw [List.getElem?_toArray, List.getD_eq_getElem?_getD, List.getElem?_eq_getElem i1]
        rfl
      refine ⟨.int t, rfl, .int d, rfl, _, _, rfl, rfl, _, rfl, ?_⟩
      refine ite2 (fun el => ?_) (fun el => ?_)
      · have el : t < d := of_decide_eq_true el
        obtain ⟨x, hx01, hxa, ex⟩ : ∃ x : Int, (x = 0 ∨ x = 1) ∧ atI (a.map V.int) ((i : Nat) : Int) = some (.int x) ∧ x = (if t < d then a.getD i 0 else b.getD i 0) := ⟨a.getD i 0, at01 ok.oa i, int_atI (by omega), by rw [if_pos el]⟩
        refine ⟨.ref ra, rfl, .int (i : Nat), rfl, ra, _, _, _, rfl, rfl, SqT.of (s2 _ _ ha), hxa, ?_⟩
        refine ⟨.str (SX.S p), rfl, .int (i : Nat), rfl, SX.S p, _, p.getD i 45, rfl, rfl, by omega, by omega, (by rw [SX.S_len]; exact_mod_cast i1), hcp, ?_⟩
        refine ⟨.int x, rfl, x, rfl, by rcases hx01 with rfl | rfl <;> decide, ?_⟩
        rw [str01 hx01]
        refine ⟨rfl, _, rfl, ?_⟩
        have ed : decide (V.str ⟨#[p.getD i 45]⟩ = V.str (one (wS x))) = decide (p.getD i 45 = wS x) := by rw [str_dec]; exact one_inj
        rw [ed]
        refine ite2 (fun e => ?_) (fun e => ?_)
        · have e' : okL p a b t (i, d) = false := by
            unfold okL
            rw [decide_eq_false_iff_not]
            dsimp only
            rw [← ex]
            intro k
            rw [decide_eq_true k.symm] at e
            cases e
          have z := q _ s2
          have : hat p part a b t = false := all_stop (f := okL p a b t) ez e'
          rw [this] at z
          exact z
        · have e' : okL p a b t (i, d) = true := by
            unfold okL
            rw [decide_eq_true_iff]
            dsimp only
            rw [← ex]
            have := not_not_dec e
            exact this.symm
          refine ⟨_, _, _, rfl, s2, hL3, ?_⟩
          rw [ez, List.all_append, ih, List.all_cons, e', List.all_nil]
          rfl
      · have el : ¬ t < d := fun k => el (decide_eq_true k)
        obtain ⟨x, hx01, hxa, ex⟩ : ∃ x : Int, (x = 0 ∨ x = 1) ∧ atI (b.map V.int) ((i : Nat) : Int) = some (.int x) ∧ x = (if t < d then a.getD i 0 else b.getD i 0) := ⟨b.getD i 0, at01 ok.ob i, int_atI (by omega), by rw [if_neg el]⟩
        refine ⟨.ref rb, rfl, .int (i : Nat), rfl, rb, _, _, _, rfl, rfl, SqT.of (s2 _ _ hb), hxa, ?_⟩
        refine ⟨.str (SX.S p), rfl, .int (i : Nat), rfl, SX.S p, _, p.getD i 45, rfl, rfl, by omega, by omega, (by rw [SX.S_len]; exact_mod_cast i1), hcp, ?_⟩
        refine ⟨.int x, rfl, x, rfl, by rcases hx01 with rfl | rfl <;> decide, ?_⟩
        rw [str01 hx01]
        refine ⟨rfl, _, rfl, ?_⟩
        have ed : decide (V.str ⟨#[p.getD i 45]⟩ = V.str (one (wS x))) = decide (p.getD i 45 = wS x) := by rw [str_dec]; exact one_inj
        rw [ed]
        refine ite2 (fun e => ?_) (fun e => ?_)
        · have e' : okL p a b t (i, d) = false := by
            unfold okL
            rw [decide_eq_false_iff_not]
            dsimp only
            rw [← ex]
            intro k
            rw [decide_eq_true k.symm] at e
            cases e
          have z := q _ s2
          have : hat p part a b t = false := all_stop (f := okL p a b t) ez e'
          rw [this] at z
          exact z
        · have e' : okL p a b t (i, d) = true := by
            unfold okL
            rw [decide_eq_true_iff]
            dsimp only
            rw [← ex]
            have := not_not_dec e
            exact this.symm
          refine ⟨_, _, _, rfl, s2, hL3, ?_⟩
          rw [ez, List.all_append, ih, List.all_cons, e', List.all_nil]
          rfl
    · rintro σ H2 ⟨y6, y7, y8, rfl, s2, hL2, ih⟩
      have : ((litN p p.length).zip part).length ≤ (litN p p.length).length := by rw [List.length_zip]; omega
      rw [List.take_of_length_le this] at ih
      have z := q H2 s2
      unfold hat at z
      rw [ih] at z
      exact z

end
end Gk

set_option Elab.async false
set_option linter.all false
set_option maxRecDepth 100000
set_option maxHeartbeats 1000000
set_option pp.maxSteps 1500
set_option pp.deepTerms false
namespace Gk
open PySem PySem.Spec PyProof.Rows L2
section
variable {P : Program} {w : World} {K : PySem.W.Frag} {mg : Str → Option Value} {base : Heap}
/-! ### delays on the heap; a cover's worth at a time; the changes -/
def PartsAt (H : Hp) (rs : List Addr) (ds : List (List Int)) : Prop := rs.length = ds.length ∧ ∀ (i : Nat) (r : Addr) (d : List Int), rs[i]? = some r → ds[i]? = some d → H r = some (.tup (d.map V.int))
def DelAt (H : Hp) (c : Addr) (ds : List (List Int)) : Prop := ∃ rs : List Addr, H c = some (.tup (rs.map V.ref)) ∧ PartsAt H rs ds
theorem DelAt.ts {H H' : Hp} {c : Addr} {ds : List (List Int)} (h : DelAt H c ds) (g : ∀ b xs, H b = some (.tup xs) → H' b = some (.tup xs)) : DelAt H' c ds := by
  obtain ⟨rs, h1, h2, h3⟩ := h
  exact ⟨rs, g _ _ h1, h2, fun i r d e1 e2 => g _ _ (h3 i r d e1 e2)⟩
theorem DelAt.gr {H H' : Hp} {c : Addr} {ds : List (List Int)} (h : DelAt H c ds) (g : Gr H H') : DelAt H' c ds := h.ts fun _ _ e => g.tup e
theorem ref_at {rs : List Addr} {i : Nat} {x : V} (h : (rs.map V.ref)[i]? = some x) : ∃ r, rs[i]? = some r ∧ x = V.ref r := by
  rw [List.getElem?_map] at h
  cases hz : rs[i]? with
  | none => rw [hz] at h; cases h
  | some u => rw [hz] at h; exact ⟨u, rfl, (Option.some.inj h).symm⟩
theorem PartsAt.at {H : Hp} {rs : List Addr} {ds : List (List Int)} (h : PartsAt H rs ds) {i : Nat} {r : Addr} (hr : rs[i]? = some r) : ∃ d, ds[i]? = some d ∧ H r = some (.tup (d.map V.int)) := by
  have hi : i < rs.length := (List.getElem?_eq_some_iff.mp hr).1
  have hi2 : i < ds.length := by have := h.1; omega
  exact ⟨ds[i], List.getElem?_eq_getElem hi2, h.2 i r _ hr (List.getElem?_eq_getElem hi2)⟩
def sp_told_at (T : Tx K mg) : Sp := fun vs H Q _ => ∃ (cv da c : Addr) (m : Nat) (ps : List (List Nat)) (ds : List (List Int)) (a b : List Int) (t : Int), vs = [.ref cv, .ref da, .ref c, .int t] ∧ CovAt H cv m ps ∧ CovOk m ps ∧ DelAt H da ds ∧ DelOk ps ds ∧ ChAt H c a b ∧ ChOk m a b ∧ Tabs H T.tabs ∧ ∀ H', Gr H H' → Q (.int (bI (wrt ps ds a b t))) H'
theorem ok_told_at (T : Tx K mg) (B : Tb base T) : FnOk P w K mg base CX0 4 T.f_told_at T.fd_told_at ["cover", "delays", "change", "time"] (sp_told_at T) := by
  refine okC T.F_told_at sc_told_at (fun vs H Q E h => ?_) (fun A outer s H vs Q E hr h => ?_)
  · obtain ⟨cv, da, c, m, ps, ds, a, b, t, rfl, _⟩ := h
    rfl
  · obtain ⟨cv, da, c, m, ps, ds, a, b, t, rfl, ⟨tp, hc, ht⟩, okp, ⟨rs, hda, prt⟩, okd, hch, ok, tabs, q⟩ := h
    refine ⟨_, (pss_one (ps_ret (pe_ifExp (pt_val (pe_anyX (own := [("product", 4), ("part", 5)]) (k := 2) (hr.mono (by decide)) rfl sc_told_at.nd (by rfl) T.m_any (by decide +kernel) B.TB_told_at T.cd_told_at rfl rfl (by decide +kernel) (blkOk_by (own := [("product", 4), ("part", 5)]) (N := ["cover", "delays", "change", "time", "product", "part"]) (sc := defScope s_told_at) (by decide +kernel)) (ZpG.pi_zip2 (by rfl) T.m_zip (pa_cons (pe_ix ix_tup (pv 0) pe_int (fun _ _ => rfl)) (pa_cons (pv 1) pa_nil))) (fun _ _ _ _ _ _ _ hr gd => (show PG _ _ (gTup K 2 _) from pg_tup rfl (pgs_cons (pg_name (i := 4) sc_told_at.nd rfl (by first | exact .inl rfl | exact .inr rfl)) (pgs_cons (pg_name (i := 5) sc_told_at.nd rfl (by first | exact .inl rfl | exact .inr rfl)) pgs_nil)))) (fun _ _ _ _ _ _ _ hr gd => pts_nil) (fun _ _ _ _ _ _ _ hr gd => (pe_call (ok_holds_at T) (hr.mono (by decide)) (by rfl) T.g_holds_at T.F_holds_at.kp T.b_holds_at .nil pass0 (pa_cons (pv 4) (pa_cons (pv 5) (pa_cons (pv 2) (pa_cons (pv 3) pa_nil)))))) (fun _ => rfl))) pe_int pe_int))), ?_⟩
    have tab : GxR.TabG H T.P_told_at := tabs _ (by simp [Tx.tabs])
    have lr : rs.length = ps.length := by rw [prt.1, okd.len]
    have lV : (pVs ps).length = ps.length := by unfold pVs; rw [List.length_map]
    refine ⟨.ref cv, rfl, cv, _, _, .ref tp, rfl, rfl, SqT.of hc, rfl, .ref da, rfl, .tu tp, .tu da, _, _, rfl, SqT.of ht, SqT.of hda, tab, fun H2 tb2 => ?_⟩
    have g2 := Gr.tab tab tb2
    refine ZpG.gx_zip2 (K := K) (n := ps.length) (xs1 := pVs ps) (xs2 := rs.map V.ref) lV (by rw [List.length_map, lr]) (fun j _ H' => Gr H H' ∧ ((ps.zip ds).take j).any (fun e => hat e.1 e.2 a b t) = false) ⟨g2, rfl⟩ (fun j _ H' _ z => ⟨SqT.of (z.1.tup ht), SqT.of (z.1.tup hda)⟩) ?_ ?_
    · rintro j x y tt _ H' hx hy nt ⟨g, ih⟩
      obtain ⟨p, hp, rfl⟩ := pV_at hx
      obtain ⟨r, hr', rfl⟩ := ref_at hy
      obtain ⟨d, hd, hrd⟩ := prt.at hr'
      have ez := zip_take_succ hp hd
      have hz : (ps.zip ds)[j]? = some (p, d) := by rw [List.getElem?_zip_eq_some]; exact ⟨hp, hd⟩
      have hm := List.mem_of_getElem? hz
      have g' := g.trans (Gr.none (o := .tup [V.str (SX.S p), V.ref r]) nt)
      refine ⟨tt, _, rfl, SqT.of upd_same, rfl, _, _, rfl, _, _, rfl, rfl, rfl, ?_⟩
      refine ⟨.str (SX.S p), rfl, .ref r, rfl, .ref c, rfl, .int t, rfl, p, r, c, d, m, a, b, t, rfl, okp p (List.mem_of_getElem? hp), g'.tup hrd, okd.fit _ hm, hch.gr g', ok, fun H3 s3 => ?_⟩
      have g3 := g'.trans (Gr.of s3)
      refine ⟨_, rfl, ite2 (fun e => ?_) (fun e => ⟨g3, ?_⟩)⟩
      · refine ⟨true, rfl, iteT ?_⟩
        have z := q H3 g3
        have e' : wrt ps ds a b t = true := any_stop hz e
        rw [e'] at z
        exact z
      · rw [ez, List.any_append, ih]
        simpa using e
    · rintro _ H' ⟨g, ih⟩
      refine ⟨false, rfl, iteF ?_⟩
      have : (ps.zip ds).length ≤ ps.length := by rw [List.length_zip]; omega
      rw [List.take_of_length_le this] at ih
      have z := q H' g
      unfold wrt at z
      rw [ih] at z
      exact z
theorem bI_par (x : Bool) (n : Nat) : bI (par x (n + 1)) = 1 - bI (par x n) := by
  rw [par_succ]
  cases par x n <;> rfl
theorem bI_inj {x y : Bool} : decide (V.int (bI x) = V.int (bI y)) = decide (x = y) := by cases x <;> cases y <;> rfl
def FewD (ds : List (List Int)) : Prop := ds.length ≤ 16 ∧ ∀ d ∈ ds, d.length ≤ 6
theorem flat_le : ∀ {ds : List (List Int)} {n : Nat}, (∀ d ∈ ds, d.length ≤ n) → ds.flatten.length ≤ ds.length * n
  | [], _, _ => Nat.zero_le _
  | d :: ds, n, h => by
    have ih := flat_le (ds := ds) fun u hu => h u (List.mem_cons_of_mem _ hu)
    have k := h d List.mem_cons_self
    rw [List.flatten_cons, List.length_append, List.length_cons, Nat.succ_mul]
    omega
theorem FewD.flat {ds : List (List Int)} (h : FewD ds) : (delL ds).length ≤ 96 := by
  have := flat_le h.2
  have h1 := h.1
  have : ds.length * 6 ≤ 16 * 6 := Nat.mul_le_mul_right _ h1
  unfold delL
  omega
def waveT (ps : List (List Nat)) (ds : List (List Int)) (a b : List Int) (ts : List Int) : List Int := walkW (wrt ps ds a b) (toldM ps a) ts
theorem walk_size (f : Int → Bool) (x : Bool) : ∀ ts acc : List Int, (ts.foldl (stepW f x) acc).length ≤ acc.length + ts.length
  | [], _ => Nat.le_refl _
  | t :: ts, acc => by
    have := walk_size f x ts (stepW f x acc t)
    rw [List.foldl_cons, List.length_cons]
    have : (stepW f x acc t).length ≤ acc.length + 1 := by
      unfold stepW
      split
      · omega
      · rw [List.length_append]
        exact Nat.le_refl _
    omega
def sp_cover_wave (T : Tx K mg) : Sp := fun vs H Q _ => ∃ (cv da c : Addr) (m : Nat) (ps : List (List Nat)) (ds : List (List Int)) (a b : List Int), vs = [.ref cv, .ref da, .ref c] ∧ CovAt H cv m ps ∧ CovOk m ps ∧ DelAt H da ds ∧ DelOk ps ds ∧ FewD ds ∧ ChAt H c a b ∧ ChOk m a b ∧ Tabs H T.tabs ∧ ∀ r tr ts H', Gr H H' → ts.Pairwise (· < ·) → (∀ x, x ∈ ts ↔ x ∈ delL ds) → H' tr = some (.tup ((waveT ps ds a b ts).map V.int)) → H' r = some (.tup [.int (bI (toldM ps a)), .ref tr]) → Q (.ref r) H'
theorem ok_cover_wave (T : Tx K mg) (B : Tb base T) : FnOk P w K mg base CX0 6 T.f_cover_wave T.fd_cover_wave ["cover", "delays", "change"] (sp_cover_wave T) := by
  refine T.F_cover_wave.ok sc_cover_wave (fun vs H Q E h => ?_) (fun cdv A outer s H vs Q E hr h => ?_)
  · obtain ⟨cv, da, c, m, ps, ds, a, b, rfl, _⟩ := h
    rfl
  · obtain ⟨cv, da, c, m, ps, ds, a, b, rfl, hcv, okp, hd, okd, few, hch, ok, tabs, q⟩ := h
    refine ⟨_, (pss_cons (ps_set (i := 3) sc_cover_wave.nd rfl (by first | exact .inl rfl | exact .inr rfl) (pe_call (ok_told_of T B) (hr.mono (by decide)) (by rfl) T.g_told_of T.F_told_of.kp T.b_told_of .nil pass0 (pa_cons (pv 0) (pa_cons (pe_ix ix_tup (pv 2) pe_int (fun _ _ => rfl)) pa_nil)))) (pss_cons (ps_set (i := 4) sc_cover_wave.nd rfl (by first | exact .inl rfl | exact .inr rfl) (pv 3)) (pss_cons (ps_set (i := 5) sc_cover_wave.nd rfl (by first | exact .inl rfl | exact .inr rfl) (pe_lst pa_nil)) (pss_cons (ps_for PassesOwn.never rfl (pi_list (pe_callB (SiX.cr_sortIx rfl : CallR _ _ (SiX.rSortIx w)) (by rfl) T.m_sorted (by decide +kernel) (pa_cons (pe_callTy (SiX.call_setIx rfl : CallR _ _ (SiX.rSetIx K w)) (by rfl) T.m_set (by decide +kernel) (pa_cons (pe_lc2 (own := [("part", 7), ("delay", 8)]) (vs1 := [8]) (by rfl) sc_cover_wave.nd (pi_tup (pv 1)) (blkOk_by (own := [("part", 7), ("delay", 8)]) (N := ["cover", "delays", "change", "first", "now", "times", "time", "part", "delay"]) (sc := defScope s_cover_wave) (by decide +kernel)) (by decide) (fun _ _ _ _ _ => (pg_name (i := 7) sc_cover_wave.nd rfl (by first | exact .inl rfl | exact .inr rfl))) (fun _ _ _ _ _ => pts_nil) (fun _ _ _ _ _ => (show PI _ _ _ (iTup K _) from pi_tup (pv 7))) (fun _ _ _ _ _ => (pg_name (i := 8) sc_cover_wave.nd rfl (by first | exact .inl rfl | exact .inr rfl))) (fun _ _ _ _ _ => pts_nil) (fun _ _ _ _ _ => (pv 8))) pa_nil)) pa_nil))) (pg_name (i := 6) sc_cover_wave.nd rfl (by first | exact .inl rfl | exact .inr rfl)) (pss_one (ps_if (pt_cmpR op_ne (pe_call (ok_told_at T B) (hr.mono (by decide)) (by rfl) T.g_told_at T.F_told_at.kp T.b_told_at .nil pass0 (pa_cons (pv 0) (pa_cons (pv 1) (pa_cons (pv 2) (pa_cons (pv 6) pa_nil))))) (pv 4) (nomark _)) (pss_cons (ps_set (i := 4) sc_cover_wave.nd rfl (by first | exact .inl rfl | exact .inr rfl) (pe_op op_sub pe_int (pv 4))) (pss_one (ps_expr (pe_bm PySem.F.plainAttrs_list PySem.F.slot_list_append PySem.F.type_list_append mt_append (pv 5) (pa_cons (pv 6) pa_nil))))) pss_nil))) (pss_one (ps_ret (pe_tup (pa_cons (pv 3) (pa_cons (pe_callTy call_tuple_of (by rfl) T.m_tuple (by decide +kernel) (pa_cons (pv 5) pa_nil)) pa_nil))))))))), ?_⟩
    have m6 := ok.m6
    have ff := few.flat
    obtain ⟨ra, rb, hc, ha, hb⟩ := id hch
    refine ⟨.ref cv, rfl, .ref c, rfl, c, _, 0, .ref ra, rfl, rfl, SqT.of hc, rfl, cv, ra, m, ps, a, rfl, hcv, okp, ha, ok.oa, ok.la, m6, tabs, fun H1 g1 => ?_⟩
    refine ⟨.int (bI (toldM ps a)), rfl, Nat.zero_le _, fun L nL => ?_⟩
    have gL : GrD L H1 (upd H1 L (.lst [])) := GrD.new nL
    have hL : upd H1 L (.lst []) L = some (.lst []) := upd_same
    revert gL hL
    generalize upd H1 L (.lst []) = H2
    intro gL hL
    have gL0 : GrD L H H2 := g1.trans gL
    have g2 := gL0.gr
    have hd2 := hd.gr g2
    obtain ⟨rs, hda, prt⟩ := id hd2
    -- all delays
    refine ⟨.ref da, rfl, da, rfl, ⟨_, SqT.of hda⟩, fun D nD => ?_⟩
    have lrs : rs.length = ds.length := prt.1
    refine ⟨fun k m' H' => m' = rs.length - k ∧ k ≤ rs.length ∧ Same H2 (hd1 D H') ∧ H' D = some (.lst ((ds.take k).flatten.map V.int)), ⟨_, rfl, Nat.zero_le _, hd1_of (same_upd nD) nD, upd_same⟩, ?_⟩
    rintro k m' H3 ⟨rfl, hk, s3, hD⟩
    have hda3 := hd1_le _ _ (s3 _ _ hda)
    by_cases hlt : k < rs.length
    · have hrk : rs[k]? = some rs[k] := List.getElem?_eq_getElem hlt
      obtain ⟨d, hdk, hrd⟩ := prt.at hrk
      have hrd3 := hd1_le _ _ (s3 _ _ hrd)
      have etk : (ds.take (k + 1)).flatten = (ds.take k).flatten ++ d := by
        rw [List.take_add_one, hdk, List.flatten_append]
        show _ ++ [d].flatten = _
        rw [List.flatten_singleton]
      have ld : (ds.take (k + 1)).flatten.length ≤ 96 := by
        have h1 := flat_le (ds := ds.take (k + 1)) (n := 6) fun u hu => few.2 u (List.mem_of_mem_take hu)
        have h2 : (ds.take (k + 1)).length ≤ 16 := by rw [List.length_take]; have := few.1; omega
        have : (ds.take (k + 1)).length * 6 ≤ 16 * 6 := Nat.mul_le_mul_right _ h2
        omega
      rw [etk, List.length_append] at ld
      refine .inr ⟨⟨rs.map V.ref, V.ref rs[k], SqT.of hda3, by rw [List.getElem?_map, hrk]; rfl⟩, fun H' => Same H2 (hd1 D H') ∧ H' D = some (.lst ((ds.take (k + 1)).flatten.map V.int)), fun σ' ⟨z1, z2⟩ => ⟨rs.length - (k + 1), by omega, rfl, by omega, z1, z2⟩, fun x H' hy => ?_⟩
      obtain ⟨rfl, hy⟩ := hy
      have hx2 := hy _ (SqT.of hda3)
      obtain ⟨r', hr', rfl⟩ := ref_at hx2
      cases Option.some.inj (hr'.symm.trans hrk)
      refine ⟨rfl, ?_⟩
      refine ⟨.ref rs[k], rfl, rs[k], rfl, ⟨_, SqT.of hrd3⟩, ?_⟩
      refine ⟨fun j n H' => n = d.length - j ∧ j ≤ d.length ∧ Same H2 (hd1 D H') ∧ H' D = some (.lst (((ds.take k).flatten ++ d.take j).map V.int)), ⟨_, rfl, Nat.zero_le _, s3, by rw [List.take_zero, List.append_nil]; exact hD⟩, ?_⟩
      rintro j n H4 ⟨rfl, hj, s4, hD4⟩
      have hrd4 := hd1_le _ _ (s4 _ _ hrd)
      by_cases hjl : j < d.length
      · have hdj : d[j]? = some d[j] := List.getElem?_eq_getElem hjl
        refine .inr ⟨⟨d.map V.int, V.int d[j], SqT.of hrd4, by rw [List.getElem?_map, hdj]; rfl⟩, fun H' => Same H2 (hd1 D H') ∧ H' D = some (.lst (((ds.take k).flatten ++ d.take (j + 1)).map V.int)), fun σ' ⟨z1, z2⟩ => ⟨d.length - (j + 1), by omega, rfl, by omega, z1, z2⟩, fun y Hn hy => ?_⟩
        obtain ⟨rfl, hy⟩ := hy
        have hy2 := hy _ (SqT.of hrd4)
        rw [List.getElem?_map, hdj] at hy2
        obtain rfl := Option.some.inj hy2
        refine ⟨rfl, V.int d[j], rfl, _, hD4, ?_, s4.trans hd1_upd, ?_⟩
        · rw [List.length_map, List.length_append, List.length_take]
          exact Nat.lt_of_lt_of_le (show _ < 5000 by omega) (by decide)
        · rw [upd_same, List.take_add_one, hdj, ← List.append_assoc, List.map_append (l₁ := _ ++ _)]
          rfl
      · have ej : j = d.length := by omega
        refine .inl ⟨⟨_, SqT.of hrd4, by rw [List.length_map]; omega⟩, s4, ?_⟩
        rw [etk]
        rw [ej, List.take_length] at hD4
        exact hD4
    · have ek : k = rs.length := by omega
      refine .inl ⟨⟨_, SqT.of hda3, by rw [List.length_map]; omega⟩, ?_⟩
      rw [ek, lrs, List.take_length] at hD
      have gD : Gr H2 H3 := Gr.of fun b o e => hd1_le _ _ (s3 _ _ e)
      refine ⟨D, delL ds, rfl, .inl (SqL.of hD), Nat.lt_of_le_of_lt (show _ ≤ 97 by omega) (by decide), fun p np => ?_⟩
      refine ⟨p, delL ds, _, rfl, upd_same, Nat.lt_of_le_of_lt ff (by decide), fun ts M rise mem few2 nM => ?_⟩
      have gM : Gr H2 (upd (upd H3 p (SiX.SetIx w p (delL ds) (delL ds).length)) M (.lst (ts.map V.int))) := (gD.trans (Gr.none np)).trans (Gr.none nM)
      have hM : upd (upd H3 p (SiX.SetIx w p (delL ds) (delL ds).length)) M (.lst (ts.map V.int)) M = some (.lst (ts.map V.int)) := upd_same
      have nLM : M ≠ L := fun z => by
        have := (gD.trans (Gr.none (o := SiX.SetIx w p (delL ds) (delL ds).length) np)).lst hL
        rw [← z, nM] at this
        cases this
      revert gM hM
      generalize upd (upd H3 p _) M _ = H5
      intro gM hM
      have hL5 := gM.lst hL
      have gB : GrD L H H5 := gL0.then hL gM
      refine ⟨M, rfl, ⟨_, SqL.of hM⟩, for_list (K := K) (a := M) (xs := ts.map V.int) (fun i σ H' => ∃ y6 y7 y8, σ = [some (.ref cv), some (.ref da), some (.ref c), some (.int (bI (toldM ps a))), some (.int (bI (par (toldM ps a) (waveT ps ds a b (ts.take i)).length))), some (.ref L), y6, y7, y8] ∧ GrD L H H' ∧ H' M = some (.lst (ts.map V.int)) ∧ H' L = some (.lst ((waveT ps ds a b (ts.take i)).map V.int))) ⟨_, _, _, by
        have e0 : bI (par (toldM ps a) (waveT ps ds a b (ts.take 0)).length) = bI (toldM ps a) := by
          show bI (par (toldM ps a) 0) = _
          unfold par
          cases toldM ps a <;> rfl
        rw [e0]
        rfl, gB, hM, hL5⟩ (fun i σ H' _ ⟨_, _, _, _, _, z, _⟩ => SqL.of z) ?_ ?_⟩
      · rintro i x σ H6 hx ⟨y6, y7, y8, rfl, g6D, hM6, hL6⟩
        have g6 := g6D.gr
        obtain ⟨t, ht, rfl⟩ := int_at hx
        have ew : waveT ps ds a b (ts.take (i + 1)) = stepW (wrt ps ds a b) (toldM ps a) (waveT ps ds a b (ts.take i)) t := walk_take _ _ ts ht
        have lw : (waveT ps ds a b (ts.take i)).length ≤ 96 := by
          have h1 := walk_size (wrt ps ds a b) (toldM ps a) (ts.take i) []
          have h2 : (ts.take i).length ≤ ts.length := by rw [List.length_take]; omega
          unfold waveT walkW
          have h3 : ([] : List Int).length = 0 := rfl
          omega
        refine ⟨.ref cv, rfl, .ref da, rfl, .ref c, rfl, .int t, rfl, cv, da, c, m, ps, ds, a, b, t, rfl, hcv.gr g6, okp, hd.gr g6, okd, hch.gr g6, ok, g6.tabs tabs, fun H7 g7 => ?_⟩
        have g67 := g6D.then hL6 g7
        have hM7 := g7.lst hM6
        have hL7 := g7.lst hL6
        refine ⟨.int (bI (par (toldM ps a) (waveT ps ds a b (ts.take i)).length)), rfl, rfl, _, rfl, ?_⟩
        rw [bI_inj]
        refine ite2 (fun e => ?_) (fun e => ?_)
        · have ne : ¬ wrt ps ds a b t = par (toldM ps a) (waveT ps ds a b (ts.take i)).length := by simpa using e
          have ew2 : waveT ps ds a b (ts.take (i + 1)) = waveT ps ds a b (ts.take i) ++ [t] := by
            rw [ew]
            exact if_neg ne
          refine ⟨.int (bI (par (toldM ps a) (waveT ps ds a b (ts.take i)).length)), rfl, _, _, rfl, rfl, ?_⟩
          refine ⟨.ref L, rfl, .inl ⟨rfl, _, SqL.of hL7⟩, .int t, rfl, L, _, _, rfl, rfl, hL7, ?_, ?_⟩
          · rw [List.length_map]
            exact Nat.lt_of_lt_of_le (show _ < 5000 by omega) (by decide)
          · have nML : M ≠ L := nLM
            refine ⟨some (.int t), y7, y8, ?_, g67.set, by rw [upd_ne nML]; exact hM7, ?_⟩
            · have : bI (par (toldM ps a) (waveT ps ds a b (ts.take (i + 1))).length) = 1 - bI (par (toldM ps a) (waveT ps ds a b (ts.take i)).length) := by
                rw [ew2, List.length_append]
                exact bI_par _ _
              rw [this]
              rfl
            · rw [upd_same, ew2, List.map_append]
              rfl
        · have ew2 : waveT ps ds a b (ts.take (i + 1)) = waveT ps ds a b (ts.take i) := by
            rw [ew]
            exact if_pos (not_not_dec e)
          rw [ew2]
          exact ⟨_, _, _, rfl, g67, hM7, hL7⟩
      · rintro σ H6 ⟨y6, y7, y8, rfl, g6D, hM6, hL6⟩
        have g6 := g6D.gr
        rw [List.length_map, List.take_length] at hL6
        refine ⟨.int (bI (toldM ps a)), rfl, .ref L, rfl, L, _, rfl, .inl ⟨SqL.of hL6, fun t' nt' => ⟨sl2, fun r nr => ?_⟩⟩⟩
        have s5 := same_upd (o := HO.tup ((waveT ps ds a b ts).map V.int)) nt'
        have s6 := same_upd (o := HO.tup [V.int (bI (toldM ps a)), .ref t']) nr
        exact q r t' ts _ (g6.trans (Gr.of (s5.trans s6))) rise mem (s6 _ _ upd_same) upd_same

end
end Gk

set_option Elab.async false
set_option linter.all false
set_option maxRecDepth 100000
set_option maxHeartbeats 3200000
set_option pp.maxSteps 900
namespace Gk
open PySem PySem.Spec PyProof.Rows L2

/-! ### sum(l, []), l a list of lists -/
namespace SumL
open PySem PySem.Spec PyProof.Rows L2
theorem args_sum2 (a b : Value) : argsOk "sum" ⟨[a, b], []⟩ := by unfold argsOk; kernel_rfl
theorem sub_lst_str : isSubtype (.type "list") (.type "str") = pure false := by rw [isSubtype_type]; kernel_rfl
theorem sub_lst_bytes : isSubtype (.type "list") (.type "bytes") = pure false := by rw [isSubtype_type]; kernel_rfl
theorem sub_lst_bytearray : isSubtype (.type "list") (.type "bytearray") = pure false := by rw [isSubtype_type]; kernel_rfl
section
variable {prog : Program} {w : World} {A : Around}
def IsLs (h : Heap) (a : Addr) (xs : Array Value) : Prop := ∃ n, h.get? a = some { cls := .type "list", data := .seq xs n }
theorem IsLs.keep {h h' : Heap} {a : Addr} {xs : Array Value} (x : IsLs h a xs) (k : ∀ o, h.get? a = some o → h'.get? a = some o) : IsLs h' a xs := by
  obtain ⟨n, e⟩ := x
  exact ⟨n, k _ e⟩
/-- what has been summed so far stands at c: it is the start, or new -/
def Good (base : Nat) (e0 : Addr) (c : Addr) (ws : List Value) : Prop := (c = e0 ∧ ws = []) ∨ base ≤ c
theorem loop {R : Result → Shared → Prop} {I S t e0 : Addr} {bs : List Addr} {wss : List (List Value)} {base : Nat} (hh : A.handled = none) (hIt : t ≠ I) (hSI : S ≠ I) (hSt : S ≠ t) (hbS : base ≤ S) (hl : bs.length = wss.length) (hz : wss.flatten.length ≤ sizeLine) (hbI : ∀ b ∈ bs, b ≠ I ∧ b ≠ S) :
    ∀ (k i : Nat) (s : Shared) (c : Addr) (ws : List Value) (cc : Nat), wss.length - i = k → i ≤ wss.length → s.heap.IsListIter I t i → s.heap.IsList t (bs.map Value.ref).toArray → s.heap.get? S = some (lstObj #[.ref c] cc) → c ≠ I → c ≠ S →
      IsLs s.heap c ws.toArray → (∀ (j : Nat) (b : Addr) (us : List Value), bs[j]? = some b → wss[j]? = some us → IsLs s.heap b us.toArray) → ws = (wss.take i).flatten → Good base e0 c ws →
      (∀ h' tk c', (∀ b o, b ≠ I → b ≠ S → s.heap.get? b = some o → h'.get? b = some o) → IsLs h' c' wss.flatten.toArray → Good base e0 c' wss.flatten → R (.ok (.ret (.ref c'))) { s with heap := h', toks := tk }) →
      codeAny (model prog w) A (.builtin "sum.loop" ⟨[.ref I, .ref S, rawInt 2, rawInt 0], []⟩) R s := by
  intro k
  have W := Walks.list (prog := prog) (w := w) (A := A.in1) hh I t hIt (bs.map Value.ref).toArray
  have hsz : (bs.map Value.ref).toArray.size = wss.length := by simp [hl]
  rw [hsz] at W
  have tupKeep : ∀ {h h' : Heap} {b : Addr} {xs : Array Value}, IsLs h b xs → (∀ o, h.get? b = some o → h'.get? b = some o) → IsLs h' b xs := fun x kp => x.keep kp
  induction k with
  | zero =>
    intro i s c ws cc hk hi hit htp hS cI cS hc hp e1 hg hR
    have hin : i = wss.length := by omega
    subst hin
    refine codeAny_builtin F.entry_sum_loop ?_
    rw [Around.under_plainId F.plain_sum_loop _]
    show wpAny _ A.in1 (seqItems? (.ref S) >>= _) _ _ s
    refine wpAny_bind (wpAny_seqItems hS rfl ?_)
    show wpAny _ A.in1 (tryCatch (pyNext (.ref I)) _ >>= _) _ _ s
    refine wpAny_bind (wpAny_tryCatch (W.done s _ _ ⟨hit, htp⟩ fun h' tk hk' => ?_))
    rw [List.take_length] at e1
    subst e1
    exact wpAny_pure (hR h' tk c (fun b o h1 _ e => hk' b o (by simpa using h1) e) (tupKeep hc fun o e => hk' c o (by simpa using cI) e) hg)
  | succ k ih =>
    intro i s c ws cc hk hi hit htp hS cI cS hc hp e1 hg hR
    have hlt : i < wss.length := by omega
    obtain ⟨b, hb⟩ : ∃ b, bs[i]? = some b := ⟨_, List.getElem?_eq_getElem (by omega)⟩
    obtain ⟨us, hu⟩ : ∃ us, wss[i]? = some us := ⟨_, List.getElem?_eq_getElem hlt⟩
    have enext : (wss.take (i + 1)).flatten = ws ++ us := by
      rw [List.take_add_one, hu, List.flatten_append, e1]
      show _ ++ [us].flatten = _
      simp
    have small : ws.length + us.length ≤ sizeLine := by
      have h1 : (wss.take (i + 1)).flatten.length ≤ wss.flatten.length := by
        conv => rhs; rw [← List.take_append_drop (i + 1) wss, List.flatten_append, List.length_append]
        omega
      rw [enext, List.length_append] at h1
      omega
    refine codeAny_builtin F.entry_sum_loop ?_
    rw [Around.under_plainId F.plain_sum_loop _]
    show wpAny _ A.in1 (seqItems? (.ref S) >>= _) _ _ s
    refine wpAny_bind (wpAny_seqItems hS rfl ?_)
    show wpAny _ A.in1 (tryCatch (pyNext (.ref I)) _ >>= _) _ _ s
    refine wpAny_bind (wpAny_tryCatch (W.item i s _ _ hlt ⟨hit, htp⟩ fun v h' tk hP hst' hk' => ?_))
    have ev : v = .ref b := by
      have : (bs.map Value.ref)[i]? = some v := by simpa using hP
      rw [List.getElem?_map, hb] at this
      exact (Option.some.inj this).symm
    subst ev
    have kI : ∀ b o, b ≠ I → s.heap.get? b = some o → h'.get? b = some o := fun b o n e => hk' b o (by simpa using n) e
    have hS' := kI S _ hSI hS
    have hc' : IsLs h' c ws.toArray := tupKeep hc fun o e => kI c o cI e
    have hp' : ∀ (j : Nat) (b : Addr) (us : List Value), bs[j]? = some b → wss[j]? = some us → IsLs h' b us.toArray := fun j b us h1 h2 => tupKeep (hp j b us h1 h2) fun o e => kI b o (hbI b (List.mem_of_getElem? h1)).1 e
    have hb' := hp' i b us hb hu
    have key : ∀ (c2 : Addr) (h2 : Heap) (ws2 : List Value), ws2 = ws ++ us → (∀ b o, h'.get? b = some o → h2.get? b = some o) → IsLs h2 c2 ws2.toArray → c2 ≠ I → c2 ≠ S → Good base e0 c2 ws2 →
        wpAny (model prog w) A.in1 (updateSeq S (fun _ => #[Value.ref c2]) >>= fun _ => letGo [.ref c, .ref b] >>= fun _ => (updateSeq S (fun _ => #[Value.ref c2]) >>= fun _ => again (.builtin "sum.loop" ⟨[.ref I, .ref S, rawInt 2, rawInt 0], []⟩)))
          (fun fin s' => match fin with
            | .done f => R (.ok f) s'
            | .again c' => c'.quiet = true ∧ codeAny (model prog w) A c' R s') (fun e s' => R (.error e) s') { s with heap := h2, toks := tk } := by
      intro c2 h2 ws2 e2 k2 hc2 c2I c2S g2
      have hS2 := k2 _ _ hS'
      refine wpAny_bind (wpAny_updateSeq hS2 rfl ?_)
      have hS3 := Heap.get?_update_self (Obj.mapSeq (fun _ => #[Value.ref c2])) hS2 rfl
      refine wpAny_bind (wpAny_letGo ?_)
      refine wpAny_bind (wpAny_updateSeq hS3 rfl ?_)
      have hS4 := Heap.get?_update_self (Obj.mapSeq (fun _ => #[Value.ref c2])) hS3 rfl
      have k4 : ∀ b o, b ≠ S → h2.get? b = some o → ((h2.update S (Obj.mapSeq (fun _ => #[Value.ref c2]))).update S (Obj.mapSeq (fun _ => #[Value.ref c2]))).get? b = some o := fun b o n e => (Heap.get?_update_other _ _ (Ne.symm n)).trans ((Heap.get?_update_other _ _ (Ne.symm n)).trans e)
      have st4 := W.frame _ _ _ hst' fun b hb o e => k4 b o (fun z => by
        rw [z] at hb
        rcases List.mem_cons.mp hb with z | z
        · exact hSI z
        · exact hSt (List.mem_singleton.mp z)) (k2 b o e)
      refine wpAny_pure ⟨plainId_quiet F.plain_sum_loop _, ih (i + 1) _ c2 ws2 _ (by omega) hlt st4.1 st4.2 hS4 c2I c2S (tupKeep hc2 fun o e => k4 _ o c2S e) (fun j b us h1 h3 => tupKeep (hp' j b us h1 h3) fun o e => k4 _ o (hbI b (List.mem_of_getElem? h1)).2 (k2 _ _ e)) (by rw [enext, e2]) g2 fun h'' tk'' c' kk tt gg => ?_⟩
      exact hR h'' tk'' c' (fun b o n1 n2 e => kk b o n1 n2 (k4 b o n2 (k2 b o (kI b o n1 e)))) tt gg
    show wpAny _ A.in1 ((holding [.ref b] (binaryOp .Add (.ref c) (.ref b))).attempt >>= _) _ _ _
    refine wpAny_bind (wpAny_attempt (wpAny_holding ?_))
    obtain ⟨n1, l1⟩ := hc'
    obtain ⟨n2, l2⟩ := hb'
    have hSl := Heap.lt_size hS'
    obtain ⟨oI, hoI, _⟩ := hst'.1
    have hIl := Heap.lt_size hoI
    have ea : ws.toArray ++ us.toArray = (ws ++ us).toArray := by simp
    refine PySem.P.add_list (s := { s with heap := h', toks := tk }) l1 l2 ?_ (by rw [List.size_toArray, List.size_toArray]; exact small)
    rw [ea]
    exact key h'.objs.size (h'.push { cls := .type "list", data := .seq (ws ++ us).toArray }) (ws ++ us) rfl (fun b o e => Heap.get?_push_of_some _ e) ⟨_, Heap.get?_push_size _ rfl⟩ (Nat.ne_of_gt hIl) (Nat.ne_of_gt hSl) (.inr (Nat.le_trans hbS (Nat.le_of_lt hSl)))
end
def rSumL (K : PySem.W.Frag) : List V → Hp → VK → Prop := fun vs H Q => ∃ (t e : Addr) (bs : List Addr) (xss : List (List V)), vs = [.ref t, .ref e] ∧ H t = some (.lst (bs.map V.ref)) ∧ H e = some (.lst []) ∧ bs.length = xss.length ∧ (∀ (j : Nat) (b : Addr) (xs : List V), bs[j]? = some b → xss[j]? = some xs → H b = some (.lst xs)) ∧ xss.flatten.length ≤ sizeLine ∧
  ∀ p H', Same H H' → H' p = some (.lst xss.flatten) → Q (.ref p) H'
theorem vals_refs : ∀ {bs : List Addr} {us : List Value}, Vals (bs.map V.ref) us → us = bs.map Value.ref
  | [], _, .nil => rfl
  | b :: r, _, .cons h t => by
    cases h
    rw [List.map_cons, vals_refs t]
theorem vals_flat : ∀ {xss : List (List V)} {wss : List (List Value)}, xss.length = wss.length → (∀ (j : Nat) (xs : List V) (ws : List Value), xss[j]? = some xs → wss[j]? = some ws → Vals xs ws) → Vals xss.flatten wss.flatten
  | [], [], _, _ => .nil
  | xs :: r, ws :: r', hl, h => by
    rw [List.flatten_cons, List.flatten_cons]
    exact (h 0 xs ws rfl rfl).append (vals_flat (by simpa using hl) fun j a b h1 h2 => h (j + 1) a b h1 h2)
section
variable {X : Cx}
theorem parts {pins : List (Addr × Obj)} {σ : L2.St} {H : Hp} {s : Shared} (I : Inv X pins σ H s) : ∀ (bs : List Addr) (xss : List (List V)), bs.length = xss.length → (∀ (j : Nat) (b : Addr) (xs : List V), bs[j]? = some b → xss[j]? = some xs → H b = some (.lst xs)) →
    ∃ wss : List (List Value), wss.length = xss.length ∧ (∀ (j : Nat) (xs : List V) (ws : List Value), xss[j]? = some xs → wss[j]? = some ws → Vals xs ws) ∧ ∀ (j : Nat) (b : Addr) (ws : List Value), bs[j]? = some b → wss[j]? = some ws → IsLs s.heap b ws.toArray
  | [], [], _, _ => ⟨[], rfl, fun j xs ws h => by simp at h, fun j b ws h => by simp at h⟩
  | b :: r, xs :: r', hl, h => by
    obtain ⟨wss, h1, h2, h3⟩ := parts I r r' (by simpa using hl) fun j a b z1 z2 => h (j + 1) a b z1 z2
    obtain ⟨z, its, n, rv, hl', p⟩ := I.lstM (h 0 b xs rfl rfl)
    refine ⟨its :: wss, by rw [List.length_cons, List.length_cons, h1], fun j ys ws e1 e2 => ?_, fun j c ws e1 e2 => ?_⟩
    · cases j with
      | zero =>
        cases Option.some.inj e1
        cases Option.some.inj e2
        exact rv
      | succ j => exact h2 j ys ws e1 e2
    · cases j with
      | zero =>
        cases Option.some.inj e1
        cases Option.some.inj e2
        exact ⟨n, p⟩
      | succ j => exact h3 j c ws e1 e2
theorem cr_sumL (hcalm : X.calm = true) : CallR X (.builtin "sum") (rSumL X.K) := by
  intro pins s σ H vs us Q I r h
  obtain ⟨t, e, bs, xss, rfl, ht, he, hl, hp, hz, q⟩ := h
  obtain ⟨z1, its, n1, rv, hl1, pt0⟩ := I.lstM ht
  obtain ⟨z2, es, n2, re, hl2, pe0⟩ := I.lstM he
  cases re
  cases r with
  | cons r1 r2 =>
  cases r2 with
  | cons r3 r4 =>
  cases r4
  cases r1
  cases r3
  have ei := vals_refs rv
  subst ei
  have pt : s.heap.IsList t (bs.map Value.ref).toArray := ⟨_, pt0, rfl, _, rfl⟩
  have pe : IsLs s.heap e ([] : List Value).toArray := ⟨n2, pe0⟩
  obtain ⟨wss, w1, w2, w3⟩ := parts I bs xss hl hp
  have vf : Vals xss.flatten wss.flatten := vals_flat w1.symm w2
  have eb : e ≠ s.heap.objs.size := by
    exact Nat.ne_of_lt (Heap.lt_size pe0)
  have tb : t ≠ s.heap.objs.size := by
    obtain ⟨o, ho, _⟩ := id pt
    exact Nat.ne_of_lt (Heap.lt_size ho)
  refine call_function_tree F.kind_sum F.plain_sum F.entry_sum (args_sum2 _ _) ?_
  unfold Builtin.«sum»
  simp only [List.length_cons, List.length_nil]
  rw [if_neg (by decide)]
  refine wpAny_bind (wpAny_of_eq (show Builtin.Builtins.bindParams "sum" ["start"] 0 ⟨[.ref e], []⟩ = pure [some (.ref e)] from rfl) ?_)
  refine wpAny_bind (wpAny_pyIter_list pt ?_)
  refine wpAny_bind (wpAny_pure ?_)
  simp only [List.forIn_cons, List.forIn_nil]
  have kp : ∀ b o, s.heap.get? b = some o → (s.heap.push { cls := .type "list_iterator", data := .fields #[.ref t, .int 0 0] }).get? b = some o := fun b o z => Heap.get?_push_of_some _ z
  have pe1 : IsLs (s.heap.push { cls := .type "list_iterator", data := .fields #[.ref t, .int 0 0] }) e ([] : List Value).toArray := pe.keep fun o z => kp _ _ z
  have hTe : Shared.TypeIs { s with heap := s.heap.push { cls := .type "list_iterator", data := .fields #[.ref t, .int 0 0] } } (.ref e) "list" := by
    obtain ⟨n, z⟩ := pe1
    exact ⟨_, z, rfl⟩
  refine wpAny_bind (wpAny_bind (wpAny_bind (wpAny_isInstance (T := "list") (b := false) hTe sub_lst_str ?_)))
  simp only [Bool.false_eq_true, if_false]
  refine wpAny_pure (wpAny_bind (wpAny_bind (wpAny_isInstance (T := "list") (b := false) hTe sub_lst_bytes ?_)))
  simp only [Bool.false_eq_true, if_false]
  refine wpAny_pure (wpAny_bind (wpAny_bind (wpAny_isInstance (T := "list") (b := false) hTe sub_lst_bytearray ?_)))
  simp only [Bool.false_eq_true, if_false]
  refine wpAny_pure (wpAny_pure ?_)
  refine wpAny_bind (wpAny_newObj_type ?_)
  have kp2 : ∀ b o, s.heap.get? b = some o → ((s.heap.push { cls := .type "list_iterator", data := .fields #[.ref t, .int 0 0] }).push { cls := .type "list", data := .seq [Value.ref e].toArray }).get? b = some o := fun b o z => Heap.get?_push_of_some _ (kp b o z)
  have hsz : (s.heap.push { cls := .type "list_iterator", data := .fields #[.ref t, .int 0 0] }).objs.size = s.heap.objs.size + 1 := Heap.size_push _ _
  have ISne : (s.heap.push { cls := .type "list_iterator", data := .fields #[.ref t, .int 0 0] }).objs.size ≠ s.heap.objs.size := by rw [hsz]; exact Nat.succ_ne_self _
  have bl : ∀ b ∈ bs, b < s.heap.objs.size := fun b hb => by
    obtain ⟨j, hj⟩ := List.getElem?_of_mem hb
    obtain ⟨ws, hws⟩ : ∃ ws, wss[j]? = some ws := ⟨_, List.getElem?_eq_getElem (by have := (List.getElem?_eq_some_iff.mp hj).1; omega)⟩
    obtain ⟨n, ho⟩ := w3 j b ws hj hws
    exact Heap.lt_size ho
  have tk : ∀ {b : Addr} {xs : Array Value}, IsLs s.heap b xs → IsLs ((s.heap.push { cls := .type "list_iterator", data := .fields #[.ref t, .int 0 0] }).push { cls := .type "list", data := .seq [Value.ref e].toArray }) b xs := fun x => x.keep fun o z => kp2 _ _ z
  have hIl : s.heap.objs.size < (s.heap.push { cls := .type "list_iterator", data := .fields #[.ref t, .int 0 0] }).objs.size := by rw [hsz]; exact Nat.lt_succ_self _
  have tl : t < s.heap.objs.size := by
    obtain ⟨o, ho, _⟩ := id pt
    exact Heap.lt_size ho
  have el : e < s.heap.objs.size := by
    exact Heap.lt_size pe0
  refine wpAny_pure ⟨plainId_quiet F.plain_sum_loop _, loop (base := s.heap.objs.size) (t := t) (e0 := e) (bs := bs) (wss := wss) (I.ok.hd hcalm) tb ISne (Nat.ne_of_gt (Nat.lt_trans tl hIl)) (Nat.le_of_lt hIl) (by omega) (by rw [← vf.length]; exact hz) (fun b hb => ⟨Nat.ne_of_lt (bl b hb), Nat.ne_of_lt (Nat.lt_trans (bl b hb) hIl)⟩) _ 0 _ e [] 0 rfl (Nat.zero_le _)
    ⟨_, Heap.get?_push_of_some _ (Heap.get?_push_size _ rfl), rfl, rfl⟩ (pt.at fun o z => kp2 _ _ z) (Heap.get?_push_size _ rfl) eb (Nat.ne_of_lt (Nat.lt_trans el hIl)) (tk pe) (fun j b us h1 h2 => tk (w3 j b us h1 h2)) rfl (.inl ⟨rfl, rfl⟩) fun h' tk' c' kk tt gg => ?_⟩
  have kk' : ∀ b o, s.heap.get? b = some o → h'.get? b = some o := fun b o z => kk b o (Nat.ne_of_lt (Heap.lt_size z)) (Nat.ne_of_lt (Nat.lt_trans (Heap.lt_size z) hIl)) (kp2 b o z)
  rcases gg with ⟨rfl, hnil⟩ | hnew
  · refine ⟨.ref c', H, I.kept kk', rfl, q c' H (Same.refl _) ?_⟩
    have : xss.flatten = [] := by
      have := vf.length
      rw [hnil] at this
      exact List.eq_nil_of_length_eq_zero this
    rw [this]
    exact he
  · obtain ⟨nn, tt⟩ := tt
    exact ⟨.ref c', upd H c' (.lst xss.flatten), I.laid (t' := tk') kk' hnew ⟨hz, _, nn, vf, tt⟩, rfl, q c' _ (same_upd (I.hok.fresh hnew)) upd_same⟩
end
end SumL

end Gk

set_option Elab.async false
set_option linter.all false
set_option maxRecDepth 100000
set_option maxHeartbeats 1000000
set_option pp.maxSteps 1500
set_option pp.deepTerms false
namespace Gk
open PySem PySem.Spec PyProof.Rows L2
section
variable {P : Program} {w : World} {K : PySem.W.Frag} {mg : Str → Option Value} {base : Heap}
/-! ### the law's own: worth at a time, the changes -/
def sgI (c : Nat) : Int := if c = 49 then 1 else 0
theorem int_sg {c : Nat} (h : c = 48 ∨ c = 49) : PySem.intText? (one c) = some (sgI c) := by
  rcases h with rfl | rfl <;> decide +kernel
theorem x_sg {c : Nat} {x : Int} (h : c = 48 ∨ c = 49) (hx : x = 0 ∨ x = 1) : decide (V.int x = V.int (sgI c)) = decide (wS x = c) := by
  rw [int_dec]
  rcases h with rfl | rfl <;> rcases hx with rfl | rfl <;> decide
theorem bI_mod (x : Bool) (n : Nat) : (bI x + (n : Int)) % 2 = bI (par x n) := by
  unfold par bI
  rcases Nat.mod_two_eq_zero_or_one n with h | h <;> cases x <;> simp [h] <;> omega
theorem bI_dec {w x : Bool} {n : Nat} : decide (V.int (bI w) = V.int ((bI x + (n : Int)) % 2)) = decide (w = par x n) := by
  have e := bI_mod x n
  generalize (bI x + (n : Int)) % 2 = k at e ⊢
  subst e
  exact bI_inj
def sp_worth (K : PySem.W.Frag) : Sp := fun vs H Q _ => ∃ (cv da c : Addr) (m : Nat) (ps : List (List Nat)) (ds : List (List Int)) (a b : List Int) (t : Int), vs = [.ref cv, .ref da, .ref c, .int t] ∧ CovAt H cv m ps ∧ CovOk m ps ∧ DelAt H da ds ∧ DelOk ps ds ∧ ChAt H c a b ∧ ChOk m a b ∧ ∀ H', Same H H' → Q (.int (bI (wrt ps ds a b t))) H'
theorem ok_worth (T : Tx K mg) : FnOk P w K mg base CX0 1 T.f_worth T.fd_worth ["_law_cover_here", "_law_delays_here", "_law_change_here", "_law_time"] (sp_worth K) := by
  refine T.F_worth.ok sc_worth (fun vs H Q E h => ?_) (fun cdv A outer s H vs Q E hr h => ?_)
  · obtain ⟨cv, da, c, m, ps, ds, a, b, t, rfl, _⟩ := h
    rfl
  · obtain ⟨cv, da, c, m, ps, ds, a, b, t, rfl, ⟨tp, hc, ht⟩, okp, ⟨rs, hda, prt⟩, okd, ⟨ra, rb, hch, ha, hb⟩, ok, q⟩ := h
    refine ⟨_, (pss_cons (ps_for PassesOwn.never rfl (ZpG.pi_zip2 (by rfl) T.m_zip (pa_cons (pe_ix ix_tup (pv 0) pe_int (fun _ _ => rfl)) (pa_cons (pv 1) pa_nil))) (pg_tup rfl (pgs_cons (pg_name (i := 4) sc_worth.nd rfl (by first | exact .inl rfl | exact .inr rfl)) (pgs_cons (pg_name (i := 5) sc_worth.nd rfl (by first | exact .inl rfl | exact .inr rfl)) pgs_nil))) (pss_cons (ps_set (i := 6) sc_worth.nd rfl (by first | exact .inl rfl | exact .inr rfl) (pe_callTy call_list_of (by rfl) T.m_list (by decide +kernel) (pa_cons (pv 5) pa_nil))) (pss_cons (ps_set (i := 7) sc_worth.nd rfl (by first | exact .inl rfl | exact .inr rfl) pe_bl) (pss_cons (ps_for PassesOwn.never rfl (pi_enumS (by rfl) T.m_enumerate (pa_cons (pv 4) pa_nil)) (pg_tup rfl (pgs_cons (pg_name (i := 8) sc_worth.nd rfl (by first | exact .inl rfl | exact .inr rfl)) (pgs_cons (pg_name (i := 9) sc_worth.nd rfl (by first | exact .inl rfl | exact .inr rfl)) pgs_nil))) (pss_one (ps_if (pt_cmpR op_ne (pv 9) pe_str (nomark _)) (pss_one (ps_set (i := 7) sc_worth.nd rfl (by first | exact .inl rfl | exact .inr rfl) (pe_and (pe_cmpR op_eq (pe_ix ix_tup (pe_ix ix_tup (pv 2) (pe_callTy call_int1 (by rfl) T.m_int (by decide +kernel) (pa_cons (pe_cmpR op_ge (pv 3) (pe_bm PySem.F.plainAttrs_list PySem.F.slot_list_pop PySem.F.type_list_pop mt_popAt (pv 6) (pa_cons pe_int pa_nil)) (nomark _)) pa_nil)) (fun _ _ => rfl)) (pv 8) (fun _ _ => rfl)) (pe_callTy call_int_str (by rfl) T.m_int (by decide +kernel) (pa_cons (pv 9) pa_nil)) (nomark _)) (pe_one (pv 7))))) pss_nil))) (pss_one (ps_if (pt_val (pv 7)) (pss_one (ps_ret pe_int)) pss_nil)))))) (pss_one (ps_ret pe_int))), ?_⟩
    have lr : rs.length = ps.length := by rw [prt.1, okd.len]
    have lV : (pVs ps).length = ps.length := by unfold pVs; rw [List.length_map]
    have la := ok.la
    have lb := ok.lb
    have m6 := ok.m6
    refine ⟨.ref cv, rfl, cv, _, _, .ref tp, rfl, rfl, SqT.of hc, rfl, .ref da, rfl, .tu tp, .tu da, _, _, rfl, SqT.of ht, SqT.of hda, ?_⟩
    refine ZpG.for_zip2 (K := K) (n := ps.length) (xs1 := pVs ps) (xs2 := rs.map V.ref) lV (by rw [List.length_map, lr]) (fun j σ H' => ∃ y4 y5 y6 y7 y8 y9, σ = [some (.ref cv), some (.ref da), some (.ref c), some (.int t), y4, y5, y6, y7, y8, y9] ∧ Same H H' ∧ ((ps.zip ds).take j).any (fun e => hat e.1 e.2 a b t) = false) ⟨_, _, _, _, _, _, rfl, Same.refl H, rfl⟩ (fun j σ H' _ ⟨_, _, _, _, _, _, _, z, _⟩ => ⟨SqT.of (z _ _ ht), SqT.of (z _ _ hda)⟩) ?_ ?_
    · rintro j x y tt σ H1 hx hy nt ⟨y4, y5, y6, y7, y8, y9, rfl, s1', ih⟩
      obtain ⟨p, hp, rfl⟩ := pV_at hx
      obtain ⟨r, hr', rfl⟩ := ref_at hy
      obtain ⟨part, hd, hrd⟩ := prt.at hr'
      have ez := zip_take_succ hp hd
      have hz : (ps.zip ds)[j]? = some (p, part) := by rw [List.getElem?_zip_eq_some]; exact ⟨hp, hd⟩
      have hm := List.mem_of_getElem? hz
      have okp' := okp p (List.mem_of_getElem? hp)
      have fit := okd.fit _ hm
      have lp := okp'.1
      have s1 := s1'.trans (same_upd (o := HO.tup [V.str (SX.S p), V.ref r]) nt)
      refine ⟨tt, _, rfl, SqT.of upd_same, rfl, _, _, rfl, _, _, rfl, rfl, ?_⟩
      revert s1
      generalize upd H1 tt _ = H2
      intro s1
      refine ⟨.ref r, rfl, r, _, rfl, .inr (SqT.of (s1 _ _ hrd)), fun L nL => ?_⟩
      have sL : Same H (hd1 L (upd H2 L (.lst (part.map V.int)))) := s1.trans (hd1_of (same_upd nL) nL)
      have hL : upd H2 L (.lst (part.map V.int)) L = some (.lst (part.map V.int)) := upd_same
      have nLH : ∀ b o, H b = some o → b ≠ L := fun b o e z => by
        have := s1 _ _ e
        rw [z, nL] at this
        cases this
      revert sL hL
      generalize upd H2 L (.lst (part.map V.int)) = H3
      intro sL hL
      refine ⟨.str (SX.S p), rfl, SX.S p, rfl, for_enumS (z := SX.S p) (fun k σ H' => ∃ y8 y9, σ = [some (.ref cv), some (.ref da), some (.ref c), some (.int t), some (.str (SX.S p)), some (.ref r), some (.ref L), some (.bl (((litN p k).zip part).all (okL p a b t))), y8, y9] ∧ Same H (hd1 L H') ∧ H' L = some (.lst ((part.drop (litN p k).length).map V.int))) ⟨_, _, rfl, sL, hL⟩ ?_ ?_⟩
      · rintro k cg T4 σ H4 hcg nT ⟨y8, y9, rfl, s4', hL4'⟩
        have hc' := S_at hcg
        have hk : k < p.length := (List.getElem?_eq_some_iff.mp hc').1
        have eg : p.getD k 45 = cg := by rw [List.getD_eq_getElem?_getD, hc']; rfl
        have okc := okp'.2 cg (List.mem_of_getElem? hc')
        have nTL : T4 ≠ L := (ne_of_none hL4' nT).symm
        have s4 := s4'.trans (hd1_same (p := L) (same_upd (o := HO.tup [V.int (k : Nat), V.str (one cg)]) nT))
        have hL4 : upd H4 T4 (HO.tup [V.int (k : Nat), V.str (one cg)]) L = some (.lst ((part.drop (litN p k).length).map V.int)) := by rw [upd_ne nTL.symm]; exact hL4'
        refine ⟨T4, _, rfl, SqT.of upd_same, rfl, _, _, rfl, _, _, rfl, rfl, ?_⟩
        change Same H (hd1 L (upd H4 T4 (HO.tup [V.int (k : Nat), V.str ⟨#[cg]⟩]))) at s4
        change upd H4 T4 (HO.tup [V.int (k : Nat), V.str ⟨#[cg]⟩]) L = _ at hL4
        revert s4 hL4
        generalize upd H4 T4 _ = H5
        intro s4 hL4
        refine ⟨.str (one cg), rfl, rfl, _, rfl, ?_⟩
        rw [str_dec, dash_S, one_inj]
        have esucc := litN_succ p k
        rw [eg] at esucc
        refine ite2 (fun e => ?_) (fun e => ?_)
        · have nc : cg ≠ 45 := by simpa using e
          have c2 : cg = 48 ∨ cg = 49 := by rcases okc with h | h; exact absurd h nc; exact h
          rw [if_pos nc] at esucc
          have lt : (litN p k).length < part.length := by
            have h1 := litN_mono p (show k + 1 ≤ p.length from hk)
            rw [esucc, List.length_append, List.length_singleton] at h1
            have fit : part.length = (litN p p.length).length := fit
            omega
          obtain ⟨d, hdd⟩ : ∃ d, part[(litN p k).length]? = some d := ⟨_, List.getElem?_eq_getElem lt⟩
          have edrop : part.drop (litN p k).length = d :: part.drop ((litN p k).length + 1) := by
            rw [List.drop_eq_getElem_cons lt]
            congr 1
            rw [List.getElem?_eq_getElem lt] at hdd
            exact Option.some.inj hdd
          have hL5 : H5 L = some (.lst (V.int d :: (part.drop ((litN p k).length + 1)).map V.int)) := by rw [hL4, edrop]; rfl
          have ezip : (litN p (k + 1)).zip part = (litN p k).zip part ++ [(k, d)] := by
            have e1 : part = part.take (litN p k).length ++ (d :: part.drop ((litN p k).length + 1)) := by rw [← edrop, List.take_append_drop]
            have e2 : (litN p k).length = (part.take (litN p k).length).length := by rw [List.length_take]; omega
            rw [esucc]
            conv => lhs; rw [e1]
            rw [List.zip_append e2]
            have e3 : (litN p k).zip part = (litN p k).zip (part.take (litN p k).length) := by
              conv => lhs; rw [← List.append_nil (litN p k), ← List.take_append_drop (litN p k).length part]
              rw [List.zip_append e2]
              simp
            rw [e3]
            rfl
          have elen : (litN p (k + 1)).length = (litN p k).length + 1 := by rw [esucc, List.length_append]; rfl
          have hch5 := hd1_le _ _ (s4 _ _ hch)
          have nch := nLH _ _ hch
          have sP : ∀ o, Same H (hd1 L (upd H5 L o)) := fun o => s4.trans hd1_upd
          obtain ⟨rx, rv, x, hix, hrx, hxa, x01, ex⟩ : ∃ (rx : Addr) (rv : List Int) (x : Int), atI [V.ref ra, .ref rb] (if decide (d ≤ t) = true then 1 else 0) = some (.ref rx) ∧ H rx = some (.tup (rv.map V.int)) ∧ atI (rv.map V.int) ((k : Nat) : Int) = some (.int x) ∧ (x = 0 ∨ x = 1) ∧ x = (if t < d then a.getD k 0 else b.getD k 0) := by
            by_cases z : d ≤ t
            · exact ⟨rb, b, b.getD k 0, by rw [decide_eq_true z]; rfl, hb, int_atI (by omega), at01 ok.ob k, by rw [if_neg (by omega)]⟩
            · exact ⟨ra, a, a.getD k 0, by rw [decide_eq_false z]; rfl, ha, int_atI (by omega), at01 ok.oa k, by rw [if_pos (by omega)]⟩
          have eok : okL p a b t (k, d) = decide (wS x = cg) := by
            unfold okL
            dsimp only
            rw [eg, ← ex]
          refine ⟨.ref c, rfl, .int t, rfl, .ref L, rfl, .inl ⟨rfl, _, SqL.of hL5⟩, L, _, 0, 0, .int d, rfl, rfl, hL5, by decide, by decide, seqIx0 _ _, rfl, _, _, rfl, rfl, .inr ⟨_, rfl, ?_⟩⟩
          have hch6 := hd1_le _ _ (sP (.lst ((V.int d :: (part.drop ((litN p k).length + 1)).map V.int).eraseIdx 0)) _ _ hch)
          have hrx6 := hd1_le _ _ (sP (.lst ((V.int d :: (part.drop ((litN p k).length + 1)).map V.int).eraseIdx 0)) _ _ hrx)
          have fin : upd H5 L (.lst ((V.int d :: (part.drop ((litN p k).length + 1)).map V.int).eraseIdx 0)) L = some (.lst ((part.drop (litN p (k + 1)).length).map V.int)) := by
            rw [upd_same, elen]
            rfl
          have eall : ((litN p (k + 1)).zip part).all (okL p a b t) = (((litN p k).zip part).all (okL p a b t) && decide (wS x = cg)) := by
            rw [ezip, List.all_append, List.all_cons, List.all_nil, Bool.and_true, eok]
          refine ⟨c, _, _, .ref rx, rfl, rfl, SqT.of hch6, hix, .int (k : Nat), rfl, rx, _, _, .int x, rfl, rfl, SqT.of hrx6, hxa, .str (one cg), rfl, _, _, rfl, int_sg c2, (show 1 ≤ 640 by decide), rfl, _, rfl, ?_⟩
          rw [x_sg c2 x01]
          refine ite2 (fun e2 => ⟨.bl _, rfl, ?_⟩) (fun e2 => ?_)
          · rw [e2, Bool.and_true] at eall
            exact ⟨some (.int (k : Nat)), some (.str (one cg)), by rw [eall]; rfl, sP _, fin⟩
          · rw [Bool.eq_false_iff.mpr e2, Bool.and_false] at eall
            exact ⟨some (.int (k : Nat)), some (.str (one cg)), by rw [eall]; rfl, sP _, fin⟩
        · have ec : cg = 45 := by simpa using e
          rw [if_neg (fun k => k ec), List.append_nil] at esucc
          refine ⟨some (.int (k : Nat)), some (.str (one cg)), ?_, s4, by rw [esucc]; exact hL4⟩
          rw [esucc]
          rfl
      · rintro σ H4 ⟨y8, y9, rfl, s4, hL4⟩
        rw [S_size]
        have s4' : Same H H4 := fun b o e => hd1_le _ _ (s4 _ _ e)
        refine ⟨.bl _, rfl, _, rfl, ite2 (fun e => ?_) (fun e => ?_)⟩
        · have z := q _ s4'
          have e' : wrt ps ds a b t = true := any_stop hz e
          rw [e'] at z
          exact z
        · refine ⟨_, _, _, _, _, _, rfl, s4', ?_⟩
          have e' : hat p part a b t = false := Bool.eq_false_iff.mpr e
          rw [ez, List.any_append, ih, Bool.false_or, List.any_cons, List.any_nil, Bool.or_false]
          exact e'
    · rintro σ H1 ⟨y4, y5, y6, y7, y8, y9, rfl, s1, ih⟩
      have : (ps.zip ds).length ≤ ps.length := by rw [List.length_zip]; omega
      rw [List.take_of_length_le this] at ih
      have z := q H1 s1
      unfold wrt at z
      rw [ih] at z
      exact z
def LstsAt (H : Hp) (ls : List Addr) (ds : List (List Int)) : Prop := ls.length = ds.length ∧ ∀ (i : Nat) (r : Addr) (d : List Int), ls[i]? = some r → ds[i]? = some d → H r = some (.lst (d.map V.int))
theorem LstsAt.same {H H' : Hp} {ls : List Addr} {ds : List (List Int)} (h : LstsAt H ls ds) (s : Same H H') : LstsAt H' ls ds := ⟨h.1, fun i r d e1 e2 => s _ _ (h.2 i r d e1 e2)⟩
theorem LstsAt.snoc {H : Hp} {ls : List Addr} {ds : List (List Int)} {r : Addr} {d : List Int} (h : LstsAt H ls ds) (hr : H r = some (.lst (d.map V.int))) : LstsAt H (ls ++ [r]) (ds ++ [d]) := by
  refine ⟨by rw [List.length_append, List.length_append, h.1]; rfl, fun i r' d' e1 e2 => ?_⟩
  by_cases z : i < ls.length
  · rw [List.getElem?_append_left z] at e1
    rw [List.getElem?_append_left (by rw [← h.1]; exact z)] at e2
    exact h.2 i r' d' e1 e2
  · rw [List.getElem?_append_right (by omega)] at e1
    rw [List.getElem?_append_right (by rw [← h.1]; omega), ← h.1] at e2
    obtain ⟨k, hk⟩ : ∃ k, i - ls.length = k := ⟨_, rfl⟩
    rw [hk] at e1 e2
    cases k with
    | zero =>
      cases Option.some.inj e1
      cases Option.some.inj e2
      exact hr
    | succ k => cases e1
def sp_wave (K : PySem.W.Frag) : Sp := fun vs H Q _ => ∃ (cv da c : Addr) (m : Nat) (ps : List (List Nat)) (ds : List (List Int)) (a b : List Int), vs = [.ref cv, .ref da, .ref c] ∧ CovAt H cv m ps ∧ CovOk m ps ∧ DelAt H da ds ∧ DelOk ps ds ∧ FewD ds ∧ ChAt H c a b ∧ ChOk m a b ∧ ∀ r tr us H', Same H H' → us.Pairwise (· < ·) → (∀ x, x ∈ us ↔ x ∈ 0 :: delL ds) → H' tr = some (.tup ((waveT ps ds a b us).map V.int)) → H' r = some (.tup [.int (bI (toldM ps a)), .ref tr]) → Q (.ref r) H'
theorem flat_map (ds : List (List Int)) : (ds.map fun d => d.map V.int).flatten = (delL ds).map V.int := by
  unfold delL
  rw [List.map_flatten]
theorem ok_wave (T : Tx K mg) : FnOk P w K mg base CX0 2 T.f_wave T.fd_wave ["_law_cover_here", "_law_delays_here", "_law_change_here"] (sp_wave K) := by
  refine T.F_wave.ok sc_wave (fun vs H Q E h => ?_) (fun cdv A outer s H vs Q E hr h => ?_)
  · obtain ⟨cv, da, c, m, ps, ds, a, b, rfl, _⟩ := h
    rfl
  · obtain ⟨cv, da, c, m, ps, ds, a, b, rfl, hcv, okp, hd, okd, few, hch, ok, q⟩ := h
    refine ⟨_, (pss_cons (ps_set (i := 3) sc_wave.nd rfl (by first | exact .inl rfl | exact .inr rfl) (pe_call (ok_worth T) (hr.mono (by decide)) (by rfl) T.g_worth T.F_worth.kp T.b_worth .nil pass0 (pa_cons (pv 0) (pa_cons (pv 1) (pa_cons (pv 2) (pa_cons (pe_un un_neg pe_int) pa_nil)))))) (pss_cons (ps_set (i := 4) sc_wave.nd rfl (by first | exact .inl rfl | exact .inr rfl) (pe_lst pa_nil)) (pss_cons (ps_for PassesOwn.never rfl (pi_list (pe_callB (SiX.cr_sortIx rfl : CallR _ _ (SiX.rSortIx w)) (by rfl) T.m_sorted (by decide +kernel) (pa_cons (pe_callTy (SiX.call_setIx rfl : CallR _ _ (SiX.rSetIx K w)) (by rfl) T.m_set (by decide +kernel) (pa_cons (pe_op op_cat (pe_lst (pa_cons pe_int pa_nil)) (pe_callB (SumL.cr_sumL rfl : CallR _ _ (SumL.rSumL K)) (by rfl) T.m_sum (by decide +kernel) (pa_cons (pe_lc (own := [("_law_row_here", 6)]) (by rfl) sc_wave.nd (pi_tup (pv 1)) (blkOk_by (own := [("_law_row_here", 6)]) (N := ["_law_cover_here", "_law_delays_here", "_law_change_here", "_law_first", "_law_times", "_law_time", "_law_row_here"]) (sc := defScope s_wave) (by decide +kernel)) (fun _ _ _ _ _ => (pg_name (i := 6) sc_wave.nd rfl (by first | exact .inl rfl | exact .inr rfl))) (fun _ _ _ _ _ => pts_nil) (fun _ _ _ _ _ => (pe_callTy (show CallR _ _ (rLstK K) from call_list_of) (by rfl) T.m_list (by decide +kernel) (pa_cons (pv 6) pa_nil)))) (pa_cons (pe_lst pa_nil) pa_nil)))) pa_nil)) pa_nil))) (pg_name (i := 5) sc_wave.nd rfl (by first | exact .inl rfl | exact .inr rfl)) (pss_one (ps_if (pt_cmpR op_ne (pe_call (ok_worth T) (hr.mono (by decide)) (by rfl) T.g_worth T.F_worth.kp T.b_worth .nil pass0 (pa_cons (pv 0) (pa_cons (pv 1) (pa_cons (pv 2) (pa_cons (pv 5) pa_nil))))) (pe_op op_mod (pe_op op_add (pv 3) (pe_callB call_len_seq (by rfl) T.m_len PySem.boot_len (pa_cons (pv 4) pa_nil))) pe_int) (nomark _)) (pss_one (ps_expr (pe_bm PySem.F.plainAttrs_list PySem.F.slot_list_append PySem.F.type_list_append mt_append (pv 4) (pa_cons (pv 5) pa_nil)))) pss_nil))) (pss_one (ps_ret (pe_tup (pa_cons (pv 3) (pa_cons (pe_callTy call_tuple_of (by rfl) T.m_tuple (by decide +kernel) (pa_cons (pv 4) pa_nil)) pa_nil)))))))), ?_⟩
    have ff := few.flat
    have w0 : wrt ps ds a b (-1) = toldM ps a := wrt_start okp ok okd fun e he d hd => by have := okd.pos e he d hd; omega
    refine ⟨.ref cv, rfl, .ref da, rfl, .ref c, rfl, _, rfl, cv, da, c, m, ps, ds, a, b, -1, rfl, hcv, okp, hd, okd, hch, ok, fun H1 s1 => ?_⟩
    rw [w0]
    refine ⟨Nat.zero_le _, fun L nL => ?_⟩
    have sL : Same H (hd1 L (upd H1 L (.lst []))) := s1.trans (hd1_of (same_upd nL) nL)
    have hL : upd H1 L (.lst []) L = some (.lst []) := upd_same
    revert sL hL
    generalize upd H1 L (.lst []) = H2
    intro sL hL
    have s2 : Same H H2 := fun b o e => hd1_le _ _ (sL _ _ e)
    have then_ : ∀ {H3 : Hp}, Same H2 H3 → Same H (hd1 L H3) := fun z => sL.trans (hd1_same (p := L) z)
    refine ⟨sl1, fun Z nZ => ?_⟩
    have sZ := same_upd (o := HO.lst [V.int 0]) nZ
    have hZ : upd H2 Z (.lst [V.int 0]) Z = some (.lst [V.int 0]) := upd_same
    revert sZ hZ
    generalize upd H2 Z (.lst [V.int 0]) = H3
    intro sZ hZ
    obtain ⟨rs, hda, prt⟩ := hd.ts fun b xs e => sZ _ _ (s2 _ _ e)
    refine ⟨.ref da, rfl, da, rfl, ⟨_, SqT.of hda⟩, fun D nD => ?_⟩
    refine lc_tup (K := K) (a := da) (xs := rs.map V.ref) (fun i H' => Same H3 (hd1 D H') ∧ ∃ ls : List Addr, H' D = some (.lst (ls.map V.ref)) ∧ LstsAt (hd1 D H') ls (ds.take i)) ⟨hd1_of (same_upd nD) nD, [], upd_same, rfl, fun i r d e1 _ => by simp at e1⟩ (fun i H' _ z => SqT.of (hd1_le _ _ (z.1 _ _ hda))) ?_ ?_
    · rintro i x H4 hx ⟨s4, ls, hD, lsa⟩
      obtain ⟨r, hr', rfl⟩ := ref_at hx
      obtain ⟨d, hdi, hrd⟩ := prt.at hr'
      refine ⟨rfl, .ref r, rfl, r, _, rfl, .inr (SqT.of (hd1_le _ _ (s4 _ _ hrd))), fun l nl => ?_⟩
      have nlD : l ≠ D := (ne_of_none hD nl).symm
      have s5 := hd1_same (p := D) (same_upd (o := HO.lst (d.map V.int)) nl)
      refine ⟨ls.map V.ref, by rw [upd_ne nlD.symm]; exact hD, ?_, (s4.trans s5).trans hd1_upd, ls ++ [l], by rw [upd_same, List.map_append]; rfl, ?_⟩
      · have h1 := lsa.1
        have h2 := few.1
        rw [List.length_take] at h1
        rw [List.length_map]
        exact Nat.lt_of_lt_of_le (show _ < 64 by omega) (by decide)
      · rw [List.take_add_one, hdi]
        refine (((lsa.same s5).same hd1_upd).snoc (r := l) ?_)
        rw [hd1_at nlD, upd_ne nlD, upd_same]
    · rintro H4 ⟨s4, ls, hD, lsa⟩
      rw [List.length_map, prt.1, List.take_length] at lsa
      have s4' : Same H3 H4 := fun b o e => hd1_le _ _ (s4 _ _ e)
      have lsa4 := lsa.same (hd1_le (p := D) (H := H4))
      refine ⟨Nat.zero_le _, fun e0 ne0 => ?_⟩
      have u0 := same_upd (o := HO.lst []) ne0
      refine ⟨D, e0, ls, ds.map fun d => d.map V.int, rfl, u0 _ _ hD, upd_same, by rw [List.length_map]; exact lsa4.1, fun j b' xs h1 h2 => ?_, ?_, fun p H6 s6 hp => ?_⟩
      · rw [List.getElem?_map] at h2
        obtain ⟨d, hdj, rfl⟩ := Option.map_eq_some_iff.mp h2
        exact u0 _ _ (lsa4.2 j b' d h1 hdj)
      · rw [flat_map, List.length_map]
        exact Nat.le_trans ff (by decide)
      rw [flat_map] at hp
      have s36 : Same H3 H6 := (s4'.trans u0).trans s6
      refine ⟨Z, p, _, _, rfl, rfl, s36 _ _ hZ, hp, ?_, fun g ng => ?_⟩
      · rw [List.length_map]
        exact Nat.le_trans (show _ ≤ 128 by simp only [List.length_cons, List.length_nil]; omega) (by decide)
      have eg : [V.int 0] ++ (delL ds).map V.int = (0 :: delL ds).map V.int := rfl
      rw [eg]
      have sg := same_upd (o := HO.lst ((0 :: delL ds).map V.int)) ng
      refine ⟨g, 0 :: delL ds, rfl, .inl (SqL.of upd_same), Nat.lt_of_le_of_lt (show _ ≤ 128 by rw [List.length_cons]; omega) (by decide), fun S nS => ?_⟩
      have sS := same_upd (o := SiX.SetIx w S (0 :: delL ds) (0 :: delL ds).length) nS
      refine ⟨S, 0 :: delL ds, _, rfl, upd_same, Nat.lt_of_le_of_lt (show _ ≤ 128 by rw [List.length_cons]; omega) (by decide), fun us M rise mem few2 nM => ?_⟩
      have sM := same_upd (o := HO.lst (us.map V.int)) nM
      have s2M := sZ.trans (((s36.trans sg).trans sS).trans sM)
      have hM : upd (upd (upd H6 g (.lst ((0 :: delL ds).map V.int))) S (SiX.SetIx w S (0 :: delL ds) (0 :: delL ds).length)) M (.lst (us.map V.int)) M = some (.lst (us.map V.int)) := upd_same
      have nLM : M ≠ L := fun z => by
        have := (sZ.trans ((s36.trans sg).trans sS)) _ _ hL
        rw [← z, nM] at this
        cases this
      clear sg sS sM
      revert s2M hM
      generalize upd (upd (upd H6 g _) S _) M _ = H7
      intro s2M hM
      have hL7 := s2M _ _ hL
      have sB := then_ s2M
      rw [List.length_cons] at few2
      refine ⟨M, rfl, ⟨_, SqL.of hM⟩, for_list (K := K) (a := M) (xs := us.map V.int) (fun i σ H' => ∃ y5 y6, σ = [some (.ref cv), some (.ref da), some (.ref c), some (.int (bI (toldM ps a))), some (.ref L), y5, y6] ∧ Same H (hd1 L H') ∧ H' M = some (.lst (us.map V.int)) ∧ H' L = some (.lst ((waveT ps ds a b (us.take i)).map V.int))) ⟨_, _, rfl, sB, hM, hL7⟩ (fun i σ H' _ ⟨_, _, _, _, z, _⟩ => SqL.of z) ?_ ?_⟩
      · rintro i x σ H8 hx ⟨y5, y6, rfl, s8, hM8, hL8⟩
        obtain ⟨t, ht, rfl⟩ := int_at hx
        have ew : waveT ps ds a b (us.take (i + 1)) = stepW (wrt ps ds a b) (toldM ps a) (waveT ps ds a b (us.take i)) t := walk_take _ _ us ht
        have lw : (waveT ps ds a b (us.take i)).length ≤ 97 := by
          have h1 := walk_size (wrt ps ds a b) (toldM ps a) (us.take i) []
          have h2 : (us.take i).length ≤ us.length := by rw [List.length_take]; omega
          unfold waveT walkW
          have h3 : ([] : List Int).length = 0 := rfl
          omega
        have s8' : Same H H8 := fun b o e => hd1_le _ _ (s8 _ _ e)
        refine ⟨.ref cv, rfl, .ref da, rfl, .ref c, rfl, .int t, rfl, cv, da, c, m, ps, ds, a, b, t, rfl, hcv.gr (Gr.of s8'), okp, hd.gr (Gr.of s8'), okd, hch.gr (Gr.of s8'), ok, fun H9 s9 => ?_⟩
        have hM9 := s9 _ _ hM8
        have hL9 := s9 _ _ hL8
        have s89 := s8.trans (hd1_same (p := L) s9)
        refine ⟨.int (bI (toldM ps a)), rfl, .ref L, rfl, L, _, rfl, .inl (SqL.of hL9), _, _, rfl, rfl, _, _, rfl, rfl, (show (0 : Int) < 2 by decide), rfl, _, rfl, ?_⟩
        dsimp only
        rw [List.length_map, bI_dec]
        refine ite2 (fun e => ?_) (fun e => ?_)
        · have ne : ¬ wrt ps ds a b t = par (toldM ps a) (waveT ps ds a b (us.take i)).length := by simpa using e
          have ew2 : waveT ps ds a b (us.take (i + 1)) = waveT ps ds a b (us.take i) ++ [t] := by
            rw [ew]
            exact if_neg ne
          refine ⟨.ref L, rfl, .inl ⟨rfl, _, SqL.of hL9⟩, .int t, rfl, L, _, _, rfl, rfl, hL9, ?_, ?_⟩
          · rw [List.length_map]
            exact Nat.lt_of_lt_of_le (show _ < 5000 by omega) (by decide)
          · refine ⟨some (.int t), y6, rfl, s89.trans hd1_upd, by rw [upd_ne nLM]; exact hM9, ?_⟩
            rw [upd_same, ew2, List.map_append]
            rfl
        · have ew2 : waveT ps ds a b (us.take (i + 1)) = waveT ps ds a b (us.take i) := by
            rw [ew]
            exact if_pos (not_not_dec e)
          rw [ew2]
          exact ⟨_, _, rfl, s89, hM9, hL9⟩
      · rintro σ H8 ⟨y5, y6, rfl, s8, hM8, hL8⟩
        rw [List.length_map, List.take_length] at hL8
        refine ⟨.int (bI (toldM ps a)), rfl, .ref L, rfl, L, _, rfl, .inl ⟨SqL.of hL8, fun t' nt' => ⟨sl2, fun r nr => ?_⟩⟩⟩
        have s9 := same_upd (o := HO.tup ((waveT ps ds a b us).map V.int)) nt'
        have s10 := same_upd (o := HO.tup [V.int (bI (toldM ps a)), .ref t']) nr
        exact q r t' us _ (fun b o e => (s9.trans s10) _ _ (hd1_le _ _ (s8 _ _ e))) rise mem (s10 _ _ upd_same) upd_same

end
end Gk

set_option Elab.async false
set_option linter.all false
set_option maxRecDepth 100000
set_option maxHeartbeats 1000000
set_option pp.maxSteps 1500
set_option pp.deepTerms false
namespace Gk
open PySem PySem.Spec PyProof.Rows L2
section
variable {P : Program} {w : World} {K : PySem.W.Frag} {mg : Str → Option Value} {base : Heap}
/-! ### delays drawn -/
def sp_long (K : PySem.W.Frag) : Sp := fun vs H Q _ => ∃ (d l : Addr) (n most : Int), vs = [.ref d, .int most] ∧ DeckD H d l n ∧ n < 900000 ∧ 0 < most ∧ ∀ (v : Int) (H' : Hp), DeckD H' d l (n + 6) → Fr d l H H' → 0 ≤ v → Q (.int v) H'
theorem ok_long (T : Tx K mg) : FnOk P w K mg base CX0 2 T.f_long T.fd_long ["_law_deck_here", "_law_most"] (sp_long K) := by
  refine T.F_long.ok sc_long (fun vs H Q E h => ?_) (fun cdv A outer s H vs Q E hr h => ?_)
  · obtain ⟨d, l, n, most, rfl, _⟩ := h
    rfl
  · obtain ⟨d, l, n, most, rfl, D, hn, m0, q⟩ := h
    refine ⟨_, (pss_cons (ps_if (pt_cmpR op_lt (pv 1) (pe_op op_pow pe_int pe_int) (nomark _)) (pss_one (ps_ret (pe_call (ok_draw T) (hr.mono (by decide)) (by rfl) T.g_draw T.F_draw.kp T.b_draw .nil pass0 (pa_cons (pv 0) (pa_cons (pv 1) pa_nil))))) pss_nil) (pss_cons (ps_set (i := 2) sc_long.nd rfl (by first | exact .inl rfl | exact .inr rfl) pe_int) (pss_cons (ps_for PassesOwn.never rfl (pi_range1 (by rfl) T.m_range (pa_cons pe_int pa_nil)) (pg_name (i := 3) sc_long.nd rfl (by first | exact .inl rfl | exact .inr rfl)) (pss_one (ps_set (i := 2) sc_long.nd rfl (by first | exact .inl rfl | exact .inr rfl) (pe_op op_add (pe_op op_mul (pv 2) (pe_op op_pow pe_int pe_int)) (pe_call (ok_draw T) (hr.mono (by decide)) (by rfl) T.g_draw T.F_draw.kp T.b_draw .nil pass0 (pa_cons (pv 0) (pa_cons (pe_op op_pow pe_int pe_int) pa_nil))))))) (pss_one (ps_ret (pe_op op_mod (pv 2) (pv 1))))))), ?_⟩
    have p6 : ((10 : Int) ^ (6 : Int).toNat) = 1000000 := by decide
    refine ⟨.int most, rfl, _, _, rfl, rfl, ⟨by decide, by decide, by decide⟩, _, _, rfl, rfl, _, rfl, ?_⟩
    refine ite2 (fun e => ?_) (fun e => ?_)
    · have e : most < (10 : Int) ^ (6 : Int).toNat := of_decide_eq_true e
      rw [p6] at e
      exact ⟨.ref d, rfl, .int most, rfl, d, l, most, n, rfl, D, by omega, m0, by omega, fun H1 v D1 fr1 v0 _ => q v H1 (D1.mono (by omega)) fr1 v0⟩
    · refine ⟨6, rfl, by decide, by decide, ?_⟩
      refine for_range (lo := 0) (n := (6 : Int).toNat) (fun i σ H' => ∃ t y3, σ = [some (.ref d), some (.int most), some (.int t), y3] ∧ 0 ≤ t ∧ DeckD H' d l (n + i) ∧ Fr d l H H') ⟨0, _, rfl, Int.le_refl _, D.mono (by omega), Fr.refl⟩ ?_ ?_
      · rintro i σ H1 hi ⟨t, y3, rfl, t0, D1, fr1⟩
        have hi' : i < 6 := hi
        refine ⟨.int t, rfl, _, _, rfl, rfl, ⟨by decide, by decide, by decide⟩, _, _, rfl, rfl, .inr ⟨by decide, by decide⟩, .ref d, rfl, _, _, rfl, rfl, ⟨by decide, by decide, by decide⟩, d, l, _, _, rfl, D1, by omega, by decide, by decide, fun H2 v D2 fr2 v0 _ => ⟨_, _, rfl, rfl, ?_⟩⟩
        exact ⟨_, _, rfl, Int.add_nonneg (Int.mul_nonneg t0 (by decide)) v0, D2.mono (by push_cast; omega), fr1.trans fr2⟩
      · rintro σ H1 ⟨t, y3, rfl, t0, D1, fr1⟩
        refine ⟨.int t, rfl, .int most, rfl, _, _, rfl, rfl, m0, ?_⟩
        exact q _ H1 (D1.mono (by
          have : ((6 : Int).toNat : Int) = 6 := rfl
          rw [this]
          omega)) fr1 (Int.emod_nonneg _ (by omega))
theorem atM {x : Int} (h0 : 0 ≤ x) (h1 : x < 6) : ∃ v : Int, atI [V.int 1, .int 2, .int 3, .int 8, (fun i j : Int => V.int (i ^ j.toNat)) 10 30, .int 1] x = some (.int v) ∧ 0 < v := by
  obtain ⟨k, rfl⟩ := Int.eq_ofNat_of_zero_le h0
  have hk : k < 6 := by omega
  rcases k with _ | _ | _ | _ | _ | _ | k
  · exact ⟨1, rfl, by decide⟩
  · exact ⟨2, rfl, by decide⟩
  · exact ⟨3, rfl, by decide⟩
  · exact ⟨8, rfl, by decide⟩
  · exact ⟨10 ^ (30 : Int).toNat, rfl, by decide⟩
  · exact ⟨1, rfl, by decide⟩
  · omega
theorem Ts.setL {H : Hp} {p : Addr} {xs ys : List V} (h : H p = some (.lst xs)) : Ts H (upd H p (.lst ys)) := Ts.set h
theorem PartsAt.ts {H H' : Hp} {rs : List Addr} {ds : List (List Int)} (h : PartsAt H rs ds) (g : Ts H H') : PartsAt H' rs ds := ⟨h.1, fun i r d e1 e2 => g _ _ (h.2 i r d e1 e2)⟩
theorem PartsAt.snoc {H : Hp} {ls : List Addr} {ds : List (List Int)} {r : Addr} {d : List Int} (h : PartsAt H ls ds) (hr : H r = some (.tup (d.map V.int))) : PartsAt H (ls ++ [r]) (ds ++ [d]) := by
  refine ⟨by rw [List.length_append, List.length_append, h.1]; rfl, fun i r' d' e1 e2 => ?_⟩
  by_cases z : i < ls.length
  · rw [List.getElem?_append_left z] at e1
    rw [List.getElem?_append_left (by rw [← h.1]; exact z)] at e2
    exact h.2 i r' d' e1 e2
  · rw [List.getElem?_append_right (by omega)] at e1
    rw [List.getElem?_append_right (by rw [← h.1]; omega), ← h.1] at e2
    obtain ⟨k, hk⟩ : ∃ k, i - ls.length = k := ⟨_, rfl⟩
    rw [hk] at e1 e2
    cases k with
    | zero =>
      cases Option.some.inj e1
      cases Option.some.inj e2
      exact hr
    | succ k => cases e1
def DelM (ps : List (List Nat)) (ds : List (List Int)) (i : Nat) : Prop := ds.length = i ∧ ∀ (j : Nat) (p : List Nat) (d : List Int), ps[j]? = some p → ds[j]? = some d → d.length = (litN p p.length).length ∧ ∀ x ∈ d, 0 ≤ x
theorem DelM.snoc {ps : List (List Nat)} {ds : List (List Int)} {i : Nat} {p : List Nat} {d : List Int} (h : DelM ps ds i) (hp : ps[i]? = some p) (hl : d.length = (litN p p.length).length) (h0 : ∀ x ∈ d, 0 ≤ x) : DelM ps (ds ++ [d]) (i + 1) := by
  refine ⟨by rw [List.length_append, h.1]; rfl, fun j p' d' e1 e2 => ?_⟩
  by_cases z : j < ds.length
  · rw [List.getElem?_append_left z] at e2
    exact h.2 j p' d' e1 e2
  · rw [List.getElem?_append_right (by omega)] at e2
    obtain ⟨k, hk⟩ : ∃ k, j - ds.length = k := ⟨_, rfl⟩
    rw [hk] at e2
    cases k with
    | zero =>
      have : j = i := by have := h.1; omega
      subst this
      cases Option.some.inj (e1.symm.trans hp)
      cases Option.some.inj e2
      exact ⟨hl, h0⟩
    | succ k => cases e2
theorem DelM.ok {m : Nat} {ps : List (List Nat)} {ds : List (List Int)} (h : DelM ps ds ps.length) (okp : CovOk m ps) (m6 : m ≤ 6) (l16 : ps.length ≤ 16) : DelOk ps ds ∧ FewD ds := by
  have key : ∀ e ∈ ps.zip ds, e.2.length = (litN e.1 e.1.length).length ∧ ∀ x ∈ e.2, 0 ≤ x := fun e he => by
    obtain ⟨j, hj⟩ := List.getElem?_of_mem he
    rw [List.getElem?_zip_eq_some] at hj
    exact h.2 j e.1 e.2 hj.1 hj.2
  refine ⟨⟨h.1, fun e he => (key e he).1, fun e he => (key e he).2⟩, by rw [h.1]; exact l16, fun d hd => ?_⟩
  obtain ⟨j, hj⟩ := List.getElem?_of_mem hd
  have hj2 : j < ps.length := by have := (List.getElem?_eq_some_iff.mp hj).1; have := h.1; omega
  have k := (h.2 j ps[j] d (List.getElem?_eq_getElem hj2) hj).1
  have l1 := litN_le ps[j] ps[j].length
  have l2 := (okp _ (List.getElem_mem hj2)).1
  omega
def sp_delays (K : PySem.W.Frag) : Sp := fun vs H Q _ => ∃ (d l : Addr) (n : Int) (cv : Addr) (m : Nat) (ps : List (List Nat)), vs = [.ref d, .ref cv] ∧ DeckD H d l n ∧ n < 800000 ∧ CovAt H cv m ps ∧ CovOk m ps ∧ m ≤ 6 ∧ ps.length ≤ 16 ∧ ∀ (da : Addr) (ds : List (List Int)) (H' : Hp), DeckD H' d l (n + 600) → Fr d l H H' → DelAt H' da ds → DelOk ps ds → FewD ds → Q (.ref da) H'
theorem ok_delays (T : Tx K mg) : FnOk P w K mg base CX0 3 T.f_delays T.fd_delays ["_law_deck_here", "_law_cover_here"] (sp_delays K) := by
  refine T.F_delays.ok sc_delays (fun vs H Q E h => ?_) (fun cdv A outer s H vs Q E hr h => ?_)
  · obtain ⟨d, l, n, cv, m, ps, rfl, _⟩ := h
    rfl
  · obtain ⟨d, l, n, cv, m, ps, rfl, D, hn, ⟨tp, hc, ht⟩, okp, m6, l16, q⟩ := h
    refine ⟨_, (pss_cons (ps_set (i := 2) sc_delays.nd rfl (by first | exact .inl rfl | exact .inr rfl) (pe_call (ok_draw T) (hr.mono (by decide)) (by rfl) T.g_draw T.F_draw.kp T.b_draw .nil pass0 (pa_cons (pv 0) (pa_cons pe_int pa_nil)))) (pss_cons (ps_set (i := 3) sc_delays.nd rfl (by first | exact .inl rfl | exact .inr rfl) (pe_ix ix_list (pe_lst (pa_cons pe_int (pa_cons pe_int (pa_cons pe_int (pa_cons pe_int (pa_cons (pe_op op_pow pe_int pe_int) (pa_cons pe_int pa_nil))))))) (pv 2) (fun _ _ => rfl))) (pss_cons (ps_set (i := 4) sc_delays.nd rfl (by first | exact .inl rfl | exact .inr rfl) (pe_call (ok_draw T) (hr.mono (by decide)) (by rfl) T.g_draw T.F_draw.kp T.b_draw .nil pass0 (pa_cons (pv 0) (pa_cons pe_int pa_nil)))) (pss_cons (ps_set (i := 5) sc_delays.nd rfl (by first | exact .inl rfl | exact .inr rfl) pe_int) (pss_cons (ps_set (i := 6) sc_delays.nd rfl (by first | exact .inl rfl | exact .inr rfl) (pe_lst pa_nil)) (pss_cons (ps_for PassesOwn.never rfl (pi_tup (pe_ix ix_tup (pv 1) pe_int (fun _ _ => rfl))) (pg_name (i := 7) sc_delays.nd rfl (by first | exact .inl rfl | exact .inr rfl)) (pss_cons (ps_set (i := 8) sc_delays.nd rfl (by first | exact .inl rfl | exact .inr rfl) (pe_lst pa_nil)) (pss_cons (ps_for PassesOwn.never rfl (pi_str (pv 7)) (pg_name (i := 9) sc_delays.nd rfl (by first | exact .inl rfl | exact .inr rfl)) (pss_one (ps_if (pt_cmpR op_ne (pv 9) pe_str (nomark _)) (pss_cons (ps_expr (pe_bm PySem.F.plainAttrs_list PySem.F.slot_list_append PySem.F.type_list_append mt_append (pv 8) (pa_cons (pe_ix ix_list (pe_lst (pa_cons (pe_call (ok_long T) (hr.mono (by decide)) (by rfl) T.g_long T.F_long.kp T.b_long .nil pass0 (pa_cons (pv 0) (pa_cons (pv 3) pa_nil))) (pa_cons (pe_ix ix_list (pe_lst (pa_cons (pv 5) (pa_cons (pe_op op_sub pe_int (pv 5)) pa_nil))) (pv 4) (fun _ _ => rfl)) pa_nil))) (pe_callTy call_int1 (by rfl) T.m_int (by decide +kernel) (pa_cons (pe_cmpR op_eq (pv 2) pe_int (nomark _)) pa_nil)) (fun _ _ => rfl)) pa_nil))) (pss_one (ps_set (i := 5) sc_delays.nd rfl (by first | exact .inl rfl | exact .inr rfl) (pe_op op_add (pv 5) pe_int)))) pss_nil))) (pss_one (ps_expr (pe_bm PySem.F.plainAttrs_list PySem.F.slot_list_append PySem.F.type_list_append mt_append (pv 6) (pa_cons (pe_callTy call_tuple_of (by rfl) T.m_tuple (by decide +kernel) (pa_cons (pv 8) pa_nil)) pa_nil))))))) (pss_one (ps_ret (pe_callTy call_tuple_of (by rfl) T.m_tuple (by decide +kernel) (pa_cons (pv 6) pa_nil)))))))))), ?_⟩
    have lV : (pVs ps).length = ps.length := by unfold pVs; rw [List.length_map]
    refine ⟨.ref d, rfl, d, l, 6, _, rfl, D, by omega, by decide, by decide, fun H1 wy D1 fr1 w0 w1 => ?_⟩
    refine ⟨_, _, rfl, rfl, ⟨by decide, by decide, by decide⟩, (by decide : 6 ≤ sizeLine), fun e1 n1 => ?_⟩
    have s2 := same_upd (o := HO.lst [V.int 1, .int 2, .int 3, .int 8, (fun i j : Int => V.int (i ^ j.toNat)) 10 30, .int 1]) n1
    obtain ⟨most, hmost, most0⟩ := atM w0 w1
    refine ⟨.int wy, rfl, e1, _, wy, .int most, rfl, rfl, SqL.of upd_same, hmost, ?_⟩
    have D2 := D1.same s2
    have fr2 := fr1.trans (Fr.of s2)
    revert D2 fr2
    generalize upd H1 e1 _ = H2
    intro D2 fr2
    refine ⟨.ref d, rfl, d, l, 2, _, rfl, D2, by omega, by decide, by decide, fun H3 bk D3 fr3 b0 b1 => ⟨Nat.zero_le _, fun F nF => ?_⟩⟩
    have fr03 := fr2.trans fr3
    have nF0 : H F = none := none_of_frD fr03 D3 nF
    have oF := D3.off nF
    have sF := same_upd (o := HO.lst []) nF
    have hF0 : upd H3 F (.lst []) F = some (.lst []) := upd_same
    have D4 := D3.same sF
    have fr4 := fr03.trans (Fr.of sF)
    revert hF0 D4 fr4
    generalize upd H3 F _ = H4
    intro hF0 D4 fr4
    have ts4 := Ts.frD D fr4
    refine ⟨.ref cv, rfl, cv, _, _, .ref tp, rfl, rfl, SqT.of (ts4 _ _ hc), rfl, ?_⟩
    refine ⟨tp, rfl, ⟨_, SqT.of (ts4 _ _ ht)⟩, for_tup (K := K) (a := tp) (xs := pVs ps) (fun i σ H' => ∃ y7 y8 y9, ∃ (ct : Int) (ls : List Addr) (ds : List (List Int)), σ = [some (.ref d), some (.ref cv), some (.int wy), some (.int most), some (.int bk), some (.int ct), some (.ref F), y7, y8, y9] ∧ 0 ≤ ct ∧ ct ≤ 6 * i ∧ DeckD H' d l (n + 2 + 36 * i) ∧ Fr d l H H' ∧ H' F = some (.lst (ls.map V.ref)) ∧ PartsAt H' ls ds ∧ DelM ps ds i)
      ⟨_, _, _, 0, [], [], rfl, by omega, by omega, D4.mono (by omega), fr4, hF0, ⟨rfl, fun i r d e1 _ => by simp at e1⟩, rfl, fun j p d _ e2 => by simp at e2⟩ (fun i σ H' _ ⟨_, _, _, _, _, _, _, _, _, _, z, _⟩ => SqT.of (Ts.frD D z _ _ ht)) ?_ ?_⟩
    · rintro i x σ H5 hx ⟨y7, y8, y9, ct, ls, ds, rfl, ct0, ct1, D5, fr5, hF5, prt, dm⟩
      obtain ⟨p, hp, rfl⟩ := pV_at hx
      have hi : i < ps.length := (List.getElem?_eq_some_iff.mp hp).1
      have okp' := okp p (List.mem_of_getElem? hp)
      have lp := okp'.1
      refine ⟨Nat.zero_le _, fun R nR => ?_⟩
      have nR0 : H R = none := none_of_frD fr5 D5 nR
      have oR := D5.off nR
      have nRF : R ≠ F := (ne_of_none hF5 nR).symm
      have sR := same_upd (o := HO.lst []) nR
      have hR0 : upd H5 R (.lst []) R = some (.lst []) := upd_same
      have D6 := D5.same sR
      have fr6 := fr5.trans (Fr.of sR)
      have hF6 := sR _ _ hF5
      have prt6 := prt.ts (Ts.same sR)
      revert hR0 D6 fr6 hF6 prt6
      generalize upd H5 R _ = H6
      intro hR0 D6 fr6 hF6 prt6
      refine ⟨.str (SX.S p), rfl, SX.S p, rfl, for_str (z := SX.S p) (fun k σ H' => ∃ y9, ∃ (c' : Int) (acc : List Int), σ = [some (.ref d), some (.ref cv), some (.int wy), some (.int most), some (.int bk), some (.int c'), some (.ref F), some (.str (SX.S p)), some (.ref R), y9] ∧ 0 ≤ c' ∧ c' ≤ 6 * i + k ∧ DeckD H' d l (n + 2 + 36 * i + 6 * k) ∧ Fr d l H H' ∧ H' F = some (.lst (ls.map V.ref)) ∧ PartsAt H' ls ds ∧ H' R = some (.lst (acc.map V.int)) ∧ acc.length = (litN p k).length ∧ ∀ x ∈ acc, 0 ≤ x)
        ⟨_, ct, [], rfl, ct0, by omega, D6.mono (by omega), fr6, hF6, prt6, hR0, rfl, fun x hx => by cases hx⟩ ?_ ?_⟩
      · rintro k cg σ H7 hcg ⟨y9, c', acc, rfl, c0, c1, D7, fr7, hF7, prt7, hR7, la, apos⟩
        have hc' := S_at hcg
        have hk : k < p.length := (List.getElem?_eq_some_iff.mp hc').1
        have eg : p.getD k 45 = cg := by rw [List.getD_eq_getElem?_getD, hc']; rfl
        have esucc := litN_succ p k
        rw [eg] at esucc
        refine ⟨.str (one cg), rfl, rfl, _, rfl, ?_⟩
        rw [str_dec, dash_S, one_inj]
        refine ite2 (fun e => ?_) (fun e => ?_)
        · have nc : cg ≠ 45 := by simpa using e
          rw [if_pos nc] at esucc
          refine ⟨.ref R, rfl, .inl ⟨rfl, _, SqL.of hR7⟩, .ref d, rfl, .int most, rfl, d, l, _, most, rfl, D7, by omega, most0, fun v H8 D8 fr8 v0 => ?_⟩
          have ts8 := Ts.frD D7 fr8
          have hF8 := fr8 _ _ oF.1 oF.2 hF7
          have hR8 := fr8 _ _ oR.1 oR.2 hR7
          have prt8 := prt7.ts ts8
          refine ⟨.int c', rfl, .int c', rfl, _, _, rfl, rfl, sl2, fun g1 m1 => ?_⟩
          have u1 := same_upd (o := HO.lst [V.int c', .int (200 - c')]) m1
          obtain ⟨z, hz, z0⟩ : ∃ z : Int, atI [V.int c', .int (200 - c')] bk = some (.int z) ∧ 0 ≤ z := by
            have : bk = 0 ∨ bk = 1 := by omega
            rcases this with rfl | rfl
            · exact ⟨c', rfl, c0⟩
            · exact ⟨200 - c', rfl, by omega⟩
          refine ⟨.int bk, rfl, g1, _, bk, .int z, rfl, rfl, SqL.of upd_same, hz, sl2, fun g2 m2 => ?_⟩
          have u2 := same_upd (o := HO.lst [V.int v, .int z]) m2
          have ua := u1.trans u2
          obtain ⟨y, hy, yp⟩ : ∃ y : Int, atI [V.int v, .int z] (if decide (wy = 5) = true then 1 else 0) = some (.int y) ∧ 0 ≤ y := by
            by_cases z5 : wy = 5
            · exact ⟨z, by rw [decide_eq_true z5]; rfl, z0⟩
            · exact ⟨v, by rw [decide_eq_false z5]; rfl, v0⟩
          have hy' : atI [V.int v, .int z] (if decide (V.int wy = V.int 5) = true then 1 else 0) = some (.int y) := by rw [int_dec]; exact hy
          refine ⟨.int wy, rfl, rfl, .inr ⟨_, rfl, g2, _, _, .int y, rfl, rfl, SqL.of upd_same, hy', ?_⟩⟩
          have hF9 := ua _ _ hF8
          have hR9 := ua _ _ hR8
          have D9 := D8.same ua
          have fr9 := (fr7.trans fr8).trans (Fr.of ua)
          have prt9 := prt8.ts (Ts.same ua)
          revert hF9 hR9 D9 fr9 prt9
          generalize upd (upd H8 g1 _) g2 _ = H9
          intro hF9 hR9 D9 fr9 prt9
          refine ⟨R, _, _, rfl, rfl, hR9, ?_, ?_⟩
          · have := litN_le p k
            rw [List.length_map]
            exact Nat.lt_of_lt_of_le (show _ < 64 by omega) (by decide)
          refine ⟨.int c', rfl, _, _, rfl, rfl, ?_⟩
          refine ⟨some (.str (one cg)), c' + 1, acc ++ [y], rfl, by omega, by push_cast; omega, (D9.upd oR.1 oR.2).mono (by push_cast; omega), Fr.upd fr9 nR0, by rw [upd_ne nRF.symm]; exact hF9, prt9.ts (Ts.setL hR9), by rw [upd_same, List.map_append]; rfl, by rw [esucc, List.length_append, List.length_append, la]; rfl, fun x hx => ?_⟩
          rcases List.mem_append.mp hx with h | h
          · exact apos x h
          · rw [List.mem_singleton.mp h]
            exact yp
        · have ec : cg = 45 := by simpa using e
          rw [if_neg (fun k => k ec), List.append_nil] at esucc
          exact ⟨_, c', acc, rfl, c0, by push_cast; omega, D7.mono (by push_cast; omega), fr7, hF7, prt7, hR7, by rw [esucc]; exact la, apos⟩
      · rintro σ H7 ⟨y9, c', acc, rfl, c0, c1, D7, fr7, hF7, prt7, hR7, la, apos⟩
        rw [S_size] at la c1 D7
        refine ⟨.ref F, rfl, .inl ⟨rfl, _, SqL.of hF7⟩, .ref R, rfl, R, _, rfl, .inl ⟨SqL.of hR7, fun t nt => ?_⟩⟩
        have u := same_upd (o := HO.tup (acc.map V.int)) nt
        have hF8 := u _ _ hF7
        have prt8 := (prt7.ts (Ts.same u)).snoc (r := t) (d := acc) upd_same
        refine ⟨F, _, _, rfl, rfl, hF8, ?_, ?_⟩
        · have h1 := prt7.1
          have h2 := dm.1
          rw [List.length_map]
          exact Nat.lt_of_lt_of_le (show _ < 64 by omega) (by decide)
        · exact ⟨_, _, _, c', ls ++ [t], ds ++ [acc], rfl, c0, by push_cast; omega, ((D7.same u).upd oF.1 oF.2).mono (by push_cast; omega), Fr.upd (fr7.trans (Fr.of u)) nF0, by rw [upd_same, List.map_append]; rfl, prt8.ts (Ts.setL hF8), dm.snoc hp la apos⟩
    · rintro σ H5 ⟨y7, y8, y9, ct, ls, ds, rfl, ct0, ct1, D5, fr5, hF5, prt, dm⟩
      rw [lV] at dm D5
      obtain ⟨okd, few⟩ := dm.ok okp m6 l16
      refine ⟨.ref F, rfl, F, _, rfl, .inl ⟨SqL.of hF5, fun t nt => ?_⟩⟩
      have u := same_upd (o := HO.tup (ls.map V.ref)) nt
      exact q t ds _ ((D5.same u).mono (by omega)) (fr5.trans (Fr.of u)) ⟨ls, upd_same, prt.ts (Ts.same u)⟩ okd few

end
end Gk

set_option Elab.async false
set_option linter.all false
set_option maxRecDepth 100000
set_option maxHeartbeats 1000000
set_option pp.maxSteps 1500
set_option pp.deepTerms false
namespace Gk
open PySem PySem.Spec PyProof.Rows L2
section
variable {P : Program} {w : World} {K : PySem.W.Frag} {mg : Str → Option Value} {base : Heap}
/-! ### is one set of delays told rightly -/
theorem kTT : kitB "tuple" "tuple" = some true := by decide +kernel
theorem kIB : kitB "int" "bool" = some false := by decide +kernel
theorem eqv_ints' : ∀ a : List Int, PyData.eqvAll (a.map PyData.int) (a.map PyData.int) = true
  | [] => rfl
  | x :: r => by
    show (PyData.eqv (.int x) (.int x) && PyData.eqvAll (r.map PyData.int) (r.map PyData.int)) = true
    rw [eqv_ints' r, Bool.and_true]
    show (x == x) = true
    exact beq_self_eq_true x
def waveD (b : Bool) (ts : List Int) : PyData := .tuple [.int (bI b), .tuple (ts.map PyData.int)]
theorem eqv_wave (b : Bool) (ts : List Int) : PyData.eqv (waveD b ts) (waveD b ts) = true := by
  show (PyData.eqv (.int (bI b)) (.int (bI b)) && (PyData.eqvAll (ts.map PyData.int) (ts.map PyData.int) && true)) = true
  rw [eqv_ints' ts]
  cases b <;> rfl
theorem sh_wave (b : Bool) (ts : List Int) : SeqAt.shaped (waveD b ts) = true := by
  unfold SeqAt.shaped waveD
  rw [Bool.and_eq_true]
  refine ⟨?_, decide_eq_true ?_⟩
  · simp only [PyData.canLay0, PyData.canLayAll0, canLayAll_ints, Bool.and_true]
  · simp only [PyData.depth, PyData.depthAll, depthAll_ints]
    decide
theorem dp_wave {H : Hp} {r tr : Addr} {b : Bool} {ts : List Int} (h : H r = some (.tup [.int (bI b), .ref tr])) (ht : H tr = some (.tup (ts.map V.int))) : Dp K H (.ref r) (waveD b ts) :=
  .tup (SqT.of h) (.cons (.int _) (.cons (.tup (SqT.of ht) (dpInts ts)) .nil))
theorem sh_two (x y : Int) : SeqAt.shaped (.tuple [.int x, .int y]) = true := by
  unfold SeqAt.shaped
  rw [Bool.and_eq_true]
  refine ⟨?_, decide_eq_true ?_⟩
  · simp only [PyData.canLay0, PyData.canLayAll0, Bool.and_true]
  · simp only [PyData.depth, PyData.depthAll]
    decide
theorem inV_no : ∀ n : Nat, inV (.bl true) ((List.replicate n (V.bl false))) = false
  | 0 => rfl
  | n + 1 => by
    rw [List.replicate_succ]
    show (eqV (.bl false) (.bl true) || inV (.bl true) (List.replicate n (V.bl false))) = false
    rw [inV_no n]
    rfl
theorem flat_no (n : Nat) : (List.replicate n (V.bl false)).all flatV = true := by
  rw [List.all_eq_true]
  intro x hx
  rw [(List.mem_replicate.mp hx).2]
  rfl
theorem fro_bad {ps : List (List Nat)} {a b : List Int} (h : froM ps a b = false) : badJ ps a b = false := by
  unfold froM judS at h
  unfold badJ
  by_cases z : toldM ps a = true ∧ toldM ps b = true
  · rw [if_pos z] at h
    rw [z.1, z.2]
    cases hf : firstH ps a b with
    | none =>
      rw [hf] at h
      exact absurd h (by decide)
    | some k => rfl
  · rw [if_neg z] at h
    have z' : (toldM ps a && toldM ps b) = false := by
      rw [Bool.eq_false_iff]
      intro k
      exact z (Bool.and_eq_true_iff.mp k)
    rw [z']
    cases hf : ps.findIdx? (flashM a b) with
    | none => rfl
    | some k =>
      rw [hf] at h
      have h : (decide (meetsS = gapS) || decide (meetsS = meetsS)) = false := h
      rw [decide_eq_true rfl, Bool.or_true] at h
      cases h
theorem eqv_two (x y : Int) : PyData.eqv (.tuple [.int x, .int y]) (.tuple [.int x, .int y]) = true := by
  show ((x == x) && ((y == y) && true)) = true
  rw [beq_self_eq_true x, beq_self_eq_true y]
  rfl
theorem Tk.word {H : Hp} {r : Addr} {x y : Int} {b : Bool} (h : Tk H (.ref r) (.tuple [.int x, .int y, .bool b])) : H r = some (.tup [.int x, .int y, .bl b]) := by
  obtain ⟨a, xs, e, hr, ts⟩ := h.tup_inv
  cases e
  cases ts with
  | cons h1 t1 =>
    cases t1 with
    | cons h2 t2 =>
      cases t2 with
      | cons h3 t3 =>
        cases t3
        cases h1
        cases h2
        cases h3
        exact hr
def sp_right (T : Tx K mg) : Sp := fun vs H Q _ => ∃ (cv da c : Addr) (m : Nat) (ps : List (List Nat)) (ds : List (List Int)) (a b : List Int), vs = [.ref cv, .ref da, .ref c] ∧ CovAt H cv m ps ∧ CovOk m ps ∧ ps.length ≤ 64 ∧ DelAt H da ds ∧ DelOk ps ds ∧ FewD ds ∧ ChAt H c a b ∧ ChOk m a b ∧ Tabs H T.tabs ∧ ∀ H', Gr H H' → Q (.bl true) H'
theorem ok_right (T : Tx K mg) (B : Tb base T) : FnOk P w K mg base CX0 8 T.f_right T.fd_right ["_law_cover_here", "_law_delays_here", "_law_change_here"] (sp_right T) := by
  refine T.F_right.ok sc_right (fun vs H Q E h => ?_) (fun cdv A outer s H vs Q E hr h => ?_)
  · obtain ⟨cv, da, c, m, ps, ds, a, b, rfl, _⟩ := h
    rfl
  · obtain ⟨cv, da, c, m, ps, ds, a, b, rfl, hcv, okp, l64, hd, okd, few, hch, ok, tabs, q⟩ := h
    refine ⟨_, (pss_cons (ps_set (i := 3) sc_right.nd rfl (by first | exact .inl rfl | exact .inr rfl) (pe_call (ok_wave T) (hr.mono (by decide)) (by rfl) T.g_wave T.F_wave.kp T.b_wave .nil pass0 (pa_cons (pv 0) (pa_cons (pv 1) (pa_cons (pv 2) pa_nil))))) (pss_cons (ps_for PassesOwn.never rfl (pi_range1 (by rfl) T.m_range (pa_cons pe_int pa_nil)) (pg_name (i := 4) sc_right.nd rfl (by first | exact .inl rfl | exact .inr rfl)) (pss_cons (ps_set (i := 5) sc_right.nd rfl (by first | exact .inl rfl | exact .inr rfl) (pe_call (ok_cover_wave T B) (hr.mono (by decide)) (by rfl) T.g_cover_wave T.F_cover_wave.kp T.b_cover_wave .nil pass0 (pa_cons (pv 0) (pa_cons (pv 1) (pa_cons (pv 2) pa_nil))))) (pss_cons (ps_if (pw_or (pt_not (pt_val (pe_callB call_isi (by rfl) T.m_isinstance (by decide +kernel) (pa_cons (pv 5) (pa_cons (pe_bltn (v := .ty "tuple") (u := .type "tuple") (by rfl) T.m_tuple (by decide +kernel) rfl) pa_nil))))) (pw_or (pt_cmpR (op_neD hr.units) (pv 5) (pv 3) (nomark _)) (pw_or1 (pt_not (pt_val (pe_callB call_isi (by rfl) T.m_isinstance (by decide +kernel) (pa_cons (pe_ix ix_tup (pv 5) pe_int (fun _ _ => rfl)) (pa_cons (pe_bltn (v := .ty "tuple") (u := .type "tuple") (by rfl) T.m_tuple (by decide +kernel) rfl) pa_nil)))))))).pt (pss_one (ps_ret pe_bl)) pss_nil) (pss_one (ps_if (pt_cmpR op_in_seq pe_bl (pe_lc (own := [("_law_one", 7)]) (by rfl) sc_right.nd (pi_tup (pe_op op_catA (pe_slice sl_tupA (pv 5) po_none (po_some pe_int)) (pe_ix ix_tup (pv 5) pe_int (fun _ _ => rfl)))) (blkOk_by (own := [("_law_one", 7)]) (N := ["_law_cover_here", "_law_delays_here", "_law_change_here", "_law_due", "_law_again", "_law_found", "_law_word", "_law_one"]) (sc := defScope s_right) (by decide +kernel)) (fun _ _ _ _ _ => (pg_name (i := 7) sc_right.nd rfl (by first | exact .inl rfl | exact .inr rfl))) (fun _ _ _ _ _ => pts_nil) (fun _ _ _ _ _ => (pe_callB (show CallR _ _ (rIsi K) from call_isi) (by rfl) T.m_isinstance (by decide +kernel) (pa_cons (pv 7) (pa_cons (pe_bltn (v := .ty "bool") (u := .type "bool") (by rfl) T.m_bool (by decide +kernel) rfl) pa_nil))))) rfl) (pss_one (ps_ret pe_bl)) pss_nil))))) (pss_cons (ps_set (i := 6) sc_right.nd rfl (by first | exact .inl rfl | exact .inr rfl) (pe_call (ok_cover_word T B) (hr.mono (by decide)) (by rfl) T.g_cover_word T.F_cover_word.kp T.b_cover_word .nil pass0 (pa_cons (pv 0) (pa_cons (pv 2) pa_nil)))) (pss_cons (ps_if (pw_or (pt_cmpR (op_neD hr.units) (pe_slice sl_tupA (pv 6) po_none (po_some pe_int)) (pe_tup (pa_cons (pe_ix ix_tup (pv 3) pe_int (fun _ _ => rfl)) (pa_cons (pe_op op_mod (pe_op op_add (pe_ix ix_tup (pv 3) pe_int (fun _ _ => rfl)) (pe_callB call_len_seq (by rfl) T.m_len PySem.boot_len (pa_cons (pe_ix ix_tup (pv 3) pe_int (fun _ _ => rfl)) pa_nil))) pe_int) pa_nil))) (nomark _)) (pw_or1 (pt_cmpR op_gt (pe_callB call_len_seq (by rfl) T.m_len PySem.boot_len (pa_cons (pe_ix ix_tup (pv 3) pe_int (fun _ _ => rfl)) pa_nil)) (pe_call (ok_cover_greatest T B) (hr.mono (by decide)) (by rfl) T.g_cover_greatest T.F_cover_greatest.kp T.b_cover_greatest .nil pass0 (pa_cons (pv 0) (pa_cons (pv 2) pa_nil))) (nomark _)))).pt (pss_one (ps_ret pe_bl)) pss_nil) (pss_one (ps_ret (pe_or (pe_ix ix_tup (pv 6) pe_int (fun _ _ => rfl)) (pe_one (pe_cmpR op_lt (pe_callB call_len_seq (by rfl) T.m_len PySem.boot_len (pa_cons (pe_ix ix_tup (pv 3) pe_int (fun _ _ => rfl)) pa_nil)) pe_int (nomark _)))))))))), ?_⟩
    refine ⟨.ref cv, rfl, .ref da, rfl, .ref c, rfl, cv, da, c, m, ps, ds, a, b, rfl, hcv, okp, hd, okd, few, hch, ok, fun ru tu us H1 s1 rise memu htu hru => ?_⟩
    have g1 := Gr.of s1
    -- the same list, without time 0
    have same : ∀ ts : List Int, ts.Pairwise (· < ·) → (∀ x, x ∈ ts ↔ x ∈ delL ds) → waveT ps ds a b us = waveT ps ds a b ts := fun ts h1 h2 => walk_zero okp ok okd h1 h2 rise memu
    have facts : ((waveT ps ds a b us).length : Int) ≤ greatM ps a b ∧ par (toldM ps a) (waveT ps ds a b us).length = toldM ps b ∧ (waveT ps ds a b us).length ≤ 200 := by
      have e0 : ∃ ts : List Int, ts.Pairwise (· < ·) ∧ ∀ x, x ∈ ts ↔ x ∈ delL ds := by
        by_cases z : (0 : Int) ∈ delL ds
        · refine ⟨us, rise, fun x => ?_⟩
          rw [memu x, List.mem_cons]
          exact ⟨fun k => k.elim (fun e => e ▸ z) id, .inr⟩
        · refine ⟨us.filter fun x => decide (x ≠ 0), rise.filter _, fun x => ?_⟩
          rw [List.mem_filter, memu x, List.mem_cons, decide_eq_true_iff]
          exact ⟨fun k => k.1.elim (fun e => absurd e k.2) id, fun k => ⟨.inr k, fun e => z (e ▸ k)⟩⟩
      obtain ⟨ts, h1, h2⟩ := e0
      have ew := same ts h1 h2
      have few1 := wave_few okp ok okd h1 h2
      refine ⟨by rw [ew]; exact few1, by rw [ew]; exact wave_last okp ok okd h1 h2, ?_⟩
      rw [ew]
      have gb : greatM ps a b ≤ 200 := by
        unfold greatM
        split
        · decide
        · have lf : passM a b ps ≤ 64 := Nat.le_trans (List.length_filter_le ..) l64
          have b1 : bI (toldM ps a) ≤ 1 := by unfold bI; split <;> decide
          have b2 : bI (toldM ps b) ≤ 1 := by unfold bI; split <;> decide
          omega
      have few1 : ((waveT ps ds a b ts).length : Int) ≤ greatM ps a b := few1
      omega
    obtain ⟨f1, f2, f3⟩ := facts
    refine ⟨2, rfl, by decide, by decide, ?_⟩
    refine for_range (lo := 0) (n := (2 : Int).toNat) (fun i σ H' => ∃ y4 y5 y6 y7, σ = [some (.ref cv), some (.ref da), some (.ref c), some (.ref ru), y4, y5, y6, y7] ∧ Gr H1 H') ⟨_, _, _, _, rfl, Gr.refl⟩ ?_ ?_
    · rintro i σ H2 hi ⟨y4, y5, y6, y7, rfl, g2⟩
      have g02 := g1.trans g2
      refine ⟨.ref cv, rfl, .ref da, rfl, .ref c, rfl, cv, da, c, m, ps, ds, a, b, rfl, hcv.gr g02, okp, hd.gr g02, okd, few, hch.gr g02, ok, g02.tabs tabs, fun r tr ts H3 g3 ris2 mem2 htr hr3 => ?_⟩
      rw [← same ts ris2 mem2] at htr
      have g23 := g2.trans g3
      have htu3 := g23.tup htu
      have hru3 := g23.tup hru
      refine ⟨.ref r, rfl, _, _, _, _, _, rfl, .ty _, .base (.tup hr3), kit_ty kTT, _, rfl, iteF ?_⟩
      refine ⟨.ref r, rfl, .ref ru, rfl, _, _, dp_wave hr3 htr, dp_wave hru3 htu3, sh_wave _ _, sh_wave _ _, _, rfl, ?_⟩
      rw [eqv_wave]
      refine iteF ?_
      refine ⟨.ref r, rfl, r, _, 1, .ref tr, rfl, rfl, SqT.of hr3, rfl, _, _, _, _, _, rfl, .ty _, .base (.tup htr), kit_ty kTT, _, rfl, iteF ?_⟩
      -- no truth among them
      refine ⟨.ref r, rfl, 1, rfl, slA hr3 fun p1 H4 s4 hp1 => ?_⟩
      rw [show ((1 : Int)) = ((1 : Nat) : Int) from rfl, cut_to] at hp1
      have hr4 := s4 _ _ hr3
      have htr4 := s4 _ _ htr
      refine ⟨.ref r, rfl, r, _, 1, .ref tr, rfl, rfl, SqT.of hr4, rfl, catA hp1 htr4 (by
        rw [List.length_map]
        exact Nat.le_trans (show _ ≤ 300 by simp only [List.take_succ_cons, List.take_zero, List.length_cons, List.length_nil]; omega) (by decide)) fun p2 H5 s5 hp2 => ?_⟩
      have ep : (([V.int (bI (toldM ps a)), .ref tr] : List V).take 1 ++ (waveT ps ds a b us).map V.int) = ((bI (toldM ps a) :: waveT ps ds a b us).map V.int) := rfl
      rw [ep] at hp2
      refine ⟨p2, rfl, ⟨_, SqT.of hp2⟩, fun D nD => ?_⟩
      have g35 := Gr.of (s4.trans s5)
      refine lc_tup (K := K) (a := p2) (xs := (bI (toldM ps a) :: waveT ps ds a b us).map V.int) (fun k H' => Same H5 (hd1 D H') ∧ H' D = some (.lst (List.replicate k (V.bl false)))) ⟨hd1_of (same_upd nD) nD, upd_same⟩ (fun k H' _ z => SqT.of (hd1_le _ _ (z.1 _ _ hp2))) ?_ ?_
      · rintro k x H6 hx ⟨s6, hD⟩
        obtain ⟨t, ht, rfl⟩ := int_at hx
        have hk : k < (bI (toldM ps a) :: waveT ps ds a b us).length := (List.getElem?_eq_some_iff.mp ht).1
        rw [List.length_cons] at hk
        refine ⟨rfl, .int t, rfl, _, _, _, _, _, rfl, .ty _, .base (.int _), kit_ty kIB, _, hD, ?_, s6.trans hd1_upd, ?_⟩
        · rw [List.length_replicate]
          exact Nat.lt_of_lt_of_le (show _ < 300 by omega) (by decide)
        · rw [upd_same, List.replicate_succ']
      · rintro H6 ⟨s6, hD⟩
        rw [List.length_map] at hD
        refine ⟨D, _, rfl, .inl (SqL.of hD), rfl, flat_no _, _, rfl, ?_⟩
        rw [inV_no]
        exact iteF ⟨_, _, _, _, rfl, (g23.trans g35).trans (Gr.of fun b o e => hd1_le _ _ (s6 _ _ e))⟩
    · rintro σ H2 ⟨y4, y5, y6, y7, rfl, g2⟩
      have g02 := g1.trans g2
      refine ⟨.ref cv, rfl, .ref c, rfl, cv, c, m, ps, a, b, rfl, hcv.gr g02, okp, hch.gr g02, ok, g02.tabs tabs, fun wr H3 g3 tk => ?_⟩
      have hw := tk.word
      have g03 := g02.trans g3
      have htu3 := (g2.trans g3).tup htu
      have hru3 := (g2.trans g3).tup hru
      refine ⟨.ref wr, rfl, 2, rfl, slA hw fun p1 H4 s4 hp1 => ?_⟩
      rw [show ((2 : Int)) = ((2 : Nat) : Int) from rfl, cut_to] at hp1
      have hru4 := s4 _ _ hru3
      have htu4 := s4 _ _ htu3
      refine ⟨.ref ru, rfl, ru, _, 0, .int (bI (toldM ps a)), rfl, rfl, SqT.of hru4, rfl, .ref ru, rfl, ru, _, 0, .int (bI (toldM ps a)), rfl, rfl, SqT.of hru4, rfl, .ref ru, rfl, ru, _, 1, .ref tu, rfl, rfl, SqT.of hru4, rfl, tu, _, rfl, .inr (SqT.of htu4), _, _, rfl, rfl, _, _, rfl, rfl, (show (0 : Int) < 2 by decide), sl2, fun p2 n2 => ?_⟩
      have e2 : (bI (toldM ps a) + (((waveT ps ds a b us).map V.int).length : Int)) % 2 = bI (toldM ps b) := by rw [List.length_map, bI_mod, f2]
      have u2 := same_upd (o := HO.tup [V.int (bI (toldM ps a)), V.int ((bI (toldM ps a) + (((waveT ps ds a b us).map V.int).length : Int)) % 2)]) n2
      have h2 : upd H4 p2 (HO.tup [V.int (bI (toldM ps a)), V.int ((bI (toldM ps a) + (((waveT ps ds a b us).map V.int).length : Int)) % 2)]) p2 = some (.tup [V.int (bI (toldM ps a)), V.int (bI (toldM ps b))]) := by rw [upd_same, e2]
      have hp1' : H4 p1 = some (.tup [V.int (bI (toldM ps a)), V.int (bI (toldM ps b))]) := hp1
      have s24 := s4.trans u2
      have hw5 := s24 _ _ hw
      have hru5 := s24 _ _ hru3
      have htu5 := s24 _ _ htu3
      have g05 := g03.trans (Gr.of s24)
      have hp5 := u2 _ _ hp1'
      clear s24 u2
      revert h2 hw5 hru5 htu5 g05 hp5
      generalize upd H4 p2 _ = H5
      intro h2 hw5 hru5 htu5 g05 hp5
      refine ⟨.tuple [.int (bI (toldM ps a)), .int (bI (toldM ps b))], .tuple [.int (bI (toldM ps a)), .int (bI (toldM ps b))], .tup (SqT.of hp5) (.cons (.int _) (.cons (.int _) .nil)), .tup (SqT.of h2) (.cons (.int _) (.cons (.int _) .nil)), sh_two _ _, sh_two _ _, _, rfl, ?_⟩
      rw [eqv_two]
      refine iteF ?_
      refine ⟨.ref ru, rfl, ru, _, 1, .ref tu, rfl, rfl, SqT.of hru5, rfl, tu, _, rfl, .inr (SqT.of htu5), .ref cv, rfl, .ref c, rfl, cv, c, m, ps, a, b, rfl, hcv.gr g05, okp, l64, hch.gr g05, ok, g05.tabs tabs, fun H6 g6 => ⟨_, _, rfl, rfl, _, rfl, ?_⟩⟩
      refine ite2 (fun e => ?_) (fun _ => ?_)
      · have e := of_decide_eq_true e
        rw [List.length_map] at e
        omega
      have hw6 := g6.tup hw5
      have hru6 := g6.tup hru5
      have htu6 := g6.tup htu5
      refine ⟨.ref wr, rfl, wr, _, 2, .bl (froM ps a b), rfl, rfl, SqT.of hw6, rfl, _, rfl, ite2 (fun e => q _ (g05.trans g6)) (fun e => ?_)⟩
      have one_ := great_one (fro_bad (Bool.eq_false_iff.mpr e))
      refine ⟨.ref ru, rfl, ru, _, 1, .ref tu, rfl, rfl, SqT.of hru6, rfl, tu, _, rfl, .inr (SqT.of htu6), _, _, rfl, rfl, ?_⟩
      have lt2 : (((waveT ps ds a b us).map V.int).length : Int) < 2 := by
        rw [List.length_map]
        omega
      have z := q H6 (g05.trans g6)
      rw [← decide_eq_true lt2] at z
      exact z

end
end Gk

set_option Elab.async false
set_option linter.all false
set_option maxRecDepth 100000
set_option maxHeartbeats 1000000
set_option pp.maxSteps 1500
set_option pp.deepTerms false
namespace Gk
open PySem PySem.Spec PyProof.Rows L2
section
variable {P : Program} {w : World} {K : PySem.W.Frag} {mg : Str → Option Value} {base : Heap}
theorem Tabs.fr {H H' : Hp} {Ps : List Addr} {d l : Addr} {n : Int} (t : Tabs H Ps) (D : DeckD H d l n) (f : Fr d l H H') : Tabs H' Ps := fun P hP => tab_frD D f (t P hP)
def sp_law (K : PySem.W.Frag) (Ps : List Addr) : Sp := fun vs H Q _ => ∃ (a : Addr) (ns : List Int), vs = [.ref a] ∧ SqL K H a (ns.map V.int) ∧ ns.length ≤ 63 ∧ Tabs H Ps ∧ ∀ H', Q (.bl true) H'
theorem ok_law (T : Tx K mg) (B : Tb base T) : FnOk P w K mg base CX0 9 T.f_law T.fd_law ["_law_script"] (sp_law K T.tabs) := by
  refine T.F_law.ok sc_law (fun vs H Q E h => ?_) (fun cdv A outer s H vs Q E hr h => ?_)
  · obtain ⟨a, ns, rfl, _⟩ := h
    rfl
  · obtain ⟨a, ns, rfl, hS, hlen, tabs, q⟩ := h
    refine ⟨_, (pss_cons (ps_set (i := 1) sc_law.nd rfl (by first | exact .inl rfl | exact .inr rfl) (pe_call (ok_deck T) (hr.mono (by decide)) (by rfl) T.g_deck T.F_deck.kp T.b_deck .nil pass0 (pa_cons (pv 0) pa_nil))) (pss_cons (ps_for PassesOwn.never rfl (pi_range1 (by rfl) T.m_range (pa_cons pe_int pa_nil)) (pg_name (i := 2) sc_law.nd rfl (by first | exact .inl rfl | exact .inr rfl)) (pss_cons (ps_set (i := 3) sc_law.nd rfl (by first | exact .inl rfl | exact .inr rfl) (pe_call (ok_many T) (hr.mono (by decide)) (by rfl) T.g_many T.F_many.kp T.b_many .nil pass0 (pa_cons (pv 1) pa_nil))) (pss_cons (ps_set (i := 4) sc_law.nd rfl (by first | exact .inl rfl | exact .inr rfl) (pe_call (ok_change T) (hr.mono (by decide)) (by rfl) T.g_change T.F_change.kp T.b_change .nil pass0 (pa_cons (pv 1) (pa_cons (pv 3) pa_nil)))) (pss_cons (ps_set (i := 5) sc_law.nd rfl (by first | exact .inl rfl | exact .inr rfl) (pe_call (ok_cover T) (hr.mono (by decide)) (by rfl) T.g_cover T.F_cover.kp T.b_cover .nil pass0 (pa_cons (pv 1) (pa_cons (pv 3) pa_nil)))) (pss_one (ps_for PassesOwn.never rfl (pi_range1 (by rfl) T.m_range (pa_cons (pe_ix ix_list (pe_lst (pa_cons pe_int (pa_cons pe_int pa_nil))) (pe_callTy call_int1 (by rfl) T.m_int (by decide +kernel) (pa_cons (pe_cmpR op_gt (pe_callB call_len_seq (by rfl) T.m_len PySem.boot_len (pa_cons (pe_ix ix_tup (pv 5) pe_int (fun _ _ => rfl)) pa_nil)) pe_int (nomark _)) pa_nil)) (fun _ _ => rfl)) pa_nil)) (pg_name (i := 6) sc_law.nd rfl (by first | exact .inl rfl | exact .inr rfl)) (pss_one (ps_if (pt_not (pt_val (pe_call (ok_right T B) (hr.mono (by decide)) (by rfl) T.g_right T.F_right.kp T.b_right .nil pass0 (pa_cons (pv 5) (pa_cons (pe_call (ok_delays T) (hr.mono (by decide)) (by rfl) T.g_delays T.F_delays.kp T.b_delays .nil pass0 (pa_cons (pv 1) (pa_cons (pv 5) pa_nil))) (pa_cons (pv 4) pa_nil)))))) (pss_one (ps_ret pe_bl)) pss_nil)))))))) (pss_one (ps_ret pe_bl)))), ?_⟩
    refine ⟨.ref a, rfl, a, ns, rfl, hS, hlen, fun H1 d l s1 D1 => ?_⟩
    have t1 := (Gr.of s1).tabs tabs
    refine ⟨3, rfl, by decide, by decide, ?_⟩
    refine for_range (lo := 0) (n := (3 : Int).toNat) (fun i σ H' => ∃ y2 y3 y4 y5 y6, σ = [some (.ref a), some (.ref d), y2, y3, y4, y5, y6] ∧ DeckD H' d l (2500 * i) ∧ Tabs H' T.tabs)
      ⟨_, _, _, _, _, rfl, D1.mono (by omega), t1⟩ ?_ ?_
    · rintro i σ H2 hi ⟨y2, y3, y4, y5, y6, rfl, D2, t2⟩
      have hi' : i < 3 := hi
      refine ⟨.ref d, rfl, d, l, _, rfl, D2, by omega, fun m H3 D3 fr3 m1 m6 => ?_⟩
      have t3 := t2.fr D2 fr3
      refine ⟨.ref d, rfl, .int m, rfl, d, l, _, m, rfl, D3, by omega, m1, m6, fun c a' b' H4 D4 fr4 hch ok => ?_⟩
      have t4 := t3.fr D3 fr4
      refine ⟨.ref d, rfl, .int m, rfl, d, l, _, m, rfl, D4, by omega, m1, m6, fun cv ps H5 D5 fr5 hcv okp l16 => ?_⟩
      have t5 := t4.fr D4 fr5
      have hch5 := hch.ts (Ts.frD D4 fr5)
      obtain ⟨tp, hc, ht⟩ := id hcv
      refine ⟨sl2, fun g ng => ?_⟩
      have u := same_upd (o := HO.lst [V.int 3, .int 1]) ng
      obtain ⟨r, hr1, r3⟩ : ∃ r : Nat, atI [V.int 3, .int 1] (if decide (((pVs ps).length : Int) > 6) = true then 1 else 0) = some (.int (r : Nat)) ∧ r ≤ 3 := by
        by_cases z : ((pVs ps).length : Int) > 6
        · exact ⟨1, by rw [decide_eq_true z]; rfl, by decide⟩
        · exact ⟨3, by rw [decide_eq_false z]; rfl, by decide⟩
      refine ⟨.ref cv, rfl, cv, _, 1, .ref tp, rfl, rfl, SqT.of (u _ _ hc), rfl, tp, _, rfl, .inr (SqT.of (u _ _ ht)), _, _, rfl, rfl, .inr ⟨_, rfl, g, _, _, _, rfl, rfl, SqL.of upd_same, hr1, ?_⟩⟩
      have D6 := D5.same u
      have t6 := (Gr.of u).tabs t5
      have hcv6 := hcv.gr (Gr.of u)
      have hch6 := hch5.same u
      revert D6 t6 hcv6 hch6
      generalize upd H5 g _ = H6
      intro D6 t6 hcv6 hch6
      refine ⟨r, rfl, by omega, by omega, ?_⟩
      refine for_range (lo := 0) (n := r) (fun k σ H' => ∃ y6, σ = [some (.ref a), some (.ref d), some (.int (0 + (i : Int))), some (.int m), some (.ref c), some (.ref cv), y6] ∧ DeckD H' d l (2500 * i + 400 + 600 * k) ∧ Tabs H' T.tabs ∧ CovAt H' cv m ps ∧ ChAt H' c a' b') ⟨_, rfl, D6.mono (by omega), t6, hcv6, hch6⟩ ?_ ?_
      · rintro k σ H7 hk ⟨y6, rfl, D7, t7, hcv7, hch7⟩
        have hk' : k < 3 := Nat.lt_of_lt_of_le hk r3
        refine ⟨.ref cv, rfl, .ref d, rfl, .ref cv, rfl, d, l, _, cv, m, ps, rfl, D7, by omega, hcv7, okp, m6, l16, fun da ds H8 D8 fr8 hda okd few => ?_⟩
        have ts8 := Ts.frD D7 fr8
        have t8 := t7.fr D7 fr8
        have hcv8 := hcv7.ts ts8
        have hch8 := hch7.ts ts8
        refine ⟨.ref c, rfl, cv, da, c, m, ps, ds, a', b', rfl, hcv8, okp, by omega, hda, okd, few, hch8, ok, t8, fun H9 g9 => ⟨_, rfl, iteF ?_⟩⟩
        exact ⟨_, rfl, (D8.gr g9).mono (by push_cast; omega), g9.tabs t8, hcv8.gr g9, hch8.gr g9⟩
      · rintro σ H7 ⟨y6, rfl, D7, t7, hcv7, hch7⟩
        exact ⟨_, _, _, _, _, rfl, D7.mono (by push_cast; omega), t7⟩
    · rintro σ H2 ⟨y2, y3, y4, y5, y6, rfl, _, _⟩
      exact q H2

end
def d_show_row : He.DefD := ⟨("show_row", none), "show_row", "show_row", defArgs s_show_row, defBody s_show_row, defScope s_show_row, [], []⟩
def d_holds_row : He.DefD := ⟨("holds_row", none), "holds_row", "holds_row", defArgs s_holds_row, defBody s_holds_row, defScope s_holds_row, [], []⟩
def d_holds_all : He.DefD := ⟨("holds_all", none), "holds_all", "holds_all", defArgs s_holds_all, defBody s_holds_all, defScope s_holds_all, [], []⟩
def d_meet : He.DefD := ⟨("meet", none), "meet", "meet", defArgs s_meet, defBody s_meet, defScope s_meet, [], []⟩
def d_cube_of : He.DefD := ⟨("cube_of", none), "cube_of", "cube_of", defArgs s_cube_of, defBody s_cube_of, defScope s_cube_of, [], []⟩
def d_told_of : He.DefD := ⟨("told_of", none), "told_of", "told_of", defArgs s_told_of, defBody s_told_of, defScope s_told_of, [], []⟩
def d_cover_word : He.DefD := ⟨("cover_word", none), "cover_word", "cover_word", defArgs s_cover_word, defBody s_cover_word, defScope s_cover_word, [], []⟩
def d_cover_greatest : He.DefD := ⟨("cover_greatest", none), "cover_greatest", "cover_greatest", defArgs s_cover_greatest, defBody s_cover_greatest, defScope s_cover_greatest, [], []⟩
def d_judged : He.DefD := ⟨("judged", none), "judged", "judged", defArgs s_judged, defBody s_judged, defScope s_judged, [], []⟩
def d_first_holding : He.DefD := ⟨("first_holding", none), "first_holding", "first_holding", defArgs s_first_holding, defBody s_first_holding, defScope s_first_holding, [], []⟩
def d_flashes : He.DefD := ⟨("flashes", none), "flashes", "flashes", defArgs s_flashes, defBody s_flashes, defScope s_flashes, [], []⟩
def d_literals_of : He.DefD := ⟨("literals_of", none), "literals_of", "literals_of", defArgs s_literals_of, defBody s_literals_of, defScope s_literals_of, [], []⟩
def d_cover_wave : He.DefD := ⟨("cover_wave", none), "cover_wave", "cover_wave", defArgs s_cover_wave, defBody s_cover_wave, defScope s_cover_wave, [], []⟩
def d_told_at : He.DefD := ⟨("told_at", none), "told_at", "told_at", defArgs s_told_at, defBody s_told_at, defScope s_told_at, [], []⟩
def d_holds_at : He.DefD := ⟨("holds_at", none), "holds_at", "holds_at", defArgs s_holds_at, defBody s_holds_at, defScope s_holds_at, [], []⟩
def d_deck : He.DefD := ⟨("_law_deck", none), "_law_deck", "_law_deck", defArgs s_deck, defBody s_deck, defScope s_deck, [], []⟩
def d_draw : He.DefD := ⟨("_law_draw", none), "_law_draw", "_law_draw", defArgs s_draw, defBody s_draw, defScope s_draw, [], []⟩
def d_many : He.DefD := ⟨("_law_many", none), "_law_many", "_law_many", defArgs s_many, defBody s_many, defScope s_many, [], []⟩
def d_row : He.DefD := ⟨("_law_row", none), "_law_row", "_law_row", defArgs s_row, defBody s_row, defScope s_row, [], []⟩
def d_change : He.DefD := ⟨("_law_change", none), "_law_change", "_law_change", defArgs s_change, defBody s_change, defScope s_change, [], []⟩
def d_product : He.DefD := ⟨("_law_product", none), "_law_product", "_law_product", defArgs s_product, defBody s_product, defScope s_product, [], []⟩
def d_cover : He.DefD := ⟨("_law_cover", none), "_law_cover", "_law_cover", defArgs s_cover, defBody s_cover, defScope s_cover, [], []⟩
def d_worth : He.DefD := ⟨("_law_worth", none), "_law_worth", "_law_worth", defArgs s_worth, defBody s_worth, defScope s_worth, [], []⟩
def d_wave : He.DefD := ⟨("_law_wave", none), "_law_wave", "_law_wave", defArgs s_wave, defBody s_wave, defScope s_wave, [], []⟩
def d_long : He.DefD := ⟨("_law_long", none), "_law_long", "_law_long", defArgs s_long, defBody s_long, defScope s_long, [], []⟩
def d_delays : He.DefD := ⟨("_law_delays", none), "_law_delays", "_law_delays", defArgs s_delays, defBody s_delays, defScope s_delays, [], []⟩
def d_right : He.DefD := ⟨("_law_right", none), "_law_right", "_law_right", defArgs s_right, defBody s_right, defScope s_right, [], []⟩
def d_law : He.DefD := ⟨("law", none), "law", "law", defArgs s_law, defBody s_law, defScope s_law, [], []⟩
def fn : List He.DefD := [d_show_row, d_holds_row, d_holds_all, d_meet, d_cube_of, d_told_of, d_cover_word, d_cover_greatest, d_judged, d_first_holding, d_flashes, d_literals_of, d_cover_wave, d_told_at, d_holds_at, d_deck, d_draw, d_many, d_row, d_change, d_product, d_cover, d_worth, d_wave, d_long, d_delays, d_right, d_law]
def fa : List He.Fa := [.glo "show_row", .glo "holds_row", .glo "holds_all", .glo "meet", .glo "cube_of", .glo "told_of", .glo "cover_word", .glo "cover_greatest", .glo "judged", .glo "first_holding", .glo "flashes", .glo "literals_of", .glo "cover_wave", .glo "told_at", .glo "holds_at", .glo "_law_deck", .glo "_law_draw", .glo "_law_many", .glo "_law_row", .glo "_law_change", .glo "_law_product", .glo "_law_cover", .glo "_law_worth", .glo "_law_wave", .glo "_law_long", .glo "_law_delays", .glo "_law_right", .glo "law", .free "all", .free "any", .free "bool", .free "enumerate", .free "int", .free "isinstance", .free "len", .free "list", .free "range", .free "set", .free "sorted", .free "str", .free "sum", .free "tuple", .free "zip"]
def tf : List He.Defn := [("show_row", none), ("holds_all", none), ("meet", none), ("cube_of", none), ("told_of", none), ("cover_greatest", none), ("told_at", none)]
abbrev RR : PySem.W.OpenRow := PySem.W.OpenLaw.row PySem.Challenge.rw_glitchnet_k40_covers_run
def yes : PySem.W.Frag → Bool := fun _ => true
abbrev hk : PySem.W.Hook := He.hookX 4 fa fn [] tf yes
def ob (s : PySem.W.SharedT) : He.AlX := He.obsX 4 fa fn [] tf yes (HandSHeadRun.getT s)
theorem ob_eq (s : PySem.W.SharedT) : ob s = hk.obs s.abs := He.obsX_eq (HandSHeadRun.getT_eq s)
theorem run (w : World) : HandSHeadRun.RunEq RR (PySem.W.view RR.prog [32]) hk ob 3000 [("show_row" : PySem.Str), ("holds_row" : PySem.Str), ("holds_all" : PySem.Str), ("meet" : PySem.Str), ("cube_of" : PySem.Str), ("told_of" : PySem.Str), ("cover_word" : PySem.Str), ("cover_greatest" : PySem.Str), ("judged" : PySem.Str), ("first_holding" : PySem.Str), ("flashes" : PySem.Str), ("literals_of" : PySem.Str), ("cover_wave" : PySem.Str), ("told_at" : PySem.Str), ("holds_at" : PySem.Str), ("_law_deck" : PySem.Str), ("_law_draw" : PySem.Str), ("_law_many" : PySem.Str), ("_law_row" : PySem.Str), ("_law_change" : PySem.Str), ("_law_product" : PySem.Str), ("_law_cover" : PySem.Str), ("_law_worth" : PySem.Str), ("_law_wave" : PySem.Str), ("_law_long" : PySem.Str), ("_law_delays" : PySem.Str), ("_law_right" : PySem.Str)] w := by
  intro os
  kernel_rfl
theorem facts {w : World} {K : PySem.W.Frag} {h : Heap} {mg : Str → Option Value} {f : Addr} (X : K.In h) (G : h.Ns mainGlobals mg) (hfa : mg ("law" : Str) = some (.ref f)) (c : He.SaysX fa fn [] tf yes w h K) : LamX.LawAtS PySem.Challenge.rw_glitchnet_k40_covers_run w K CX0 9 63 "_law_script" mg f h := by
  obtain ⟨fd0, D0⟩ := c.t.d.def_ 0 (d := d_show_row) rfl
  have F0 : Fun K "show_row" "show_row" s_show_row (He.fAd K ("show_row", none)) fd0 := fun_of D0
  have b0 := F0.binds (ps := ["row"]) fun _ _ _ _ _ _ us hl => match us, hl with | [_], _ => rfl
  obtain ⟨fd1, D1⟩ := c.t.d.def_ 1 (d := d_holds_row) rfl
  have F1 : Fun K "holds_row" "holds_row" s_holds_row (He.fAd K ("holds_row", none)) fd1 := fun_of D1
  have b1 := F1.binds (ps := ["product", "row"]) fun _ _ _ _ _ _ us hl => match us, hl with | [_, _], _ => rfl
  obtain ⟨fd2, D2⟩ := c.t.d.def_ 2 (d := d_holds_all) rfl
  have F2 : Fun K "holds_all" "holds_all" s_holds_all (He.fAd K ("holds_all", none)) fd2 := fun_of D2
  have b2 := F2.binds (ps := ["product", "other"]) fun _ _ _ _ _ _ us hl => match us, hl with | [_, _], _ => rfl
  obtain ⟨fd3, D3⟩ := c.t.d.def_ 3 (d := d_meet) rfl
  have F3 : Fun K "meet" "meet" s_meet (He.fAd K ("meet", none)) fd3 := fun_of D3
  have b3 := F3.binds (ps := ["product", "other"]) fun _ _ _ _ _ _ us hl => match us, hl with | [_, _], _ => rfl
  obtain ⟨fd4, D4⟩ := c.t.d.def_ 4 (d := d_cube_of) rfl
  have F4 : Fun K "cube_of" "cube_of" s_cube_of (He.fAd K ("cube_of", none)) fd4 := fun_of D4
  have b4 := F4.binds (ps := ["change"]) fun _ _ _ _ _ _ us hl => match us, hl with | [_], _ => rfl
  obtain ⟨fd5, D5⟩ := c.t.d.def_ 5 (d := d_told_of) rfl
  have F5 : Fun K "told_of" "told_of" s_told_of (He.fAd K ("told_of", none)) fd5 := fun_of D5
  have b5 := F5.binds (ps := ["cover", "row"]) fun _ _ _ _ _ _ us hl => match us, hl with | [_, _], _ => rfl
  obtain ⟨fd6, D6⟩ := c.t.d.def_ 6 (d := d_cover_word) rfl
  have F6 : Fun K "cover_word" "cover_word" s_cover_word (He.fAd K ("cover_word", none)) fd6 := fun_of D6
  have b6 := F6.binds (ps := ["cover", "change"]) fun _ _ _ _ _ _ us hl => match us, hl with | [_, _], _ => rfl
  obtain ⟨fd7, D7⟩ := c.t.d.def_ 7 (d := d_cover_greatest) rfl
  have F7 : Fun K "cover_greatest" "cover_greatest" s_cover_greatest (He.fAd K ("cover_greatest", none)) fd7 := fun_of D7
  have b7 := F7.binds (ps := ["cover", "change"]) fun _ _ _ _ _ _ us hl => match us, hl with | [_, _], _ => rfl
  obtain ⟨fd8, D8⟩ := c.t.d.def_ 8 (d := d_judged) rfl
  have F8 : Fun K "judged" "judged" s_judged (He.fAd K ("judged", none)) fd8 := fun_of D8
  have b8 := F8.binds (ps := ["cover", "change"]) fun _ _ _ _ _ _ us hl => match us, hl with | [_, _], _ => rfl
  obtain ⟨fd9, D9⟩ := c.t.d.def_ 9 (d := d_first_holding) rfl
  have F9 : Fun K "first_holding" "first_holding" s_first_holding (He.fAd K ("first_holding", none)) fd9 := fun_of D9
  have b9 := F9.binds (ps := ["products", "change"]) fun _ _ _ _ _ _ us hl => match us, hl with | [_, _], _ => rfl
  obtain ⟨fd10, D10⟩ := c.t.d.def_ 10 (d := d_flashes) rfl
  have F10 : Fun K "flashes" "flashes" s_flashes (He.fAd K ("flashes", none)) fd10 := fun_of D10
  have b10 := F10.binds (ps := ["product", "change"]) fun _ _ _ _ _ _ us hl => match us, hl with | [_, _], _ => rfl
  obtain ⟨fd11, D11⟩ := c.t.d.def_ 11 (d := d_literals_of) rfl
  have F11 : Fun K "literals_of" "literals_of" s_literals_of (He.fAd K ("literals_of", none)) fd11 := fun_of D11
  have b11 := F11.binds (ps := ["product"]) fun _ _ _ _ _ _ us hl => match us, hl with | [_], _ => rfl
  obtain ⟨fd12, D12⟩ := c.t.d.def_ 12 (d := d_cover_wave) rfl
  have F12 : Fun K "cover_wave" "cover_wave" s_cover_wave (He.fAd K ("cover_wave", none)) fd12 := fun_of D12
  have b12 := F12.binds (ps := ["cover", "delays", "change"]) fun _ _ _ _ _ _ us hl => match us, hl with | [_, _, _], _ => rfl
  obtain ⟨fd13, D13⟩ := c.t.d.def_ 13 (d := d_told_at) rfl
  have F13 : Fun K "told_at" "told_at" s_told_at (He.fAd K ("told_at", none)) fd13 := fun_of D13
  have b13 := F13.binds (ps := ["cover", "delays", "change", "time"]) fun _ _ _ _ _ _ us hl => match us, hl with | [_, _, _, _], _ => rfl
  obtain ⟨fd14, D14⟩ := c.t.d.def_ 14 (d := d_holds_at) rfl
  have F14 : Fun K "holds_at" "holds_at" s_holds_at (He.fAd K ("holds_at", none)) fd14 := fun_of D14
  have b14 := F14.binds (ps := ["product", "part", "change", "time"]) fun _ _ _ _ _ _ us hl => match us, hl with | [_, _, _, _], _ => rfl
  obtain ⟨fd15, D15⟩ := c.t.d.def_ 15 (d := d_deck) rfl
  have F15 : Fun K "_law_deck" "_law_deck" s_deck (He.fAd K ("_law_deck", none)) fd15 := fun_of D15
  have b15 := F15.binds (ps := ["_law_script"]) fun _ _ _ _ _ _ us hl => match us, hl with | [_], _ => rfl
  obtain ⟨fd16, D16⟩ := c.t.d.def_ 16 (d := d_draw) rfl
  have F16 : Fun K "_law_draw" "_law_draw" s_draw (He.fAd K ("_law_draw", none)) fd16 := fun_of D16
  have b16 := F16.binds (ps := ["_law_deck_here", "_law_most"]) fun _ _ _ _ _ _ us hl => match us, hl with | [_, _], _ => rfl
  obtain ⟨fd17, D17⟩ := c.t.d.def_ 17 (d := d_many) rfl
  have F17 : Fun K "_law_many" "_law_many" s_many (He.fAd K ("_law_many", none)) fd17 := fun_of D17
  have b17 := F17.binds (ps := ["_law_deck_here"]) fun _ _ _ _ _ _ us hl => match us, hl with | [_], _ => rfl
  obtain ⟨fd18, D18⟩ := c.t.d.def_ 18 (d := d_row) rfl
  have F18 : Fun K "_law_row" "_law_row" s_row (He.fAd K ("_law_row", none)) fd18 := fun_of D18
  have b18 := F18.binds (ps := ["_law_deck_here", "_law_many_here"]) fun _ _ _ _ _ _ us hl => match us, hl with | [_, _], _ => rfl
  obtain ⟨fd19, D19⟩ := c.t.d.def_ 19 (d := d_change) rfl
  have F19 : Fun K "_law_change" "_law_change" s_change (He.fAd K ("_law_change", none)) fd19 := fun_of D19
  have b19 := F19.binds (ps := ["_law_deck_here", "_law_many_here"]) fun _ _ _ _ _ _ us hl => match us, hl with | [_, _], _ => rfl
  obtain ⟨fd20, D20⟩ := c.t.d.def_ 20 (d := d_product) rfl
  have F20 : Fun K "_law_product" "_law_product" s_product (He.fAd K ("_law_product", none)) fd20 := fun_of D20
  have b20 := F20.binds (ps := ["_law_deck_here", "_law_many_here"]) fun _ _ _ _ _ _ us hl => match us, hl with | [_, _], _ => rfl
  obtain ⟨fd21, D21⟩ := c.t.d.def_ 21 (d := d_cover) rfl
  have F21 : Fun K "_law_cover" "_law_cover" s_cover (He.fAd K ("_law_cover", none)) fd21 := fun_of D21
  have b21 := F21.binds (ps := ["_law_deck_here", "_law_many_here"]) fun _ _ _ _ _ _ us hl => match us, hl with | [_, _], _ => rfl
  obtain ⟨fd22, D22⟩ := c.t.d.def_ 22 (d := d_worth) rfl
  have F22 : Fun K "_law_worth" "_law_worth" s_worth (He.fAd K ("_law_worth", none)) fd22 := fun_of D22
  have b22 := F22.binds (ps := ["_law_cover_here", "_law_delays_here", "_law_change_here", "_law_time"]) fun _ _ _ _ _ _ us hl => match us, hl with | [_, _, _, _], _ => rfl
  obtain ⟨fd23, D23⟩ := c.t.d.def_ 23 (d := d_wave) rfl
  have F23 : Fun K "_law_wave" "_law_wave" s_wave (He.fAd K ("_law_wave", none)) fd23 := fun_of D23
  have b23 := F23.binds (ps := ["_law_cover_here", "_law_delays_here", "_law_change_here"]) fun _ _ _ _ _ _ us hl => match us, hl with | [_, _, _], _ => rfl
  obtain ⟨fd24, D24⟩ := c.t.d.def_ 24 (d := d_long) rfl
  have F24 : Fun K "_law_long" "_law_long" s_long (He.fAd K ("_law_long", none)) fd24 := fun_of D24
  have b24 := F24.binds (ps := ["_law_deck_here", "_law_most"]) fun _ _ _ _ _ _ us hl => match us, hl with | [_, _], _ => rfl
  obtain ⟨fd25, D25⟩ := c.t.d.def_ 25 (d := d_delays) rfl
  have F25 : Fun K "_law_delays" "_law_delays" s_delays (He.fAd K ("_law_delays", none)) fd25 := fun_of D25
  have b25 := F25.binds (ps := ["_law_deck_here", "_law_cover_here"]) fun _ _ _ _ _ _ us hl => match us, hl with | [_, _], _ => rfl
  obtain ⟨fd26, D26⟩ := c.t.d.def_ 26 (d := d_right) rfl
  have F26 : Fun K "_law_right" "_law_right" s_right (He.fAd K ("_law_right", none)) fd26 := fun_of D26
  have b26 := F26.binds (ps := ["_law_cover_here", "_law_delays_here", "_law_change_here"]) fun _ _ _ _ _ _ us hl => match us, hl with | [_, _, _], _ => rfl
  obtain ⟨fd27, D27⟩ := c.t.d.def_ 27 (d := d_law) rfl
  have F27 : Fun K "law" "law" s_law (He.fAd K ("law", none)) fd27 := fun_of D27
  have b27 := F27.binds (ps := ["_law_script"]) fun _ _ _ _ _ _ us hl => match us, hl with | [_], _ => rfl
  have e := hfa.symm.trans (He.glo_ok X G (c.t.d.fact 27 (f := .glo "law") rfl))
  cases e
  let T : Tx K mg := { f_show_row := _, fd_show_row := _, F_show_row := F0, g_show_row := He.glo_ok X G (c.t.d.fact 0 (f := .glo "show_row") rfl), b_show_row := b0, c_show_row := (He.cT K ("show_row", none)).1, P_show_row := (He.cT K ("show_row", none)).2, cd_show_row := code_of F0, f_holds_row := _, fd_holds_row := _, F_holds_row := F1, g_holds_row := He.glo_ok X G (c.t.d.fact 1 (f := .glo "holds_row") rfl), b_holds_row := b1, f_holds_all := _, fd_holds_all := _, F_holds_all := F2, g_holds_all := He.glo_ok X G (c.t.d.fact 2 (f := .glo "holds_all") rfl), b_holds_all := b2, c_holds_all := (He.cT K ("holds_all", none)).1, P_holds_all := (He.cT K ("holds_all", none)).2, cd_holds_all := code_of F2, f_meet := _, fd_meet := _, F_meet := F3, g_meet := He.glo_ok X G (c.t.d.fact 3 (f := .glo "meet") rfl), b_meet := b3, c_meet := (He.cT K ("meet", none)).1, P_meet := (He.cT K ("meet", none)).2, cd_meet := code_of F3, f_cube_of := _, fd_cube_of := _, F_cube_of := F4, g_cube_of := He.glo_ok X G (c.t.d.fact 4 (f := .glo "cube_of") rfl), b_cube_of := b4, c_cube_of := (He.cT K ("cube_of", none)).1, P_cube_of := (He.cT K ("cube_of", none)).2, cd_cube_of := code_of F4, f_told_of := _, fd_told_of := _, F_told_of := F5, g_told_of := He.glo_ok X G (c.t.d.fact 5 (f := .glo "told_of") rfl), b_told_of := b5, c_told_of := (He.cT K ("told_of", none)).1, P_told_of := (He.cT K ("told_of", none)).2, cd_told_of := code_of F5, f_cover_word := _, fd_cover_word := _, F_cover_word := F6, g_cover_word := He.glo_ok X G (c.t.d.fact 6 (f := .glo "cover_word") rfl), b_cover_word := b6, f_cover_greatest := _, fd_cover_greatest := _, F_cover_greatest := F7, g_cover_greatest := He.glo_ok X G (c.t.d.fact 7 (f := .glo "cover_greatest") rfl), b_cover_greatest := b7, c_cover_greatest := (He.cT K ("cover_greatest", none)).1, P_cover_greatest := (He.cT K ("cover_greatest", none)).2, cd_cover_greatest := code_of F7, f_judged := _, fd_judged := _, F_judged := F8, g_judged := He.glo_ok X G (c.t.d.fact 8 (f := .glo "judged") rfl), b_judged := b8, f_first_holding := _, fd_first_holding := _, F_first_holding := F9, g_first_holding := He.glo_ok X G (c.t.d.fact 9 (f := .glo "first_holding") rfl), b_first_holding := b9, f_flashes := _, fd_flashes := _, F_flashes := F10, g_flashes := He.glo_ok X G (c.t.d.fact 10 (f := .glo "flashes") rfl), b_flashes := b10, f_literals_of := _, fd_literals_of := _, F_literals_of := F11, g_literals_of := He.glo_ok X G (c.t.d.fact 11 (f := .glo "literals_of") rfl), b_literals_of := b11, f_cover_wave := _, fd_cover_wave := _, F_cover_wave := F12, g_cover_wave := He.glo_ok X G (c.t.d.fact 12 (f := .glo "cover_wave") rfl), b_cover_wave := b12, f_told_at := _, fd_told_at := _, F_told_at := F13, g_told_at := He.glo_ok X G (c.t.d.fact 13 (f := .glo "told_at") rfl), b_told_at := b13, c_told_at := (He.cT K ("told_at", none)).1, P_told_at := (He.cT K ("told_at", none)).2, cd_told_at := code_of F13, f_holds_at := _, fd_holds_at := _, F_holds_at := F14, g_holds_at := He.glo_ok X G (c.t.d.fact 14 (f := .glo "holds_at") rfl), b_holds_at := b14, f_deck := _, fd_deck := _, F_deck := F15, g_deck := He.glo_ok X G (c.t.d.fact 15 (f := .glo "_law_deck") rfl), b_deck := b15, f_draw := _, fd_draw := _, F_draw := F16, g_draw := He.glo_ok X G (c.t.d.fact 16 (f := .glo "_law_draw") rfl), b_draw := b16, f_many := _, fd_many := _, F_many := F17, g_many := He.glo_ok X G (c.t.d.fact 17 (f := .glo "_law_many") rfl), b_many := b17, f_row := _, fd_row := _, F_row := F18, g_row := He.glo_ok X G (c.t.d.fact 18 (f := .glo "_law_row") rfl), b_row := b18, f_change := _, fd_change := _, F_change := F19, g_change := He.glo_ok X G (c.t.d.fact 19 (f := .glo "_law_change") rfl), b_change := b19, f_product := _, fd_product := _, F_product := F20, g_product := He.glo_ok X G (c.t.d.fact 20 (f := .glo "_law_product") rfl), b_product := b20, f_cover := _, fd_cover := _, F_cover := F21, g_cover := He.glo_ok X G (c.t.d.fact 21 (f := .glo "_law_cover") rfl), b_cover := b21, f_worth := _, fd_worth := _, F_worth := F22, g_worth := He.glo_ok X G (c.t.d.fact 22 (f := .glo "_law_worth") rfl), b_worth := b22, f_wave := _, fd_wave := _, F_wave := F23, g_wave := He.glo_ok X G (c.t.d.fact 23 (f := .glo "_law_wave") rfl), b_wave := b23, f_long := _, fd_long := _, F_long := F24, g_long := He.glo_ok X G (c.t.d.fact 24 (f := .glo "_law_long") rfl), b_long := b24, f_delays := _, fd_delays := _, F_delays := F25, g_delays := He.glo_ok X G (c.t.d.fact 25 (f := .glo "_law_delays") rfl), b_delays := b25, f_right := _, fd_right := _, F_right := F26, g_right := He.glo_ok X G (c.t.d.fact 26 (f := .glo "_law_right") rfl), b_right := b26, f_law := _, fd_law := _, F_law := F27, g_law := He.glo_ok X G (c.t.d.fact 27 (f := .glo "law") rfl), b_law := b27, m_all := He.free_ok X G (c.t.d.fact 28 (f := .free "all") rfl), m_any := He.free_ok X G (c.t.d.fact 29 (f := .free "any") rfl), m_bool := He.free_ok X G (c.t.d.fact 30 (f := .free "bool") rfl), m_enumerate := He.free_ok X G (c.t.d.fact 31 (f := .free "enumerate") rfl), m_int := He.free_ok X G (c.t.d.fact 32 (f := .free "int") rfl), m_isinstance := He.free_ok X G (c.t.d.fact 33 (f := .free "isinstance") rfl), m_len := He.free_ok X G (c.t.d.fact 34 (f := .free "len") rfl), m_list := He.free_ok X G (c.t.d.fact 35 (f := .free "list") rfl), m_range := He.free_ok X G (c.t.d.fact 36 (f := .free "range") rfl), m_set := He.free_ok X G (c.t.d.fact 37 (f := .free "set") rfl), m_sorted := He.free_ok X G (c.t.d.fact 38 (f := .free "sorted") rfl), m_str := He.free_ok X G (c.t.d.fact 39 (f := .free "str") rfl), m_sum := He.free_ok X G (c.t.d.fact 40 (f := .free "sum") rfl), m_tuple := He.free_ok X G (c.t.d.fact 41 (f := .free "tuple") rfl), m_zip := He.free_ok X G (c.t.d.fact 42 (f := .free "zip") rfl) }
  refine ⟨fd27, tf.map (He.cT K), sp_law K T.tabs, ?_, ?_, ?_, ?_, ?_, ?_⟩
  · rintro p hp
    obtain ⟨d, hd, rfl⟩ := List.mem_map.mp hp
    exact c.empty d hd
  · rintro p hp
    obtain ⟨d, hd, rfl⟩ := List.mem_map.mp hp
    exact c.out d hd
  · rintro p hp
    obtain ⟨d, hd, rfl⟩ := List.mem_map.mp hp
    exact PySem.W.codeHd_of_K X (c.hd d hd)
  · obtain ⟨oc, od, kV, doc, pm, an, cdv, ct, osl, rfl, lk, hcd⟩ := F27.ex
    exact fun s v => .of_eq rfl
  · intro H a ns hl hbits hT hS
    refine ⟨a, ns, rfl, hS, hl, fun P hP => ?_, fun _ => rfl⟩
    have hP : P ∈ (tf.map (He.cT K)).map (·.2) := hP
    obtain ⟨p, hp, rfl⟩ := List.mem_map.mp hP
    exact ⟨#[], hT p hp, by trivial⟩
  · intro base KB GB hTB
    have B : Tb base T := ⟨tab_of (hTB (He.cT K ("show_row", none)) (List.mem_map.mpr ⟨_, (show (("show_row", none) : He.Defn) ∈ tf by decide), rfl⟩)), tab_of (hTB (He.cT K ("holds_all", none)) (List.mem_map.mpr ⟨_, (show (("holds_all", none) : He.Defn) ∈ tf by decide), rfl⟩)), tab_of (hTB (He.cT K ("meet", none)) (List.mem_map.mpr ⟨_, (show (("meet", none) : He.Defn) ∈ tf by decide), rfl⟩)), tab_of (hTB (He.cT K ("cube_of", none)) (List.mem_map.mpr ⟨_, (show (("cube_of", none) : He.Defn) ∈ tf by decide), rfl⟩)), tab_of (hTB (He.cT K ("told_of", none)) (List.mem_map.mpr ⟨_, (show (("told_of", none) : He.Defn) ∈ tf by decide), rfl⟩)), tab_of (hTB (He.cT K ("cover_greatest", none)) (List.mem_map.mpr ⟨_, (show (("cover_greatest", none) : He.Defn) ∈ tf by decide), rfl⟩)), tab_of (hTB (He.cT K ("told_at", none)) (List.mem_map.mpr ⟨_, (show (("told_at", none) : He.Defn) ∈ tf by decide), rfl⟩))⟩
    exact ok_law T B
end Gk
open PySem PySem.W PyProof.Rows
set_option maxRecDepth 100000 in
set_option maxHeartbeats 0 in
theorem PySem.Challenge.cw_glitchnet_k40_covers_run_holds : PySem.Challenge.rw_glitchnet_k40_covers_run.Holds := by
  w_on; o_law
  refine HandSHeadRun.head_any (r := OpenLaw.row PySem.Challenge.rw_glitchnet_k40_covers_run) (q := view (OpenLaw.row PySem.Challenge.rw_glitchnet_k40_covers_run).prog [32]) (H := Gk.hk) (ob := Gk.ob) (M := 3000) (loose := [("show_row" : PySem.Str), ("holds_row" : PySem.Str), ("holds_all" : PySem.Str), ("meet" : PySem.Str), ("cube_of" : PySem.Str), ("told_of" : PySem.Str), ("cover_word" : PySem.Str), ("cover_greatest" : PySem.Str), ("judged" : PySem.Str), ("first_holding" : PySem.Str), ("flashes" : PySem.Str), ("literals_of" : PySem.Str), ("cover_wave" : PySem.Str), ("told_at" : PySem.Str), ("holds_at" : PySem.Str), ("_law_deck" : PySem.Str), ("_law_draw" : PySem.Str), ("_law_many" : PySem.Str), ("_law_row" : PySem.Str), ("_law_change" : PySem.Str), ("_law_product" : PySem.Str), ("_law_cover" : PySem.Str), ("_law_worth" : PySem.Str), ("_law_wave" : PySem.Str), ("_law_long" : PySem.Str), ("_law_delays" : PySem.Str), ("_law_right" : PySem.Str)]) (d := HandSHeadRun.topDef (OpenLaw.row PySem.Challenge.rw_glitchnet_k40_covers_run).prog 32) (kwd := []) Gk.ob_eq
    (by kernel_rfl) (fun s => by kernel_rfl) Gk.run (by kernel_rfl) (by kernel_rfl) (by kernel_rfl) (by rfl) (by first | assumption | decide +kernel) (by decide +kernel) ⟨rfl, rfl, rfl, rfl, rfl, by decide +kernel⟩ ?hw ?hc
  case hw => w_witness2
  case hc =>
    refine LamX.walk_ofTsE (l := PySem.Challenge.rw_glitchnet_k40_covers_run) (n := 63) (k := 9) (x := "_law_script") (CX := fun _ => L2.CX0) rfl (by decide) (by kernel_rfl) ⟨rfl, by decide, by decide⟩ ?F (fun _ _ _ _ _ z => z)
    intro w mg fa h Y G hmg0
    obtain ⟨K, KX, c⟩ := Y
    have hmg : mg ("law" : PySem.Str) = some (.ref fa) := by
      have e : (HandSHeadRun.topDef (OpenLaw.row PySem.Challenge.rw_glitchnet_k40_covers_run).prog 32).name = ("law" : PySem.Str) := by kernel_rfl
      rw [← e]
      exact hmg0
    exact ⟨K, KX, Gk.facts KX G hmg c⟩
