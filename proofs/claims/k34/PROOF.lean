import PyProof.Rows.All
import Wide.All
import OpenK.AllK
import Wide.FinOn
import KE.GoesMore
import KE.KDictZip
import HandS.ForMost
import HandS.IsInst
import HandS.TupLe
import HandS.TupAny
import HandS.TupMul
import HandS.More
import HandS.Codes
import HandS.Conv
import HandS.Deep
import HandS.TupSets
import HandS.Style
import HandS.Strs
import HandS.AnyAll
import HandS.GenList
import HandS.JoinGen
import HandS.Zip
import HandS.Rev
import HandS.Head0
import HandS.Head1
import HandS.Head2
import HandS.HeadEnd
import HandS.HeadHook1
import HandS.HeadHook2
import HandS.HeadHook3
import HandS.HeadHook4
import HandS.HeadWalk
import HandS.Defaults
import HandS.ReplaceLit
import PySem.Challenge.RW_glitchnet_k34_what_products_hold
set_option Elab.async false
set_option linter.all false
set_option maxRecDepth 100000
set_option maxHeartbeats 1000000
namespace Gk
open PySem PySem.Spec PyProof.Rows L2
/-! ### the text -/
def topS (i : Nat) : Stmt := PySem.Challenge.pw_glitchnet_k34_what_products_hold.main.body.getD i (.Pass ⟨0, 0, 0, 0⟩)
abbrev s_show_row : Stmt := topS 1
abbrev s_holds_row : Stmt := topS 3
abbrev s_holds_all : Stmt := topS 4
abbrev s_meet : Stmt := topS 5
abbrev s_cube_of : Stmt := topS 6
abbrev s_deck : Stmt := topS 8
abbrev s_draw : Stmt := topS 9
abbrev s_many : Stmt := topS 10
abbrev s_row : Stmt := topS 11
abbrev s_change : Stmt := topS 12
abbrev s_product : Stmt := topS 13
abbrev s_holds : Stmt := topS 14
abbrev s_rows : Stmt := topS 15
abbrev s_is : Stmt := topS 16
abbrev s_pair_right : Stmt := topS 17
abbrev s_cube_right : Stmt := topS 18
abbrev s_law : Stmt := topS 19
theorem sc_show_row : FnScope ["row", "worth"] ["row"] (defScope s_show_row) := ⟨rfl, rfl, rfl, by decide +kernel, rfl, by decide +kernel, by decide +kernel⟩
theorem sc_holds_row : FnScope ["product", "row"] ["product", "row"] (defScope s_holds_row) := ⟨rfl, rfl, rfl, by decide +kernel, rfl, by decide +kernel, by decide +kernel⟩
theorem sc_holds_all : FnScope ["product", "other", "sign", "held"] ["product", "other"] (defScope s_holds_all) := ⟨rfl, rfl, rfl, by decide +kernel, rfl, by decide +kernel, by decide +kernel⟩
theorem sc_meet : FnScope ["product", "other", "one", "two"] ["product", "other"] (defScope s_meet) := ⟨rfl, rfl, rfl, by decide +kernel, rfl, by decide +kernel, by decide +kernel⟩
theorem sc_cube_of : FnScope ["change", "a", "b", "before", "after"] ["change"] (defScope s_cube_of) := ⟨rfl, rfl, rfl, by decide +kernel, rfl, by decide +kernel, by decide +kernel⟩
theorem sc_deck : FnScope ["_law_script"] ["_law_script"] (defScope s_deck) := ⟨rfl, rfl, rfl, by decide +kernel, rfl, by decide +kernel, by decide +kernel⟩
theorem sc_draw : FnScope ["_law_deck_here", "_law_most", "_law_cells", "_law_digit", "_law_cell", "_law_number"] ["_law_deck_here", "_law_most"] (defScope s_draw) := ⟨rfl, rfl, rfl, by decide +kernel, rfl, by decide +kernel, by decide +kernel⟩
theorem sc_many : FnScope ["_law_deck_here", "_law_way"] ["_law_deck_here"] (defScope s_many) := ⟨rfl, rfl, rfl, by decide +kernel, rfl, by decide +kernel, by decide +kernel⟩
theorem sc_row : FnScope ["_law_deck_here", "_law_many_here", "_law_k"] ["_law_deck_here", "_law_many_here"] (defScope s_row) := ⟨rfl, rfl, rfl, by decide +kernel, rfl, by decide +kernel, by decide +kernel⟩
theorem sc_change : FnScope ["_law_deck_here", "_law_many_here", "_law_way", "_law_row_here", "_law_place", "_law_worth"] ["_law_deck_here", "_law_many_here"] (defScope s_change) := ⟨rfl, rfl, rfl, by decide +kernel, rfl, by decide +kernel, by decide +kernel⟩
theorem sc_product : FnScope ["_law_deck_here", "_law_many_here", "_law_way", "_law_k", "_law_worth"] ["_law_deck_here", "_law_many_here"] (defScope s_product) := ⟨rfl, rfl, rfl, by decide +kernel, rfl, by decide +kernel, by decide +kernel⟩
theorem sc_holds : FnScope ["_law_product_here", "_law_row_here", "_law_sign", "_law_worth"] ["_law_product_here", "_law_row_here"] (defScope s_holds) := ⟨rfl, rfl, rfl, by decide +kernel, rfl, by decide +kernel, by decide +kernel⟩
theorem sc_rows : FnScope ["_law_many_here", "_law_found", "_law_place", "_law_row_here"] ["_law_many_here"] (defScope s_rows) := ⟨rfl, rfl, rfl, by decide +kernel, rfl, by decide +kernel, by decide +kernel⟩
theorem sc_is : FnScope ["_law_found", "_law_due"] ["_law_found", "_law_due"] (defScope s_is) := ⟨rfl, rfl, rfl, by decide +kernel, rfl, by decide +kernel, by decide +kernel⟩
theorem sc_pair_right : FnScope ["_law_many_here", "_law_one", "_law_other", "_law_here", "_law_there", "_law_both", "_law_row_here"] ["_law_many_here", "_law_one", "_law_other"] (defScope s_pair_right) := ⟨rfl, rfl, rfl, by decide +kernel, rfl, by decide +kernel, by decide +kernel⟩
theorem sc_cube_right : FnScope ["_law_many_here", "_law_change_here", "_law_cube", "_law_row_here", "_law_inside", "_law_worth", "_law_pair"] ["_law_many_here", "_law_change_here"] (defScope s_cube_right) := ⟨rfl, rfl, rfl, by decide +kernel, rfl, by decide +kernel, by decide +kernel⟩
theorem sc_law : FnScope ["_law_script", "_law_deck_here", "_law_turn", "_law_many_here", "_law_some", "_law_k", "_law_way", "_law_product_here", "_law_place", "_law_row_here", "_law_change_here"] ["_law_script"] (defScope s_law) := ⟨rfl, rfl, rfl, by decide +kernel, rfl, by decide +kernel, by decide +kernel⟩
structure Tx (K : PySem.W.Frag) (mg : Str → Option Value) where
  f_show_row : Addr
  fd_show_row : FuncData
  F_show_row : Fun K "show_row" "show_row" s_show_row f_show_row fd_show_row
  g_show_row : mg "show_row" = some (.ref f_show_row)
  b_show_row : Binds K fd_show_row ["row"] []
  c_show_row : Addr
  P_show_row : Addr
  cd_show_row : fd_show_row.code = .ref c_show_row
  f_holds_row : Addr
  fd_holds_row : FuncData
  F_holds_row : Fun K "holds_row" "holds_row" s_holds_row f_holds_row fd_holds_row
  g_holds_row : mg "holds_row" = some (.ref f_holds_row)
  b_holds_row : Binds K fd_holds_row ["product", "row"] []
  f_holds_all : Addr
  fd_holds_all : FuncData
  F_holds_all : Fun K "holds_all" "holds_all" s_holds_all f_holds_all fd_holds_all
  g_holds_all : mg "holds_all" = some (.ref f_holds_all)
  b_holds_all : Binds K fd_holds_all ["product", "other"] []
  c_holds_all : Addr
  P_holds_all : Addr
  cd_holds_all : fd_holds_all.code = .ref c_holds_all
  f_meet : Addr
  fd_meet : FuncData
  F_meet : Fun K "meet" "meet" s_meet f_meet fd_meet
  g_meet : mg "meet" = some (.ref f_meet)
  b_meet : Binds K fd_meet ["product", "other"] []
  c_meet : Addr
  P_meet : Addr
  cd_meet : fd_meet.code = .ref c_meet
  f_cube_of : Addr
  fd_cube_of : FuncData
  F_cube_of : Fun K "cube_of" "cube_of" s_cube_of f_cube_of fd_cube_of
  g_cube_of : mg "cube_of" = some (.ref f_cube_of)
  b_cube_of : Binds K fd_cube_of ["change"] []
  c_cube_of : Addr
  P_cube_of : Addr
  cd_cube_of : fd_cube_of.code = .ref c_cube_of
  f_deck : Addr
  fd_deck : FuncData
  F_deck : Fun K "_law_deck" "_law_deck" s_deck f_deck fd_deck
  g_deck : mg "_law_deck" = some (.ref f_deck)
  b_deck : Binds K fd_deck ["_law_script"] []
  f_draw : Addr
  fd_draw : FuncData
  F_draw : Fun K "_law_draw" "_law_draw" s_draw f_draw fd_draw
  g_draw : mg "_law_draw" = some (.ref f_draw)
  b_draw : Binds K fd_draw ["_law_deck_here", "_law_most"] []
  f_many : Addr
  fd_many : FuncData
  F_many : Fun K "_law_many" "_law_many" s_many f_many fd_many
  g_many : mg "_law_many" = some (.ref f_many)
  b_many : Binds K fd_many ["_law_deck_here"] []
  f_row : Addr
  fd_row : FuncData
  F_row : Fun K "_law_row" "_law_row" s_row f_row fd_row
  g_row : mg "_law_row" = some (.ref f_row)
  b_row : Binds K fd_row ["_law_deck_here", "_law_many_here"] []
  f_change : Addr
  fd_change : FuncData
  F_change : Fun K "_law_change" "_law_change" s_change f_change fd_change
  g_change : mg "_law_change" = some (.ref f_change)
  b_change : Binds K fd_change ["_law_deck_here", "_law_many_here"] []
  f_product : Addr
  fd_product : FuncData
  F_product : Fun K "_law_product" "_law_product" s_product f_product fd_product
  g_product : mg "_law_product" = some (.ref f_product)
  b_product : Binds K fd_product ["_law_deck_here", "_law_many_here"] []
  f_holds : Addr
  fd_holds : FuncData
  F_holds : Fun K "_law_holds" "_law_holds" s_holds f_holds fd_holds
  g_holds : mg "_law_holds" = some (.ref f_holds)
  b_holds : Binds K fd_holds ["_law_product_here", "_law_row_here"] []
  f_rows : Addr
  fd_rows : FuncData
  F_rows : Fun K "_law_rows" "_law_rows" s_rows f_rows fd_rows
  g_rows : mg "_law_rows" = some (.ref f_rows)
  b_rows : Binds K fd_rows ["_law_many_here"] []
  f_is : Addr
  fd_is : FuncData
  F_is : Fun K "_law_is" "_law_is" s_is f_is fd_is
  g_is : mg "_law_is" = some (.ref f_is)
  b_is : Binds K fd_is ["_law_found", "_law_due"] []
  f_pair_right : Addr
  fd_pair_right : FuncData
  F_pair_right : Fun K "_law_pair_right" "_law_pair_right" s_pair_right f_pair_right fd_pair_right
  g_pair_right : mg "_law_pair_right" = some (.ref f_pair_right)
  b_pair_right : Binds K fd_pair_right ["_law_many_here", "_law_one", "_law_other"] []
  f_cube_right : Addr
  fd_cube_right : FuncData
  F_cube_right : Fun K "_law_cube_right" "_law_cube_right" s_cube_right f_cube_right fd_cube_right
  g_cube_right : mg "_law_cube_right" = some (.ref f_cube_right)
  b_cube_right : Binds K fd_cube_right ["_law_many_here", "_law_change_here"] []
  f_law : Addr
  fd_law : FuncData
  F_law : Fun K "law" "law" s_law f_law fd_law
  g_law : mg "law" = some (.ref f_law)
  b_law : Binds K fd_law ["_law_script"] []
  m_all : mg "all" = none
  m_bool : mg "bool" = none
  m_int : mg "int" = none
  m_isinstance : mg "isinstance" = none
  m_len : mg "len" = none
  m_list : mg "list" = none
  m_range : mg "range" = none
  m_str : mg "str" = none
  m_sum : mg "sum" = none
  m_tuple : mg "tuple" = none
  m_zip : mg "zip" = none
structure Tb (base : Heap) {K : PySem.W.Frag} {mg : Str → Option Value} (T : Tx K mg) : Prop where
  TB_show_row : GxR.TabB base mg T.c_show_row T.P_show_row
  TB_holds_all : GxR.TabB base mg T.c_holds_all T.P_holds_all
  TB_meet : GxR.TabB base mg T.c_meet T.P_meet
  TB_cube_of : GxR.TabB base mg T.c_cube_of T.P_cube_of
def Tx.tabs {K : PySem.W.Frag} {mg : Str → Option Value} (T : Tx K mg) : List Addr := [T.P_show_row, T.P_holds_all, T.P_meet, T.P_cube_of]
/-! ### generator expressions whose elements may call -/
theorem inv_moved {X : Cx} {cp : List (Addr × Obj)} {σ : L2.St} {H : Hp} {s s' : Shared} (I : Inv X cp σ H s) (os : s'.os = s.os) (bare : AllBare s'.gens) (k : ∀ b o, s.heap.get? b = some o → s'.heap.get? b = some o) : Inv X cp σ H s' :=
  I.call' (ch := []) os (Un.kept k) (I.hok.kept k) bare fun b hb => absurd hb (by simp)
/-- the context of a generator expression's frame: C its frame, s, H the entry, fp its iterator's objects -/
abbrev gblk (X : Cx) (A : Around) (s : Shared) (H : Hp) (cenv : Env) (fp : List Addr) : Cx :=
  { X with A := A, s_0 := s, H_0 := H, env := cenv, outer := X.stack, stack := cenv :: X.stack, ex := fp, fn := fun _ => false, pn := [], xe := fun _ _ => False }
section
variable {X : Cx} {pins : List (Addr × Obj)} {σ : L2.St} {H : Hp} {s : Shared}
theorem gen_start {scope : Scope} {own : List (Str × Nat)} {fp : List Addr} {A : Around} {code it : Value} {s5 : Shared} {cp : List (Addr × Obj)}
    (I : Inv X pins σ H s) (ok : BlkOk X.N X.env.scope scope own) (nocell : ∀ y ∈ scope.names, y.2 ≠ .cell) (hN : X.N.Nodup) (hfp : ∀ b ∈ fp, FpOk X pins H b ∧ b < s.heap.objs.size)
    (hh : A.handled = none) (hfr : A.frames = some (genEnv scope (cloFrom X.env.cells scope.names []) s.heap.objs.size code builtinsNs X.env :: X.stack))
    (os : s5.os = s.os) (bare : AllBare s5.gens) (kp : ∀ b o, s.heap.get? b = some o → s5.heap.get? b = some o)
    (hns : s5.heap.Ns s.heap.objs.size fun y => if y = ".0" then some it else none)
    (hcp : ∀ p ∈ cp, s.heap.objs.size < p.1 ∧ s5.heap.get? p.1 = some p.2 ∧ ∀ v, p.2.data ≠ .cell v) :
    Inv (gblk X A s H (genEnv scope (cloFrom X.env.cells scope.names []) s.heap.objs.size code builtinsNs X.env) fp) cp (wipe σ (own.map (·.2))) H s5 := by
  have hfree : ∀ y ∈ scope.names, y.2 = .free → ∃ c, X.env.cells.lookup y.1 = some c := fun y hy e => by
    rcases ok.free y hy e with k | k
    · exact I.ok.has _ (.inl k)
    · exact I.ok.has _ (.inr k)
  generalize hcenv : genEnv scope (cloFrom X.env.cells scope.names []) s.heap.objs.size code builtinsNs X.env = cenv at hfr ⊢
  have hL : cenv.locals = s.heap.objs.size := by rw [← hcenv]; rfl
  have hcl : cenv.cells = cloFrom X.env.cells scope.names [] := by rw [← hcenv]; rfl
  have hsc : cenv.scope = scope := by rw [← hcenv]; rfl
  have cm : ∀ {y c}, (y, c) ∈ cloFrom X.env.cells scope.names [] → X.env.cells.lookup y = some c ∧ c < s.heap.objs.size := fun {y c} hm => by
    rcases cloFrom_mem hm with hm | ⟨h1, rfl⟩
    · cases hm
    · obtain ⟨c, hc⟩ := hfree _ h1 rfl
      rw [hc]
      obtain ⟨w, z⟩ := I.cell _ _ hc
      exact ⟨rfl, z.lt⟩
  have mem : ∀ {y c}, cenv.cells.lookup y = some c → X.env.cells.lookup y = some c ∧ c < s.heap.objs.size := fun {y c} e => by
    rw [hcl] at e
    exact cm (PySem.mem_of_lookup e)
  have look : ∀ {y}, scope.names.lookup y = some .free → ∃ c, cenv.cells.lookup y = some c ∧ X.env.cells.lookup y = some c := fun {y} hl => by
    have hy : (y, NameKind.free) ∈ scope.names := PySem.mem_of_lookup hl
    obtain ⟨c', e'⟩ := mem_lookup (cloFrom_has (cells := X.env.cells) (acc := []) hy)
    rw [← hcl] at e'
    exact ⟨c', e', (mem e').1⟩
  have okB : (gblk X A s H cenv fp).Ok := by
    refine ⟨I.ok.mod, by show cenv.scope.kind = _; rw [hsc]; exact ok.kind, by show cenv.globals = _; rw [← hcenv]; exact I.ok.glob, by show cenv.builtins = _; rw [← hcenv]; rfl, by show s.heap.objs.size ≤ cenv.locals; rw [hL]; exact Nat.le_refl _,
      fun y z c e1 e2 => I.ok.inj y z c (mem e1).1 (mem e2).1, fun y hy => ?_, fun y c z e => (by cases z), fun _ => hh, hfr, .inr ⟨rfl, by show cenv.frame = some cenv.locals; rw [← hcenv]; rfl⟩, fun b hb => ⟨?_, fun y c e z => ?_⟩, I.bs, Nat.le_trans I.ok.bsz I.sz, fun b o e hb => ?_, fun b hb z => ?_, I.stack, I.stkFree⟩
    · have hy' : scope.names.lookup y = some .cell ∨ scope.names.lookup y = some .free := by
        rw [← hsc]
        exact hy
      rcases hy' with e | e
      · exact absurd rfl (nocell _ (PySem.mem_of_lookup e))
      · obtain ⟨c, h1, _⟩ := look e
        exact ⟨c, h1⟩
    · show b ≠ cenv.locals
      rw [hL]; exact Nat.ne_of_lt (hfp b hb).2
    · exact (hfp b hb).1.2.2.2.2.1 y c (mem e).1 z
    · rcases (hfp b hb).1.2.2.2.1 with z | z
      · exact I.ok.noex b o e z
      · exact absurd (Nat.lt_of_lt_of_le (Heap.lt_size e) (Nat.le_trans I.ok.bsz z)) (Nat.lt_irrefl _)
    · rcases List.mem_cons.mp (I.stkSub b z) with z | z
      · exact (hfp b hb).1.2.1 z
      · exact (hfp b hb).1.2.2.1 z
  refine ⟨okB, os, bare, Un.kept kp, ⟨_, (by show s5.heap.Ns cenv.locals _; rw [hL]; exact hns), fun i y av e1 e2 e3 => ?_⟩, fun y c e => ?_, ?_, fun y c e => I.freeC y c (mem e).1, fun p hp => ?_, I.hok.kept kp, by rw [wipe_length]; exact I.len⟩
  · obtain ⟨e2, hne⟩ := wipe_some e2
    have e3 : Vis scope y := by rw [← hsc]; exact e3
    have no : ∀ k, scope.names.lookup y = some k → ¬ (k = .local ∨ k = .cell) := fun k e hh => by
      rcases ok.own _ (PySem.mem_of_lookup e) hh with e' | e'
      · obtain ⟨p, hp, hpy⟩ := List.mem_map.mp e'
        have e3 := ok.ix p hp
        have : p.1 = y := hpy
        rw [this] at e3
        exact hne (List.mem_map.mpr ⟨p, hp, nodup_ix hN e3 e1⟩)
      · exact e' (List.mem_of_getElem? e1)
    have hfr2 : scope.names.lookup y = some .free := by
      rcases e3 with e | e | e
      · exact absurd (.inl rfl) (no _ e)
      · exact absurd (.inr rfl) (no _ e)
      · exact e
    obtain ⟨m, hn, hl⟩ := I.loc
    have hvis : Vis X.env.scope y := (ok.free _ (PySem.mem_of_lookup hfr2) rfl).elim (fun k => .inr (.inl k)) (fun k => .inr (.inr k))
    obtain ⟨w, r, q⟩ := hl i y av e1 e2 hvis
    refine ⟨w, r, .inr ⟨.inr (by show cenv.scope.names.lookup y = some .free; rw [hsc]; exact hfr2), ?_⟩⟩
    obtain ⟨c, h1, h2⟩ := look hfr2
    rcases q with ⟨k, _⟩ | ⟨_, c', e', z⟩
    · have k : X.env.scope.names.lookup y = some .local := k
      rcases ok.free _ (PySem.mem_of_lookup hfr2) rfl with k' | k' <;> rw [show X.env.scope.names.lookup y = _ from k'] at k <;> cases k
    · rw [h2] at e'; cases e'
      exact ⟨c, h1, z.keeps kp⟩
  · obtain ⟨w, z⟩ := I.cell y c (mem e).1
    exact ⟨w, z.keeps kp⟩
  · show H cenv.locals = none
    rw [hL]; exact I.hok.fresh (Nat.le_refl _)
  · have hp : p ∈ cp := by simpa using hp
    obtain ⟨h1, h2, h3⟩ := hcp p hp
    refine ⟨h2, I.hok.fresh (Nat.le_of_lt h1), by show p.1 ≠ cenv.locals; rw [hL]; exact Nat.ne_of_gt h1, fun z => ?_, h3⟩
    rcases List.mem_cons.mp (I.stkSub _ z) with z | z
    · exact absurd (Nat.lt_trans I.lt h1) (by rw [z]; exact Nat.lt_irrefl _)
    · exact I.nofs (Nat.le_of_lt h1) z
end
/-! ### the talk of a generator and who asks it -/
section
variable {α : Type}
/-- handed out: x; the asker's state a (laid down in the pins cp) goes to one with Nx -/
def YG (Xg : Cx) (fp : List Addr) (tn : Nat → Heap → Prop) (AC : α → List (Addr × Obj) → Prop) (Yd : α → V → Hp → (α → Hp → Prop) → Prop) : Protocol := fun _ s0 v s kap =>
  ∃ (a : α) (x : V) (σ : L2.St) (H : Hp) (i : Nat) (cp : List (Addr × Obj)) (Nx : α → Hp → Prop), RelV x v ∧ AC a cp ∧ (∀ p ∈ cp, s0.heap.get? p.1 = some p.2) ∧ Inv Xg cp σ H s ∧ tn i s.heap ∧ (∀ b ∈ fp, H b = none) ∧ Yd a x H Nx ∧
    ∀ a' cp' s', Nx a' H → AC a' cp' → Inv Xg cp' σ H s' → tn i s'.heap → kap (.send .none) s'
def RG (Xg : Cx) (AC : α → List (Addr × Obj) → Prop) (End : α → Hp → Prop) : GenEnd := fun _ s0 r s =>
  ((r = .ok (.ret .none) ∨ r = .ok .next) ∧ ∃ (a : α) (σ : L2.St) (H : Hp) (cp : List (Addr × Obj)), AC a cp ∧ (∀ p ∈ cp, s0.heap.get? p.1 = some p.2) ∧ Inv Xg cp σ H s ∧ End a H) ∨ ∃ e, r = .error e ∧ False
/-- a generator's turns -/
def tGx (J : It) (g : TG) (tt : TT) (te : TE) (σ0 : L2.St) (vs : List Nat) (End : α → Hp → Prop) (Yd : α → V → Hp → (α → Hp → Prop) → Prop) (W : Nat → Nat → α → Hp → Prop) : Prop :=
  ∀ i m a H, W i m a H → (J.stop i H ∧ End a H) ∨ (J.go i H ∧ ∃ Nx : α → Hp → Prop, (∀ a' H', Nx a' H' → ∃ m', m' < m ∧ W (i + 1) m' a' H') ∧
    ∀ x H', J.yld i H x H' → g x σ0 H' fun σ2 H2 => wipe σ2 vs = σ0 ∧ tt σ2 H2 fun b H3 => if b = true then te σ2 H3 fun y H4 => Yd a y H4 Nx else Nx a H3)
theorem wipe_wipe_some {σ σ2 : L2.St} {vs : List Nat} (h : wipe σ2 vs = σ) : ∀ (j : Nat) v, σ[j]? = some (some v) → σ2[j]? = some (some v) := fun j v e => by
  rw [← h] at e
  exact (wipe_some e).1
theorem seg_gx {X : Cx} {A A' : Around} {s_0 : Shared} {H_0 : Hp} {elt tg iter : Expr} {ifs : List Expr} {scope : Scope} {pos : Pos} {it : Addr} {fp : List Addr} {tn : Nat → Heap → Prop} {J : It} {cenv : Env} {g : TG} {tt : TT} {te : TE} {σ0 : L2.St} {vs : List Nat}
    {AC : α → List (Addr × Obj) → Prop} {End : α → Hp → Prop} {Yd : α → V → Hp → (α → Hp → Prop) → Prop} {W : Nat → Nat → α → Hp → Prop}
    (hA : A.over (.compLoop (.GeneratorExp elt [⟨tg, iter, ifs, 0⟩] scope pos) 0 (.ref it) .none cenv) [] = A') (hc : X.calm = true) (hco : cenv.scope.isCoroutine = false)
    (T : Turn X.prog X.w X.K tg J fp it tn) (pg : PG (gblk X A' s_0 H_0 cenv fp) tg g) (pt : PTs (gblk X A' s_0 H_0 cenv fp) ifs tt) (pe : PE (gblk X A' s_0 H_0 cenv fp) elt te)
    (hAC : ∀ a cp, AC a cp → ∀ p ∈ cp, ∀ b ∈ fp, p.1 ≠ b) (turn : tGx J g tt te σ0 vs End Yd W) :
    ∀ (m n i : Nat) (a : α) (H : Hp) (s₀ s : Shared) (cp : List (Addr × Obj)), m < n → W i m a H → AC a cp → (∀ p ∈ cp, s₀.heap.get? p.1 = some p.2) → Inv (gblk X A' s_0 H_0 cenv fp) cp σ0 H s → tn i s.heap → (∀ b ∈ fp, H b = none) →
      Seg (model X.prog X.w) A (RG (gblk X A' s_0 H_0 cenv fp) AC End) (YG (gblk X A' s_0 H_0 cenv fp) fp tn AC Yd) n s₀
        (.compLoop (.GeneratorExp elt [⟨tg, iter, ifs, 0⟩] scope pos) 0 (.ref it) .none cenv)
        ((model X.prog X.w).den (.compLoop (.GeneratorExp elt [⟨tg, iter, ifs, 0⟩] scope pos) 0 (.ref it) .none cenv)) [] s := by
  have stat : ∀ {a : α} {cp : List (Addr × Obj)} {σ' : L2.St} {H' : Hp} {s' : Shared}, AC a cp → Inv (gblk X A' s_0 H_0 cenv fp) cp σ' H' s' → (∀ b ∈ fp, H' b = none) → ∀ b ∈ fp, FpOk (gblk X A' s_0 H_0 cenv fp) cp H' b := fun {a cp σ' H' s'} hac I' hn b hb =>
    ⟨hn b hb, (I'.ok.exf b hb).1, I'.ok.exfs b hb, .inl hb, fun x c e => (I'.ok.exf b hb).2 x c e, fun p hp => hAC a cp hac p (by simpa using hp) b hb⟩
  intro m
  induction m using Nat.strongRecOn with
  | ind m ih =>
    intro n i a H s₀ s cp hmn w hac tie I st nf
    show Seg _ A _ _ _ s₀ _ ((compTurn (.GeneratorExp elt [⟨tg, iter, ifs, 0⟩] scope pos) 0 (.ref it) .none cenv).onRaise (leaving cenv)) [] s
    rw [compTurn_gen, Sem.onRaise_eq_wrap]
    refine seg_bind_wrap (wpAny_standAt ?_)
    rcases turn i m a H w with ⟨stop, hend⟩ | ⟨go, Nx, hNx, step⟩
    · refine seg_bind_wrap ?_
      rw [hA]
      refine thnF (T.done (gblk X A' s_0 H_0 cenv fp) rfl rfl rfl hc i cp s σ0 H (fun _ _ => False) I (stat hac I nf) st stop) fun r s1 ⟨hr, I1⟩ => ?_
      subst hr
      exact seg_end (.ok .next) (.inl ⟨.inr rfl, a, _, H, cp, hac, tie, I1, hend⟩)
    · refine seg_bind_wrap ?_
      rw [hA]
      refine thnF (T.item (gblk X A' s_0 H_0 cenv fp) rfl rfl rfl hc i cp s σ0 H (fun _ _ => False) I (stat hac I nf) st go) fun r s1 ⟨u, hr, h1⟩ => ?_
      subst hr
      refine seg_bind_wrap ?_
      rw [hA]
      refine thnF h1 fun _ s2 ⟨x, H2, I2, r2, y2, st2, n2⟩ => ?_
      have I2' := I2.pinned (stat hac I2 n2) (T.obj _ _ st2)
      refine seg_bind_wrap ?_
      rw [hA]
      refine thnF (pg.run _ s2 _ H2 x u _ I2' r2 (step x H2 y2)) fun _ s3 ⟨σ3, H3, I3, hw3, q3⟩ => ?_
      refine seg_bind_wrap ?_
      rw [hA]
      refine thnF (pt.run _ s3 σ3 H3 _ I3 q3) fun b s4 ⟨H4, I4, q4⟩ => ?_
      have hl : σ0.length = σ3.length := by rw [← hw3, wipe_length]
      have fin : ∀ {s' : Shared} {H' : Hp}, Inv (gblk X A' s_0 H_0 cenv fp) (cp ++ pinsAt fp s2.heap) σ3 H' s' → Inv (gblk X A' s_0 H_0 cenv fp) cp σ0 H' s' ∧ tn (i + 1) s'.heap ∧ ∀ b ∈ fp, H' b = none := fun {s' H'} I' => by
        have pin' : ∀ b ∈ fp, ∀ o, s2.heap.get? b = some o → s'.heap.get? b = some o ∧ H' b = none := fun b hb o e =>
          let z := I'.pin (b, o) (List.mem_append_right _ (List.mem_append_right _ (mem_pinsAt hb e)))
          ⟨z.1, z.2.1⟩
        refine ⟨(I'.unpinned (pins := cp)).weak hl (wipe_wipe_some hw3), T.keep _ _ _ st2 fun b hb o e => (pin' b hb o e).1, fun b hb => ?_⟩
        obtain ⟨o, e, _⟩ := T.obj _ _ st2 b hb
        exact (pin' b hb o e).2
      cases b with
      | false =>
        simp only [Bool.false_eq_true, if_false] at q4 ⊢
        obtain ⟨m', hm, w'⟩ := hNx a H4 q4
        obtain ⟨J1, J2, J3⟩ := fin I4
        exact seg_again rfl (ih m' hm n (i + 1) a H4 s₀ s4 cp (by omega) w' hac tie J1 J2 J3)
      | true =>
        simp only [if_true] at q4 ⊢
        have hy : ∀ v, yieldOut cenv v = yieldValue v := fun v => by simp only [yieldOut, hco, Bool.false_eq_true, if_false]
        simp only [hy]
        rw [Sem.bind_eq_wrap', Sem.bind_eq_wrap', Sem.wrap_wrap, Sem.wrap_wrap]
        refine seg_wrap ?_
        rw [hA]
        refine thnF (pe.run _ s4 σ3 H4 _ I4 q4) fun yv s5 ⟨y, H5, I5, r5, q5⟩ => ?_
        obtain ⟨J1, J2, J3⟩ := fin I5
        -- at least one more
        cases n with
        | zero => exact absurd hmn (Nat.not_lt_zero _)
        | succ n =>
          refine seg_at (seg_yield rfl rfl rfl ⟨a, y, σ0, H5, i + 1, cp, Nx, r5, hac, tie, J1, J2, J3, q5, fun a' cp' s' nx hac' I' st' => ?_⟩)
          obtain ⟨m', hm, w'⟩ := hNx a' H5 nx
          exact seg_again rfl (ih m' hm n (i + 1) a' H5 s' s' cp' (by omega) w' hac' (fun p hp => (I'.pin p (List.mem_append_right _ hp)).1) I' st' J3)
end
/-! ### a generator that is made -/
section
variable {X : Cx} {pins : List (Addr × Obj)} {σ : L2.St} {H : Hp} {s : Shared}
def GenObj (o : Obj) (g : Nat) : Prop := ∃ nm qn, o.cls = .type "generator" ∧ o.data = .fields #[.int g 0, nm, qn] ∧ o.slots = #[]
theorem GenObj.isGen {o : Obj} {g : Nat} (h : GenObj o g) {a : Addr} {hp : Heap} (e : hp.get? a = some o) : hp.IsGen a g := by
  obtain ⟨nm, qn, h1, h2, h3⟩ := h
  exact ⟨o, nm, qn, e, h1, h2, h3⟩
/-- the generator u, made and not begun, in the state s5 -/
def Gx (X : Cx) (pins : List (Addr × Obj)) (σ : L2.St) (A : Around) (J : It) (g : TG) (tt : TT) (te : TE) (vs : List Nat) (H4 : Hp) (u : Value) (s5 : Shared) : Prop :=
  ∃ (A' : Around) (s_0 : Shared) (H_0 : Hp) (cenv : Env) (fp : List Addr) (ga : Addr) (gn : Nat) (go : Obj) (tn : Nat → Heap → Prop) (gs : GenState),
    u = .ref ga ∧ GenObj go gn ∧ s5.gens[gn]? = some gs ∧ gs.bare = true ∧ Inv (gblk X A' s_0 H_0 cenv fp) [(ga, go)] (wipe σ vs) H4 s5 ∧ tn 0 s5.heap ∧ (∀ b ∈ fp, H4 b = none) ∧ (∀ b ∈ fp, b < ga) ∧
    (∀ i h h', tn i h → (∀ b ∈ fp, ∀ o, h.get? b = some o → h'.get? b = some o) → tn i h') ∧ (∀ cp σ' H' s', Inv (gblk X A' s_0 H_0 cenv fp) cp σ' H' s' → Inv X pins σ H' s') ∧
    ∀ (α : Type) (AC : α → List (Addr × Obj) → Prop) (End : α → Hp → Prop) (Yd : α → V → Hp → (α → Hp → Prop) → Prop) (W : Nat → Nat → α → Hp → Prop) (m n : Nat) (a : α) (cp : List (Addr × Obj)) (s' : Shared),
      tGx J g tt te (wipe σ vs) vs End Yd W → W 0 m a H4 → m < n → (∀ a cp, AC a cp → ∀ p ∈ cp, ∀ b ∈ fp, p.1 ≠ b) → AC a cp → Inv (gblk X A' s_0 H_0 cenv fp) cp (wipe σ vs) H4 s' → tn 0 s'.heap →
      gs.Goes (model X.prog X.w) A (RG (gblk X A' s_0 H_0 cenv fp) AC End) (YG (gblk X A' s_0 H_0 cenv fp) fp tn AC Yd) n (.send .none) s'
/-- what stands about an asker -/
structure Near (A B : Around) : Prop where
  hd : B.handled = A.handled
  fr : B.frames = A.frames
  gd : B.guards = A.guards
  dp : B.depth = A.depth
  un : B.units ≤ A.units + 8
theorem gx_make {c P : Addr} {elt tg iter : Expr} {ifs : List Expr} {gpos : Pos} {scope : Scope} {own : List (Str × Nat)} {wi : TI} {g : TG} {tt : TT} {te : TE} {k : Nat} {Q' : Value → Shared → Prop} {R : It → Hp → Prop} {A : Around}
    (hr : Room (k + 1) X.A) (near : Near X.A A) (hc : X.calm = true) (hN : X.N.Nodup) (TB : GxR.TabB X.base X.mg c P) (hcode : X.env.code = .ref c) (hco : scope.isCoroutine = false) (hdot : scope.names.lookup (".0" : Str) = some NameKind.local)
    (nocell : ∀ y ∈ scope.names, y.2 ≠ .cell) (ok : BlkOk X.N X.env.scope scope own) (hi : PI X tg iter wi)
    (hg : ∀ (A' : Around) (s : Shared) (H : Hp) (C : Addr) (cl : List (Str × Addr)) (code : Value) (fp : List Addr), Room k A' → A'.guards = X.A.guards → PG (gblk X A' s H (genEnv scope cl C code builtinsNs X.env) fp) tg g)
    (ht : ∀ (A' : Around) (s : Shared) (H : Hp) (C : Addr) (cl : List (Str × Addr)) (code : Value) (fp : List Addr), Room k A' → A'.guards = X.A.guards → PTs (gblk X A' s H (genEnv scope cl C code builtinsNs X.env) fp) ifs tt)
    (he : ∀ (A' : Around) (s : Shared) (H : Hp) (C : Addr) (cl : List (Str × Addr)) (code : Value) (fp : List Addr), Room k A' → A'.guards = X.A.guards → PE (gblk X A' s H (genEnv scope cl C code builtinsNs X.env) fp) elt te)
    (hs : ∀ v, genFold iter X.env v = pure v) (I : Inv X pins σ H s) (h : wi σ H fun J H1 => GxR.TabG H1 P ∧ R J H1)
    (hQ : ∀ J H1 H2 u s5, R J H1 → GxR.Tabbed P H1 H2 → Gx X pins σ A J g tt te (own.map (·.2)) H2 u s5 → Q' u s5) :
    wpAny (model X.prog X.w) X.A (eval (.GeneratorExp elt [⟨tg, iter, ifs, 0⟩] scope gpos) X.env) Q' X.xe s := by
  have hfree : ∀ y ∈ scope.names, y.2 = .free → ∃ c, X.env.cells.lookup y.1 = some c := fun y hy e => by
    rcases ok.free y hy e with k | k
    · exact I.ok.has _ (.inl k)
    · exact I.ok.has _ (.inr k)
  refine wpAny_GeneratorExp_make hco (closure_ok hfree) nocell hdot ok.kind (by have := hr.dp; omega) ?_ hs
  refine thn (hi.run pins s σ H _ I h) fun xv s1 hx => thn hx fun itv s2 h2 => ?_
  obtain ⟨it, fp, tn, J, H2, rfl, I2, T, st2, f2, ⟨ps, hP, ht3⟩, q⟩ := h2
  refine ⟨I2.nolimit, ?_⟩
  have hPs : s2.heap.get? P = some { cls := .none, data := .fields ps } := I2.hok P _ hP
  have cd : PySem.W.CodeHd s2.heap c P := TB.code.keeps fun b u e => I2.bk b u e
  have nP : ∀ b, H2 b = none → b ≠ P := fun b e z => by
    rw [z, hP] at e
    cases e
  have cont : ∀ (code : Value) (h3 : Heap) (tk : Nat) (ps' : Array Value), Heap.ExtBut P s2.heap h3 → s2.heap.objs.size ≤ h3.objs.size → h3.get? P = some { cls := .none, data := .fields ps' } → (∃ more, ps' = ps ++ more) → TriplesOk ps'.toList →
      wpAny (model X.prog X.w) X.A (builtinsFor X.env.globals X.env.builtins) (fun bi s₄ =>
        ∀ h', h'.Ns s₄.heap.objs.size (fun y => if y = ".0" then some (Value.ref it) else none) → Heap.SameBut s₄.heap.objs.size (s₄.heap.push { cls := .type "frame", data := .dict #[] }) h' →
          Q' (.ref h'.objs.size) { s₄ with
            gens := s₄.gens.push (.fresh (.compStart (.GeneratorExp elt [⟨tg, iter, ifs, 0⟩] scope gpos) 0 (.ref it) .none (genEnv scope (cloFrom X.env.cells scope.names []) s₄.heap.objs.size code bi X.env))),
            toks := s₄.toks + 1 + 1 + 1,
            heap := h'.push { cls := .type "generator", data := .fields #[.int s₄.gens.size 0, .str "<genexpr>" (s₄.toks + 1), .str (X.env.qual ++ "<genexpr>") (s₄.toks + 1 + 1)] } }) X.xe { s2 with heap := h3, toks := tk } := by
    rintro code h3 tk ps' hx hsz hP3 ⟨more, rfl⟩ ht4
    obtain ⟨bm, ob, e1, e2, e3, e4, e5, e6, e7, e8⟩ := TB.bm
    refine wpAny_builtinsFor (m := X.mg) (by rw [I2.ok.glob]; exact (I2.mod.glob.keeps I2.bk).extBut hx TB.gP) e1 e2 (hx _ _ e4 (I2.bk _ _ e5)) e6 e7 e8 ?_
    intro h' hns hsb
    have I3 : Inv X pins σ (upd H2 P (.tbl (ps ++ more))) { s2 with heap := h3, toks := tk } := GxR.inv_tab (g' := s2.gens) (d' := s2.drawn) I2 hP (fun b o hb e => hx b o hb e) hP3 I2.bare
    have lt2 : ∀ b ∈ fp, b < s2.heap.objs.size := fun b hb => by
      obtain ⟨o, e, _⟩ := T.obj _ _ st2 b hb
      exact Heap.lt_size e
    have f3 : ∀ b ∈ fp, FpOk X pins (upd H2 P (.tbl (ps ++ more))) b ∧ b < ({ s2 with heap := h3, toks := tk } : Shared).heap.objs.size := fun b hb => by
      refine ⟨⟨?_, (f2 b hb).2⟩, Nat.lt_of_lt_of_le (lt2 b hb) hsz⟩
      rw [upd_ne (nP b (f2 b hb).1)]
      exact (f2 b hb).1
    have st3 : tn 0 h3 := T.keep _ _ _ st2 fun b hb o e => hx b o (nP b (f2 b hb).1) e
    generalize hs4 : ({ s2 with heap := h3, toks := tk } : Shared) = s4 at I3 f3 hns hsb ⊢
    have h4 : s4.heap = h3 := by rw [← hs4]
    have hsz4 : h'.objs.size = s4.heap.objs.size + 1 := by rw [hsb.1, Heap.size_push]
    have keep' : ∀ b o, s4.heap.get? b = some o → h'.get? b = some o := fun b o e => hsb.extBut b o (Nat.ne_of_lt (Heap.lt_size e)) (Heap.get?_push_of_some _ e)
    generalize hgo : ({ cls := .type "generator", data := .fields #[.int s4.gens.size 0, .str "<genexpr>" (s4.toks + 1), .str (X.env.qual ++ "<genexpr>") (s4.toks + 1 + 1)] } : Obj) = go
    have hGO : GenObj go s4.gens.size := by rw [← hgo]; exact ⟨_, _, rfl, rfl, rfl⟩
    have k5 : ∀ b o, s4.heap.get? b = some o → (h'.push go).get? b = some o := fun b o e => Heap.get?_push_of_some _ (keep' b o e)
    have pg := fun A' => hg A' s4 (upd H2 P (.tbl (ps ++ more))) s4.heap.objs.size (cloFrom X.env.cells scope.names []) code fp
    have pt := fun A' => ht A' s4 (upd H2 P (.tbl (ps ++ more))) s4.heap.objs.size (cloFrom X.env.cells scope.names []) code fp
    have pe := fun A' => he A' s4 (upd H2 P (.tbl (ps ++ more))) s4.heap.objs.size (cloFrom X.env.cells scope.names []) code fp
    generalize hce : genEnv scope (cloFrom X.env.cells scope.names []) s4.heap.objs.size code builtinsNs X.env = cenv at pg pt pe ⊢
    have hscn : cenv.scope = scope := by rw [← hce]; rfl
    generalize hA' : A.over (.compLoop (.GeneratorExp elt [⟨tg, iter, ifs, 0⟩] scope gpos) 0 (.ref it) .none cenv) [] = A'
    have hfrA : A'.frames = some (cenv :: X.stack) := by
      rw [← hA']
      show pushEnvs [cenv] A.frames = _
      rw [near.fr, I2.ok.frames]
      rfl
    have hhd : A'.handled = none := by
      rw [← hA']
      show A.handled = none
      rw [near.hd]
      exact hr.hd
    have rm : Room k A' := by
      refine ⟨hhd, ?_, ?_⟩
      · have := hr.dp
        have := near.dp
        rw [← hA']
        show A.depth + 0 + 1 + 3 * k + 5 < _
        omega
      · have := hr.un
        have := near.un
        rw [← hA']
        show A.units + 0 + 3 + 16 * k + 200 < _
        omega
    have gdA : A'.guards = X.A.guards := by
      rw [← hA']
      show pushGuards [] A.guards = _
      rw [near.gd]
      rfl
    have I5 : Inv (gblk X A' s4 (upd H2 P (.tbl (ps ++ more))) cenv fp) [(h'.objs.size, go)] (wipe σ (own.map (·.2))) (upd H2 P (.tbl (ps ++ more)))
        { s4 with gens := s4.gens.push (.fresh (.compStart (.GeneratorExp elt [⟨tg, iter, ifs, 0⟩] scope gpos) 0 (.ref it) .none cenv)), toks := s4.toks + 1 + 1 + 1, heap := h'.push go } := by
      subst hce
      refine gen_start (it := .ref it) I3 ok nocell hN f3 hhd hfrA rfl (I3.bare.push rfl) k5 (hns.push _) fun p hp => ?_
      have e : p = (h'.objs.size, go) := by simpa using hp
      subst e
      refine ⟨by show s4.heap.objs.size < h'.objs.size; omega, Heap.get?_push_size _ (by rw [← hgo]; rfl), fun v z => ?_⟩
      rw [← hgo] at z
      cases z
    refine hQ J H2 _ _ _ q ⟨⟨_, upd_same, ht4⟩, fun b hb => upd_ne hb⟩ ⟨A', s4, _, cenv, fp, h'.objs.size, s4.gens.size, go, tn, _, rfl, hGO, Array.getElem?_push_size .., rfl, I5, ?_, fun b hb => (f3 b hb).1.1, fun b hb => ?_, T.keep, fun cp σ' H' s' I' => ?_, ?_⟩
    · exact T.keep _ _ _ st3 fun b _ o e => k5 b o (by rw [h4]; exact e)
    · have := (f3 b hb).2
      rw [hsz4]
      exact Nat.lt_succ_of_lt this
    · exact I3.call' (ch := fp) I'.os I'.base I'.hok I'.bare fun b hb => ⟨(f3 b hb).1.2.2.2.1, (f3 b hb).1.2.1, (f3 b hb).1.2.2.2.2.1, (f3 b hb).1.2.2.2.2.2⟩
    · intro α AC End Yd W m n a cp s' turn w hmn hAC hac I' st'
      refine ⟨rfl, ?_⟩
      have loop := seg_gx (A := A) (pos := gpos) (iter := iter) (scope := scope) hA' hc (by rw [hscn]; exact hco) T (pg A' rm gdA) (pt A' rm gdA) (pe A' rm gdA) hAC turn m n 0 a _ s' s' cp hmn w hac (fun p hp => (I'.pin p (List.mem_append_right _ hp)).1) I' st' fun b hb => (f3 b hb).1.1
      show Seg _ A _ _ _ s' _ ((compStart (.GeneratorExp elt [⟨tg, iter, ifs, 0⟩] scope gpos) 0 (.ref it) .none cenv).onRaise (leaving cenv)) [] s'
      unfold compStart
      rw [Sem.onRaise_eq_wrap]
      show Seg _ A _ _ _ s' _ ((ask >>= _).wrap _ _ _ _) [] s'
      refine seg_bind_wrap (wpAny_askSetting ?_)
      split
      · exact seg_again rfl loop
      · first
          | exact seg_bind_wrap (wpAny_rule (seg_bind_wrap (wpAny_standAt (seg_bind_wrap (T.self _ 0 s' _ _ st' (seg_again rfl loop))))))
          | (refine seg_bind_wrap (wpAny_rule ?_); show Seg _ A _ _ _ s' _ ((standAt iter.pos >>= _).wrap _ _ _ _) [] s'; exact seg_bind_wrap (wpAny_standAt (seg_bind_wrap (T.self _ 0 s' _ _ st' (seg_again rfl loop)))))
  cases hf : codeAmong gpos ps.toList with
  | none =>
    refine wpAny_genexprCodeX hcode (cd.code hPs ht3) (cd.tab hPs) hf fun c' h' tk hx hge hlt hco' _ htab' _ => ?_
    obtain ⟨o1, vs, f1, tf, fl, tg, inF, tx, tt, op, _, _, _, _, _, _, _, _, _, htr, _⟩ := hco'
    exact cont _ h' tk _ hx (Nat.le_trans hge (Nat.le_of_lt hlt)) htab'.2 ⟨_, rfl⟩ htr
  | some cv =>
    refine wpAny_genexprCode_hit hcode (cd.code hPs ht3) hf ?_
    exact cont cv s2.heap s2.toks ps (Heap.ExtBut.refl _ _) (Nat.le_refl _) hPs ⟨#[], by simp⟩ ht3
end
/-! ### asking -/
section
variable {α : Type} {X : Cx} {A A' : Around} {s_0 : Shared} {H_0 : Hp} {cenv : Env} {fp : List Addr} {tn : Nat → Heap → Prop} {AC : α → List (Addr × Obj) → Prop} {End : α → Hp → Prop} {Yd : α → V → Hp → (α → Hp → Prop) → Prop} {ga : Addr} {gn n : Nat} {go : Obj}
theorem next_gx2 {gs : GenState} {s : Shared} {Q : Option Value → Shared → Prop} {E : Value → Shared → Prop} (hh : A.handled = none) (hroom : A.depth < recursionLimit) (hl : s.heap.NoLimit) (hG : GenObj go gn) (e : s.heap.get? ga = some go) (hgs : s.gens[gn]? = some gs)
    (hgo : gs.Goes (model X.prog X.w) A.in1 (RG (gblk X A' s_0 H_0 cenv fp) AC End) (YG (gblk X A' s_0 H_0 cenv fp) fp tn AC Yd) n (.send .none) (s.setGen gn .running))
    (item : ∀ (a : α) (x : V) (σ : L2.St) (H : Hp) (i : Nat) (cp : List (Addr × Obj)) (Nx : α → Hp → Prop) (v : Value) (s1 : Shared) (gs' : GenState), RelV x v → AC a cp → (∀ p ∈ cp, s.heap.get? p.1 = some p.2) → Inv (gblk X A' s_0 H_0 cenv fp) cp σ H s1 → tn i s1.heap → Yd a x H Nx → s1.gens[gn]? = some gs' →
      (∀ a' cp' s', Nx a' H → AC a' cp' → Inv (gblk X A' s_0 H_0 cenv fp) cp' σ H s' → tn i s'.heap → ∃ m, n = m + 1 ∧ gs'.Goes (model X.prog X.w) A.in1 (RG (gblk X A' s_0 H_0 cenv fp) AC End) (YG (gblk X A' s_0 H_0 cenv fp) fp tn AC Yd) m (.send .none) s') → Q (some v) s1)
    (done : ∀ (a : α) (σ : L2.St) (H : Hp) (cp : List (Addr × Obj)) (s1 : Shared), AC a cp → (∀ p ∈ cp, s.heap.get? p.1 = some p.2) → Inv (gblk X A' s_0 H_0 cenv fp) cp σ H s1 → End a H → Q none s1) :
    wpAny (model X.prog X.w) A (pyNext (.ref ga)) Q E s := by
  have hgl : gn < s.gens.size := (Array.getElem?_eq_some_iff.mp hgs).1
  refine GenW.wpAny_gsz (n := gn + 1) hgl (next_genG (Er := fun _ _ => False) hh hl hroom (hG.isGen e) hgs hgo (fun v s₁ gs' hbare hv => ?_) (fun s₁ hp h' hk => ?_) fun e s₁ he => he.elim)
  · intro hsz
    obtain ⟨a, x, σ, H, i, cp, Nx, r, hac, tie, I, st, nf, hy, kap⟩ := hv
    have hsz1 : gn < s₁.gens.size := by
      have q : (s₁.setGen gn gs').gens.size = s₁.gens.size := GenW.setGen_size _ _ _
      have hsz' : gn + 1 ≤ (s₁.setGen gn gs').gens.size := hsz
      omega
    refine item a x σ H i cp Nx v (s₁.setGen gn gs') gs' r hac tie (inv_moved I rfl (allBare_setGen I.bare hbare) fun _ _ q => q) st hy (setGen_at hsz1) fun a' cp' s' nx hac' I' st' => ?_
    have z := kap a' cp' s' nx hac' I' st'
    cases n with
    | zero => exact z.elim
    | succ m => exact ⟨m, rfl, z⟩
  · intro _
    obtain ⟨a, σ, H, cp, hac, tie, I, q⟩ := hp
    exact done a σ H cp _ hac tie (inv_moved I rfl (allBare_setGen I.bare rfl) hk) q
theorem next_gx {gs : GenState} {s : Shared} {Q : Option Value → Shared → Prop} {E : Value → Shared → Prop} (hh : A.handled = none) (hroom : A.depth < recursionLimit) (hl : s.heap.NoLimit) (hG : GenObj go gn) (e : s.heap.get? ga = some go) (hgs : s.gens[gn]? = some gs)
    (hgo : gs.Goes (model X.prog X.w) A.in1 (RG (gblk X A' s_0 H_0 cenv fp) AC End) (YG (gblk X A' s_0 H_0 cenv fp) fp tn AC Yd) n (.send .none) (s.setGen gn .running))
    (item : ∀ (a : α) (x : V) (σ : L2.St) (H : Hp) (i : Nat) (cp : List (Addr × Obj)) (Nx : α → Hp → Prop) (v : Value) (s1 : Shared) (gs' : GenState), RelV x v → AC a cp → Inv (gblk X A' s_0 H_0 cenv fp) cp σ H s1 → tn i s1.heap → Yd a x H Nx → s1.gens[gn]? = some gs' →
      (∀ a' cp' s', Nx a' H → AC a' cp' → Inv (gblk X A' s_0 H_0 cenv fp) cp' σ H s' → tn i s'.heap → ∃ m, n = m + 1 ∧ gs'.Goes (model X.prog X.w) A.in1 (RG (gblk X A' s_0 H_0 cenv fp) AC End) (YG (gblk X A' s_0 H_0 cenv fp) fp tn AC Yd) m (.send .none) s') → Q (some v) s1)
    (done : ∀ (a : α) (σ : L2.St) (H : Hp) (cp : List (Addr × Obj)) (s1 : Shared), AC a cp → Inv (gblk X A' s_0 H_0 cenv fp) cp σ H s1 → End a H → Q none s1) :
    wpAny (model X.prog X.w) A (pyNext (.ref ga)) Q E s :=
  next_gx2 hh hroom hl hG e hgs hgo (fun a x σ H i cp Nx v s1 gs' r hac _ I st hy at_ kap => item a x σ H i cp Nx v s1 gs' r hac I st hy at_ kap) fun a σ H cp s1 hac _ I q => done a σ H cp s1 hac I q
/-- all(..) asks on -/
theorem all_gx {R : Result → Shared → Prop} {Stop : Hp → Prop} {End : Unit → Hp → Prop} (hh : A.handled = none) (hroom : A.depth < recursionLimit) (hG : GenObj go gn)
    (yes : ∀ (σ : L2.St) (H : Hp) (cp : List (Addr × Obj)) (s1 : Shared), Inv (gblk X A' s_0 H_0 cenv fp) cp σ H s1 → End () H → R (.ok (.ret (.bool true))) s1)
    (no : ∀ (σ : L2.St) (H : Hp) (cp : List (Addr × Obj)) (s1 : Shared), Inv (gblk X A' s_0 H_0 cenv fp) cp σ H s1 → Stop H → R (.ok (.ret (.bool false))) s1) :
    ∀ (n : Nat) (s : Shared), s.heap.NoLimit → s.heap.get? ga = some go → (∃ gs, s.gens[gn]? = some gs ∧ gs.Goes (model X.prog X.w) A.in1.in1 (RG (gblk X A' s_0 H_0 cenv fp) (fun _ cp => cp = [(ga, go)]) End)
      (YG (gblk X A' s_0 H_0 cenv fp) fp tn (fun _ cp => cp = [(ga, go)]) (fun _ y H Nx => ∃ b : Bool, y = .bl b ∧ if b = true then Nx () H else Stop H)) n (.send .none) (s.setGen gn .running)) →
      codeAny (model X.prog X.w) A (.builtin "all.loop" ⟨[.ref ga], []⟩) R s := by
  intro n
  induction n with
  | zero =>
    rintro s hl e ⟨gs, hgs, hgo⟩
    refine codeAny_builtin F.entry_all_loop ?_
    rw [Around.under_plainId F.plain_all_loop _]
    show wpAny _ A.in1 (pyNext (.ref ga) >>= _) _ _ s
    refine wpAny_bind (next_gx (A := A.in1) hh hroom hl hG e hgs hgo (fun a x σ H i cp Nx v s1 gs' r hac I st hy at_ kap => ?_) fun a σ H cp s1 hac I q => ?_)
    · obtain ⟨b, rfl, hb⟩ := hy
      cases (show v = Value.bool b from r)
      refine wpAny_bind (wpAny_holding (wpAny_truthy_bool ?_))
      refine wpAny_bind (wpAny_letGo ?_)
      cases b with
      | true =>
        obtain ⟨m, hm, _⟩ := kap () cp s1 hb hac I st
        cases hm
      | false =>
        simp only [Bool.false_eq_true, if_false] at hb ⊢
        exact wpAny_bind (wpAny_rule (wpAny_pure (no σ H cp s1 I hb)))
    · exact wpAny_bind (wpAny_rule (wpAny_pure (yes σ H cp s1 I q)))
  | succ n ih =>
    rintro s hl e ⟨gs, hgs, hgo⟩
    refine codeAny_builtin F.entry_all_loop ?_
    rw [Around.under_plainId F.plain_all_loop _]
    show wpAny _ A.in1 (pyNext (.ref ga) >>= _) _ _ s
    refine wpAny_bind (next_gx (A := A.in1) hh hroom hl hG e hgs hgo (fun a x σ H i cp Nx v s1 gs' r hac I st hy at_ kap => ?_) fun a σ H cp s1 hac I q => ?_)
    · obtain ⟨b, rfl, hb⟩ := hy
      cases (show v = Value.bool b from r)
      refine wpAny_bind (wpAny_holding (wpAny_truthy_bool ?_))
      refine wpAny_bind (wpAny_letGo ?_)
      cases b with
      | true =>
        simp only [if_true] at hb ⊢
        subst hac
        refine wpAny_pure ⟨plainId_quiet F.plain_all_loop _, ih s1 I.nolimit (I.pin (ga, go) (List.mem_append_right _ List.mem_cons_self)).1 ⟨gs', at_, ?_⟩⟩
        obtain ⟨m, hm, z⟩ := kap () [(ga, go)] (s1.setGen gn .running) hb rfl (inv_moved I rfl (allBare_setGen I.bare rfl) fun _ _ q => q) st
        cases hm
        exact z
      | false =>
        simp only [Bool.false_eq_true, if_false] at hb ⊢
        exact wpAny_bind (wpAny_rule (wpAny_pure (no σ H cp s1 I hb)))
    · exact wpAny_bind (wpAny_rule (wpAny_pure (yes σ H cp s1 I q)))
end
section
variable {X : Cx}
/-- all(elt for tg in iter ..) -/
def tAllX (P : Addr) (wi : TI) (g : TG) (tt : TT) (te : TE) (vs : List Nat) : TE := fun σ H Q => wi σ H fun J H1 => GxR.TabG H1 P ∧ ∀ H2, GxR.Tabbed P H1 H2 → ∃ W : Nat → Nat → Unit → Hp → Prop, (∃ m, W 0 m () H2) ∧
  tGx J g tt te (wipe σ vs) vs (fun _ H => Q (.bl true) H) (fun _ y H Nx => ∃ b : Bool, y = .bl b ∧ if b = true then Nx () H else Q (.bl false) H) W
theorem pe_allX {c P : Addr} {elt tg iter : Expr} {ifs : List Expr} {p pos gpos : Pos} {scope : Scope} {own : List (Str × Nat)} {wi : TI} {g : TG} {tt : TT} {te : TE} {k : Nat}
    (hr : Room (k + 1) X.A) (hc : X.calm = true) (hN : X.N.Nodup) (hgl : Gl X "all") (hm : X.mg "all" = none) (hb : bootBuiltins "all" = some (.builtin "all")) (TB : GxR.TabB X.base X.mg c P) (hcode : X.env.code = .ref c)
    (hco : scope.isCoroutine = false) (hdot : scope.names.lookup (".0" : Str) = some NameKind.local) (nocell : ∀ y ∈ scope.names, y.2 ≠ .cell) (ok : BlkOk X.N X.env.scope scope own) (hi : PI X tg iter wi)
    (hg : ∀ (A' : Around) (s : Shared) (H : Hp) (C : Addr) (cl : List (Str × Addr)) (code : Value) (fp : List Addr), Room k A' → A'.guards = X.A.guards → PG (gblk X A' s H (genEnv scope cl C code builtinsNs X.env) fp) tg g)
    (ht : ∀ (A' : Around) (s : Shared) (H : Hp) (C : Addr) (cl : List (Str × Addr)) (code : Value) (fp : List Addr), Room k A' → A'.guards = X.A.guards → PTs (gblk X A' s H (genEnv scope cl C code builtinsNs X.env) fp) ifs tt)
    (he : ∀ (A' : Around) (s : Shared) (H : Hp) (C : Addr) (cl : List (Str × Addr)) (code : Value) (fp : List Addr), Room k A' → A'.guards = X.A.guards → PE (gblk X A' s H (genEnv scope cl C code builtinsNs X.env) fp) elt te)
    (hs : ∀ v, genFold iter X.env v = pure v)
    (hst : starEach [.GeneratorExp elt [⟨tg, iter, ifs, 0⟩] scope gpos] X.env = (false, eval (.GeneratorExp elt [⟨tg, iter, ifs, 0⟩] scope gpos) X.env) :: starEach [] X.env := by rfl) :
    PE X (.Call (.Name "all" p) [.GeneratorExp elt [⟨tg, iter, ifs, 0⟩] scope gpos] [] pos) (tAllX P wi g tt te (own.map (·.2))) := by
  refine ⟨fun pins s σ H Q I h => ?_⟩
  refine wpAny_Call_Name_kw (ld_blt I hgl hm hb ?_)
  refine PyProof.Rows.callWith_builtin1 ?_ hst (by rfl)
  rw [hst]
  show wpAny _ _ (spliced ((false, eval (.GeneratorExp elt [⟨tg, iter, ifs, 0⟩] scope gpos) X.env) :: backTo pos (starEach [] X.env))) _ _ s
  refine Calls.spliced_cons (gx_make (A := X.A.in1.in1) hr ⟨rfl, rfl, rfl, rfl, (by show X.A.units + 1 + 1 ≤ _; omega)⟩ hc hN TB hcode hco hdot nocell ok hi hg ht he hs I h fun J H1 H2 u s5 hR hT hG => ?_)
  obtain ⟨A', s_0, H_0, cenv, fp, ga, gn, go, tn, gs, rfl, hGO, hgs, hbare, I5, st5, nf, hlt, keep, back, goes⟩ := hG
  obtain ⟨W, ⟨m, w0⟩, turn⟩ := hR H2 hT
  refine Calls.spliced_nil ?_
  have pin5 := (I5.pin (ga, go) (List.mem_append_right _ List.mem_cons_self)).1
  refine call_function_tree F.kind_all F.plain_all F.entry_all (F.args_all1 _) ?_
  unfold Builtin.«all»
  refine wpAny_bind (m := oneArg "all" _) (wpAny_pure ?_)
  refine wpAny_bind (wpAny_pyIter_gen (hGO.isGen pin5) ?_)
  refine wpAny_pure ⟨plainId_quiet F.plain_all_loop _, all_gx (A' := A') (s_0 := s_0) (H_0 := H_0) (cenv := cenv) (fp := fp) (tn := tn) (go := go) (gn := gn) (Stop := fun H => Q (.bl false) H) (End := fun _ H => Q (.bl true) H) hr.hd hr.depth hGO
    (fun σ' H' cp s1 I1 q => ⟨.bl true, H', back _ _ _ _ I1, rfl, q⟩) (fun σ' H' cp s1 I1 q => ⟨.bl false, H', back _ _ _ _ I1, rfl, q⟩) (m + 1) s5 I5.nolimit pin5 ⟨gs, hgs, ?_⟩⟩
  refine goes Unit _ _ _ W m (m + 1) () [(ga, go)] _ turn w0 (Nat.lt_succ_self _) (fun a cp hac p hp b hb z => ?_) rfl (inv_moved I5 rfl (allBare_setGen I5.bare rfl) fun _ _ q => q) st5
  subst hac
  have e : p = (ga, go) := by simpa using hp
  subst e
  exact absurd (hlt b hb) (by rw [← z]; exact Nat.lt_irrefl _)
end
/-! ### tuple(..) -/
section
variable {X : Cx} {A A' : Around} {s_0 : Shared} {H_0 : Hp} {cenv : Env} {fp : List Addr} {tn : Nat → Heap → Prop} {ga S : Addr} {gn n : Nat} {go : Obj}
/-- the asker's list S holds what is out -/
def ACl (ga : Addr) (go : Obj) (S : Addr) (ys : List V) (cp : List (Addr × Obj)) : Prop := ∃ (acc : Array Value) (c : Nat), cp = [(ga, go), (S, lstObj acc c)] ∧ Vals ys acc.toList
def YdL (ys : List V) (y : V) (H : Hp) (Nx : List V → Hp → Prop) : Prop := ys.length < sizeLine ∧ Nx (ys ++ [y]) H
theorem ext_gx {R : Result → Shared → Prop} {End : List V → Hp → Prop} {res : Value} (hh : A.handled = none) (hroom : A.depth < recursionLimit) (hG : GenObj go gn) (hSa : S ≠ ga) (far : (gblk X A' s_0 H_0 cenv fp).s_0.heap.objs.size ≤ S) (hSc : ∀ x c, cenv.cells.lookup x = some c → c ≠ S)
    (keep : ∀ i h h', tn i h → (∀ b ∈ fp, ∀ o, h.get? b = some o → h'.get? b = some o) → tn i h') (hSf : ∀ b ∈ fp, b ≠ S)
    (yes : ∀ (σ : L2.St) (H : Hp) (ys : List V) (acc : Array Value) (c : Nat) (s1 : Shared), Inv (gblk X A' s_0 H_0 cenv fp) [(ga, go), (S, lstObj acc c)] σ H s1 → Vals ys acc.toList → End ys H → R (.ok (.ret res)) s1) :
    ∀ (n : Nat) (s : Shared), s.heap.NoLimit → s.heap.get? ga = some go → (∃ gs, s.gens[gn]? = some gs ∧ gs.Goes (model X.prog X.w) A.in1.in1 (RG (gblk X A' s_0 H_0 cenv fp) (ACl ga go S) End)
      (YG (gblk X A' s_0 H_0 cenv fp) fp tn (ACl ga go S) YdL) n (.send .none) (s.setGen gn .running)) →
      codeAny (model X.prog X.w) A (.builtin "list.extend.loop" ⟨[.ref S, .ref ga, res], []⟩) R s := by
  intro n
  induction n with
  | zero =>
    rintro s hl e ⟨gs, hgs, hgo⟩
    refine codeAny_builtin F.entry_extend_loop ?_
    rw [Around.under_plainId F.plain_extend_loop _]
    show wpAny _ A.in1 (pyNext (.ref ga) >>= _) _ _ s
    refine wpAny_bind (next_gx (A := A.in1) hh hroom hl hG e hgs hgo (fun ys x σ H i cp Nx v s1 gs' r hac I st hy at_ kap => ?_) fun ys σ H cp s1 hac I q => ?_)
    · obtain ⟨acc, c, rfl, rv⟩ := hac
      have pS := I.pin (S, lstObj acc c) (List.mem_append_right _ (List.mem_cons_of_mem _ List.mem_cons_self))
      have I0 : Inv (gblk X A' s_0 H_0 cenv fp) [(ga, go)] σ H s1 := I.pins_of fun p hp => I.pin p (List.mem_append_right _ (by rw [List.mem_singleton.mp hp]; exact List.mem_cons_self))
      have I1 := I0.turned (t' := s1.toks) (h' := s1.heap.update S (Obj.mapSeq (·.push v))) (it := S) (fun b o hb q => (Heap.get?_update_other _ _ (Ne.symm hb)).trans q) pS.2.1 pS.2.2.1 (.inr far) hSc (fun p hp => by rw [List.mem_singleton.mp (show p ∈ [(ga, go)] by simpa using hp)]; exact Ne.symm hSa)
      have e2 := Heap.get?_update_self (Obj.mapSeq (·.push v)) pS.1 rfl
      obtain ⟨m, hm, _⟩ := kap (ys ++ [x]) [(ga, go), (S, _)] _ hy.2 ⟨acc.push v, _, rfl, by rw [Array.toList_push]; exact rv.append (.cons r .nil)⟩ (I1.pins_of fun p hp => by
        rcases List.mem_cons.mp hp with z | z
        · rw [z]; exact I1.pin (ga, go) (List.mem_append_right _ List.mem_cons_self)
        · rw [List.mem_singleton.mp z]; exact ⟨e2, pS.2.1, pS.2.2.1, pS.2.2.2.1, fun v q => by cases q⟩) (keep _ _ _ st fun b hb o q => (Heap.get?_update_other _ _ (Ne.symm (hSf b hb))).trans q)
      cases hm
    · obtain ⟨acc, c, rfl, rv⟩ := hac
      exact wpAny_pure (yes σ H ys acc c s1 I rv q)
  | succ n ih =>
    rintro s hl e ⟨gs, hgs, hgo⟩
    refine codeAny_builtin F.entry_extend_loop ?_
    rw [Around.under_plainId F.plain_extend_loop _]
    show wpAny _ A.in1 (pyNext (.ref ga) >>= _) _ _ s
    refine wpAny_bind (next_gx (A := A.in1) hh hroom hl hG e hgs hgo (fun ys x σ H i cp Nx v s1 gs' r hac I st hy at_ kap => ?_) fun ys σ H cp s1 hac I q => ?_)
    · obtain ⟨acc, c, rfl, rv⟩ := hac
      have pS := I.pin (S, lstObj acc c) (List.mem_append_right _ (List.mem_cons_of_mem _ List.mem_cons_self))
      have I0 : Inv (gblk X A' s_0 H_0 cenv fp) [(ga, go)] σ H s1 := I.pins_of fun p hp => I.pin p (List.mem_append_right _ (by rw [List.mem_singleton.mp hp]; exact List.mem_cons_self))
      have I1 := I0.turned (t' := s1.toks) (h' := s1.heap.update S (Obj.mapSeq (·.push v))) (it := S) (fun b o hb q => (Heap.get?_update_other _ _ (Ne.symm hb)).trans q) pS.2.1 pS.2.2.1 (.inr far) hSc (fun p hp => by rw [List.mem_singleton.mp (show p ∈ [(ga, go)] by simpa using hp)]; exact Ne.symm hSa)
      have e2 := Heap.get?_update_self (Obj.mapSeq (·.push v)) pS.1 rfl
      have hln := rv.length
      have hlt : acc.size < sizeLine := by
        have := hy.1
        rw [hln] at this
        simpa using this
      have pG := I1.pin (ga, go) (List.mem_append_right _ List.mem_cons_self)
      show wpAny _ A.in1 (updateSeq S (·.push v) >>= _) _ _ _
      refine wpAny_bind ?_
      refine wpAny_updateSeq pS.1 rfl (wpAny_pure ⟨plainId_quiet F.plain_extend_loop _, ih _ I1.nolimit pG.1 ⟨gs', at_, ?_⟩⟩) (Nat.le_of_lt hlt) (by show (acc.push v).size ≤ sizeLine + 1; rw [Array.size_push]; omega)
      obtain ⟨m, hm, z⟩ := kap (ys ++ [x]) [(ga, go), (S, _)] (({ s1 with heap := s1.heap.update S (Obj.mapSeq (·.push v)) } : Shared).setGen gn .running) hy.2 ⟨acc.push v, _, rfl, by rw [Array.toList_push]; exact rv.append (.cons r .nil)⟩ (inv_moved (I1.pins_of fun p hp => by
        rcases List.mem_cons.mp hp with z | z
        · rw [z]; exact pG
        · rw [List.mem_singleton.mp z]; exact ⟨e2, pS.2.1, pS.2.2.1, pS.2.2.2.1, fun v q => by cases q⟩) rfl (allBare_setGen (s := { s1 with heap := s1.heap.update S (Obj.mapSeq (·.push v)) }) I1.bare rfl) fun _ _ q => q) (keep _ _ _ st fun b hb o q => (Heap.get?_update_other _ _ (Ne.symm (hSf b hb))).trans q)
      cases hm
      exact z
    · obtain ⟨acc, c, rfl, rv⟩ := hac
      exact wpAny_pure (yes σ H ys acc c s1 I rv q)
end
section
variable {X : Cx} {pins : List (Addr × Obj)} {σ : L2.St} {s5 : Shared} {J : It} {g : TG} {tt : TT} {te : TE} {vs : List Nat} {H4 : Hp} {u : Value}
/-- all that a generator hands out, in a list of the asker's own -/
theorem collect_gx {A : Around} {E : Value → Shared → Prop} {Q : List Value → Shared → Prop} {End : List V → Hp → Prop} {W : Nat → Nat → List V → Hp → Prop} {m : Nat} (hh : A.handled = none) (hroom : A.depth < recursionLimit) (G : Gx X pins σ A.in1.in1 J g tt te vs H4 u s5)
    (w0 : W 0 m [] H4) (turn : tGx J g tt te (wipe σ vs) vs End YdL W)
    (hQ : ∀ (s' : Shared) (acc : Array Value) (ys : List V) (H' : Hp), Inv X pins σ H' s' → Vals ys acc.toList → End ys H' → Q acc.toList s') : wpAny (model X.prog X.w) A (collect u) Q E s5 := by
  obtain ⟨A', s_0, H_0, cenv, fp, ga, gn, go, tn, gs, rfl, hGO, hgs, hbare, I5, st5, nf, hlt, keep, back, goes⟩ := G
  have pin5 := I5.pin (ga, go) (List.mem_append_right _ List.mem_cons_self)
  have glt : ga < s5.heap.objs.size := Heap.lt_size pin5.1
  have hSI : s5.heap.objs.size ≠ ga := Nat.ne_of_gt glt
  unfold collect
  refine wpAny_bind (wpAny_runValue (codeAny_builtin F.entry_proto_collect ?_))
  rw [Around.under_plainId F.plain_proto_collect _]
  show wpAny _ A.in1 (newList [] >>= fun l => again (.builtin "list.__iadd__" ⟨[l, .ref ga], []⟩)) _ _ s5
  refine wpAny_bind (wpAny_newObj_type ?_)
  refine wpAny_pure ⟨plainId_quiet F.plain_list_iadd _, codeAny_builtin F.entry_list_iadd ?_⟩
  rw [Around.under_plainId F.plain_list_iadd _]
  show wpAny _ A.in1 (Builtin.List.listExtendWith (.ref s5.heap.objs.size) (.ref ga) (.ref s5.heap.objs.size)) _ _ _
  unfold Builtin.List.listExtendWith
  have k1 : ∀ b o, s5.heap.get? b = some o → (s5.heap.push { cls := .type "list", data := .seq ([] : List Value).toArray }).get? b = some o := fun b o e => Heap.get?_push_of_some _ e
  have hT : Shared.TypeIs { s5 with heap := s5.heap.push { cls := .type "list", data := .seq ([] : List Value).toArray } } (.ref ga) "generator" := Heap.IsGen.typeIs (s := { s5 with heap := _ }) (hGO.isGen (k1 _ _ pin5.1))
  refine wpAny_bind (wpAny_typeOf hT ?_)
  have h1 : Builtin.List.listSameRef (.ref s5.heap.objs.size) (.ref ga) = false := by simp [Builtin.List.listSameRef, hSI]
  have h2 : (Value.type "generator" == Value.type "list") = false := by decide
  have h3 : (Value.type "generator" == Value.type "tuple") = false := by decide
  simp only [h1, h2, h3, Bool.or_false, Bool.false_eq_true, if_false]
  refine wpAny_bind (wpAny_pyIter_gen (s := { s5 with heap := _ }) (hGO.isGen (k1 _ _ pin5.1)) ?_)
  refine wpAny_bind (wpAny_holding ?_)
  unfold Builtin.List.listLengthHint
  refine wpAny_bind (wpAny_specialOf hT F.gen_no_len ?_)
  show wpAny _ A.in1 (specialOf (Value.ref ga) (Str.ofString "__length_hint__") >>= _) _ _ _
  refine wpAny_bind (wpAny_specialOf hT F.gen_no_hint ?_)
  refine wpAny_pure ?_
  show wpAny _ A.in1 (rule "list.extend.makes-room" >>= fun _ => Builtin.List.listTouch (.ref s5.heap.objs.size) >>= fun _ =>
    again (.builtin "list.extend.loop" ⟨[.ref s5.heap.objs.size, .ref ga, .ref s5.heap.objs.size], []⟩)) _ _ _
  refine wpAny_bind (wpAny_rule ?_)
  have hS₁ : (s5.heap.push { cls := .type "list", data := .seq ([] : List Value).toArray }).get? s5.heap.objs.size = some { cls := .type "list", data := .seq ([] : List Value).toArray } := Heap.get?_push_size _ rfl
  refine wpAny_bind ?_
  show wpAny _ A.in1 (updateSeq s5.heap.objs.size (·.push .none) >>= fun _ => updateSeq s5.heap.objs.size (·.pop)) _ _ _
  refine wpAny_bind (wpAny_updateSeq hS₁ rfl ?_)
  have hS₂ := Heap.get?_update_self (Obj.mapSeq (·.push Value.none)) hS₁ rfl
  refine wpAny_updateSeq hS₂ rfl ?_
  have hS₃ := Heap.get?_update_self (Obj.mapSeq (·.pop)) hS₂ rfl
  obtain ⟨c3, hS₄⟩ : ∃ c, (((s5.heap.push { cls := .type "list", data := .seq ([] : List Value).toArray }).update s5.heap.objs.size (Obj.mapSeq (·.push Value.none))).update s5.heap.objs.size (Obj.mapSeq (·.pop))).get? s5.heap.objs.size = some (lstObj #[] c) := ⟨_, hS₃⟩
  have k3 : ∀ b o, s5.heap.get? b = some o → (((s5.heap.push { cls := .type "list", data := .seq ([] : List Value).toArray }).update s5.heap.objs.size (Obj.mapSeq (·.push Value.none))).update s5.heap.objs.size (Obj.mapSeq (·.pop))).get? b = some o :=
    fun b o e => (Heap.get?_update_other _ _ (Ne.symm (Nat.ne_of_lt (Heap.lt_size e)))).trans ((Heap.get?_update_other _ _ (Ne.symm (Nat.ne_of_lt (Heap.lt_size e)))).trans (k1 b o e))
  have fS : FpOk (gblk X A' s_0 H_0 cenv fp) [(ga, go)] H4 s5.heap.objs.size := I5.fpOk (Nat.le_refl _) (I5.hok.fresh (Nat.le_refl _))
  have hfS : ∀ b ∈ fp, b ≠ s5.heap.objs.size := fun b hb => Nat.ne_of_lt (Nat.lt_trans (hlt b hb) glt)
  have I6 := inv_moved (s' := { s5 with heap := ((s5.heap.push { cls := .type "list", data := .seq ([] : List Value).toArray }).update s5.heap.objs.size (Obj.mapSeq (·.push Value.none))).update s5.heap.objs.size (Obj.mapSeq (·.pop)) }) I5 rfl I5.bare k3
  refine wpAny_pure ⟨plainId_quiet F.plain_extend_loop _, ext_gx (A := A) (A' := A') (s_0 := s_0) (H_0 := H_0) (cenv := cenv) (fp := fp) (tn := tn) (go := go) (gn := gn) (End := End) hh hroom hGO hSI ?_ fS.2.2.2.2.1 keep hfS
    (fun σ' H' ys acc c s1 I1 rv q => ?_) (m + 1) _ I6.nolimit (k3 _ _ pin5.1) ⟨gs, hgs, ?_⟩⟩
  · exact Nat.le_trans I5.sz (Nat.le_refl _)
  · show wpAny _ A (load s5.heap.objs.size >>= _) _ _ s1
    have pS := (I1.pin (s5.heap.objs.size, lstObj acc c) (List.mem_append_right _ (List.mem_cons_of_mem _ List.mem_cons_self))).1
    refine wpAny_bind (wpAny_load pS ?_)
    exact wpAny_pure (hQ s1 acc ys H' (back _ _ _ _ I1) rv q)
  · refine goes (List V) (ACl ga go s5.heap.objs.size) End YdL W m (m + 1) [] [(ga, go), (s5.heap.objs.size, lstObj #[] c3)] _ turn w0 (Nat.lt_succ_self _) (fun ys cp hac p hp b hb z => ?_) ⟨#[], c3, rfl, .nil⟩
      (inv_moved (I6.pins_of fun p hp => ?_) rfl (allBare_setGen (s := { s5 with heap := _ }) I5.bare rfl) fun _ _ q => q) (keep _ _ _ st5 fun b hb o q => k3 b o q)
    · obtain ⟨acc, c, rfl, _⟩ := hac
      rcases List.mem_cons.mp hp with e | e
      · rw [e] at z
        exact absurd (hlt b hb) (by rw [← z]; exact Nat.lt_irrefl _)
      · rw [List.mem_singleton.mp e] at z
        exact hfS b hb z.symm
    · rcases List.mem_cons.mp hp with e | e
      · rw [e]
        exact I6.pin (ga, go) (List.mem_append_right _ List.mem_cons_self)
      · rw [List.mem_singleton.mp e]
        exact ⟨hS₄, fS.1, fS.2.1, fS.2.2.1, fun v q => by cases q⟩
end
section
variable {X : Cx}
/-- tuple(elt for tg in iter ..) -/
def tTupX (P : Addr) (wi : TI) (g : TG) (tt : TT) (te : TE) (vs : List Nat) : TE := fun σ H Q => wi σ H fun J H1 => GxR.TabG H1 P ∧ ∀ H2, GxR.Tabbed P H1 H2 → ∃ W : Nat → Nat → List V → Hp → Prop, (∃ m, W 0 m [] H2) ∧
  tGx J g tt te (wipe σ vs) vs (fun ys H => ys.length ≤ sizeLine ∧ ∀ p, H p = none → Q (.ref p) (upd H p (.tup ys))) YdL W
theorem pe_tupX {c P : Addr} {elt tg iter : Expr} {ifs : List Expr} {p pos gpos : Pos} {scope : Scope} {own : List (Str × Nat)} {wi : TI} {g : TG} {tt : TT} {te : TE} {k : Nat}
    (hr : Room (k + 1) X.A) (hc : X.calm = true) (hN : X.N.Nodup) (hgl : Gl X "tuple") (hm : X.mg "tuple" = none) (hb : bootBuiltins "tuple" = some (.type "tuple")) (TB : GxR.TabB X.base X.mg c P) (hcode : X.env.code = .ref c)
    (hco : scope.isCoroutine = false) (hdot : scope.names.lookup (".0" : Str) = some NameKind.local) (nocell : ∀ y ∈ scope.names, y.2 ≠ .cell) (ok : BlkOk X.N X.env.scope scope own) (hi : PI X tg iter wi)
    (hg : ∀ (A' : Around) (s : Shared) (H : Hp) (C : Addr) (cl : List (Str × Addr)) (code : Value) (fp : List Addr), Room k A' → A'.guards = X.A.guards → PG (gblk X A' s H (genEnv scope cl C code builtinsNs X.env) fp) tg g)
    (ht : ∀ (A' : Around) (s : Shared) (H : Hp) (C : Addr) (cl : List (Str × Addr)) (code : Value) (fp : List Addr), Room k A' → A'.guards = X.A.guards → PTs (gblk X A' s H (genEnv scope cl C code builtinsNs X.env) fp) ifs tt)
    (he : ∀ (A' : Around) (s : Shared) (H : Hp) (C : Addr) (cl : List (Str × Addr)) (code : Value) (fp : List Addr), Room k A' → A'.guards = X.A.guards → PE (gblk X A' s H (genEnv scope cl C code builtinsNs X.env) fp) elt te)
    (hs : ∀ v, genFold iter X.env v = pure v)
    (hst : starEach [.GeneratorExp elt [⟨tg, iter, ifs, 0⟩] scope gpos] X.env = (false, eval (.GeneratorExp elt [⟨tg, iter, ifs, 0⟩] scope gpos) X.env) :: starEach [] X.env := by rfl) :
    PE X (.Call (.Name "tuple" p) [.GeneratorExp elt [⟨tg, iter, ifs, 0⟩] scope gpos] [] pos) (tTupX P wi g tt te (own.map (·.2))) := by
  refine ⟨fun pins s σ H Q I h => ?_⟩
  refine wpAny_Call_Name_kw (ld_blt I hgl hm hb ?_)
  refine PyProof.Rows.callWith_type1 ?_ hst (by rfl)
  rw [hst]
  show wpAny _ _ (spliced ((false, eval (.GeneratorExp elt [⟨tg, iter, ifs, 0⟩] scope gpos) X.env) :: backTo pos (starEach [] X.env))) _ _ s
  refine Calls.spliced_cons (gx_make (A := X.A.in1.in1.in1.in1) hr ⟨rfl, rfl, rfl, rfl, (by show X.A.units + 1 + 1 + 1 + 1 ≤ _; omega)⟩ hc hN TB hcode hco hdot nocell ok hi hg ht he hs I h fun J H1 H2 u s5 hR hT hG => ?_)
  obtain ⟨W, ⟨m, w0⟩, turn⟩ := hR H2 hT
  refine Calls.spliced_nil ?_
  have ⟨A', s_0, H_0, cenv, fp, ga, gn, go, tn, gs, eu, hGO, hgs, hbare, I5, st5, nf, hlt, keep, back, goes⟩ := hG
  have pin5 := (I5.pin (ga, go) (List.mem_append_right _ List.mem_cons_self)).1
  rw [eu] at hG ⊢
  refine callType_codes (Q₁ := fun obj s₁ => s₁.TypeIs obj "tuple" ∧ EP X pins σ Q obj s₁) F.called_tuple (F.typeCall_tuple_1 _) F.entry_object_init ?_ fun obj s₁ h₁ =>
    ⟨h₁.1, F.args_object_init_2 obj _, object_init_meets F.called_tuple.init.lookup F.called_tuple.made (by decide) X.prog X.w X.A.in1 _ s₁ ⟨h₁.1, rfl, h₁.2⟩⟩
  refine codeAny_of_tree ?_
  show wpAny _ X.A.in1.in1 (do checkBuiltinCall "tuple.__new__" ⟨[.type "tuple", .ref ga], []⟩; again (.builtin "tuple.__new__" ⟨[.type "tuple", .ref ga], []⟩)) _ _ s5
  refine wpAny_bind (wpAny_of_eq (F.newCall_tuple_1 _) (wpAny_pure ⟨plainId_quiet F.plain_tuple_new _, codeAny_builtin F.entry_tuple_new ?_⟩))
  rw [Around.under_plainId F.plain_tuple_new _]
  have hsub := sub_tuple_self
  have hinit := init_tuple_lookup
  have hmh := madeHere_tuple
  have hTI : s5.TypeIs (.ref ga) "generator" := (hGO.isGen pin5).typeIs
  have col : ∀ {Q0 : List Value → Shared → Prop} {E0 : Value → Shared → Prop}, (∀ (s' : Shared) (acc : Array Value), (∃ (ys : List V) (H' : Hp), Inv X pins σ H' s' ∧ Vals ys acc.toList ∧ ys.length ≤ sizeLine ∧ ∀ p, H' p = none → Q (.ref p) (upd H' p (.tup ys))) → Q0 acc.toList s') →
      wpAny (model X.prog X.w) X.A.in1.in1 (collect (.ref ga)) Q0 E0 s5 := fun hq => collect_gx hr.hd hr.depth hG w0 turn (fun s' acc ys H' I' rv q => hq s' acc ⟨ys, H', I', rv, q.1, q.2⟩)
  wp_walk using wpAny_typeOf hTI, col
  rintro s' acc ⟨ys, H', I', rv, small, q⟩
  show wpAny _ _ (Builtin.Tuple.tupleExact acc.toList.toArray >>= fun v => ret v) _ _ _
  unfold Builtin.Tuple.tupleExact
  refine wpAny_bind (wpAny_newObj_type ?_ (by show acc.toList.toArray.size ≤ sizeLine; rw [List.size_toArray, ← rv.length]; exact small))
  refine wpAny_pure ?_
  have free : H' s'.heap.objs.size = none := I'.hok.fresh (Nat.le_refl _)
  refine ⟨⟨_, Heap.get?_push_size _ rfl, rfl⟩, .ref s'.heap.objs.size, upd H' s'.heap.objs.size (.tup ys), I'.laid (t' := s'.toks) (fun b u z => Heap.get?_push_of_some _ z) (Nat.le_refl _) ⟨small, acc.toList, rv, ?_⟩, rfl, q _ free⟩
  exact ⟨_, Heap.get?_push_size _ rfl, rfl, 0, rfl⟩
end
/-! ### a def by its body, its code object known -/
theorem okC {P : Program} {w : World} {K : PySem.W.Frag} {mg : Str → Option Value} {base : Heap} {x qual : Str} {st : Stmt} {f : Addr} {fd : FuncData} {N ps : List Str} {k : Nat} {sp : Sp} (F : Fun K x qual st f fd) (S : FnScope N ps (defScope st)) (len : ∀ vs H Q E, sp vs H Q E → vs.length = ps.length)
    (body : ∀ (A : Around) (outer : List Env) (s : Shared) (H : Hp) (vs : List V) (Q : VK) (E : XK), Room k (A.deeper (envOfC qual (defScope st) s.heap.objs.size f fd.code)) → sp vs H Q E →
      ∃ t, PSs (cxOf CX0 P w K mg base N qual (defScope st) f fd.code A outer s H E).nox (defBody st) t ∧ t { nx := fun _ H' => Q .non H', rt := Q } (start N vs) H) : FnOk P w K mg base CX0 (k + 1) f fd ps sp := by
  obtain ⟨oc, od, kV, doc, pm, an, cdv, ct, osl, rfl, lk, hcd⟩ := F.ex
  refine fn_of lk hcd S len fun A outer s H vs Q E hr hsp => ?_
  obtain ⟨t, h, q⟩ := body A outer s H vs Q E hr hsp
  exact ⟨t, h.nox, q⟩
/-! ### from the head's facts -/
theorem fun_of {K : PySem.W.Frag} {x qual : Str} {st : Stmt} {f : Addr} {fd : FuncData} (F : FunD K x qual (defArgs st) (defBody st) (defScope st) [] [] f fd) : Fun K x qual st f fd := by
  obtain ⟨oc, od, dV, kV, doc, pm, an, cdv, ct, osl, rfl, lk, hcd, hd, _⟩ := F.ex
  rcases hd with ⟨_, rfl⟩ | ⟨z, _⟩
  · exact ⟨⟨oc, od, kV, doc, pm, an, cdv, ct, osl, rfl, lk, hcd⟩, F.kp⟩
  · exact absurd rfl z
theorem code_of {K : PySem.W.Frag} {x qual : Str} {st : Stmt} {p : He.Defn} {fd : FuncData} (F : Fun K x qual st (He.fAd K p) fd) : fd.code = .ref (He.cT K p).1 := by
  obtain ⟨oc, od, kV, doc, pm, an, cdv, ct, osl, rfl, lk, hcd⟩ := F.ex
  obtain ⟨c, rfl⟩ := He.codeIn_ref hcd
  show Value.ref c = Value.ref (He.codeOf K p)
  rw [He.codeOf_eq lk rfl]
theorem tab_of {base : Heap} {mg : Str → Option Value} {c P : Addr} (h : LamX.TabB base mg c P) : GxR.TabB base mg c P := ⟨h.code, h.bm, h.gP⟩
/-! ### heaps whose tables grow -/
def Tabs (H : Hp) (Ps : List Addr) : Prop := ∀ P ∈ Ps, GxR.TabG H P
/-- what is no table stays; tables stay tables -/
def Gr (H H' : Hp) : Prop := (∀ b o, (∀ ps, o ≠ HO.tbl ps) → H b = some o → H' b = some o) ∧ ∀ b, GxR.TabG H b → GxR.TabG H' b
theorem Gr.refl {H : Hp} : Gr H H := ⟨fun _ _ _ e => e, fun _ e => e⟩
theorem Gr.trans {H H1 H2 : Hp} (a : Gr H H1) (b : Gr H1 H2) : Gr H H2 := ⟨fun c o n e => b.1 c o n (a.1 c o n e), fun c e => b.2 c (a.2 c e)⟩
theorem Gr.of {H H' : Hp} (h : ∀ b o, H b = some o → H' b = some o) : Gr H H' := ⟨fun b o _ e => h b o e, fun b ⟨ps, e, t⟩ => ⟨ps, h _ _ e, t⟩⟩
theorem Gr.tab {P : Addr} {H H' : Hp} (t : GxR.TabG H P) (h : GxR.Tabbed P H H') : Gr H H' := by
  obtain ⟨ps, e, _⟩ := t
  refine ⟨fun b o n q => ?_, fun b q => ?_⟩
  · by_cases hb : b = P
    · rw [hb, e] at q
      exact absurd (Option.some.inj q).symm (n ps)
    · rw [h.2 b hb]; exact q
  · by_cases hb : b = P
    · rw [hb]; exact h.1
    · obtain ⟨ps', e', t'⟩ := q
      exact ⟨ps', by rw [h.2 b hb]; exact e', t'⟩
theorem Gr.tup {H H' : Hp} (g : Gr H H') {a : Addr} {xs : List V} (h : H a = some (.tup xs)) : H' a = some (.tup xs) := g.1 a _ (fun _ z => by cases z) h
theorem Gr.lst {H H' : Hp} (g : Gr H H') {a : Addr} {xs : List V} (h : H a = some (.lst xs)) : H' a = some (.lst xs) := g.1 a _ (fun _ z => by cases z) h
theorem Gr.tabs {H H' : Hp} (g : Gr H H') {Ps : List Addr} (h : Tabs H Ps) : Tabs H' Ps := fun P hP => g.2 P (h P hP)
theorem Gr.none {H : Hp} {a : Addr} {o : HO} (n : H a = Option.none) : Gr H (upd H a o) := Gr.of fun b u e => by
  rw [upd_ne (ne_of_none e n)]
  exact e
namespace CwR
/-- behind it a token is out -/
def PEp (X : Cx) (e : Expr) (t : TE) : Prop := ∀ (pins : List (Addr × Obj)) (s : Shared) (σ : L2.St) (H : Hp) (Q : VK), Inv X pins σ H s → t σ H Q → wpAny (model X.prog X.w) X.A (eval e X.env) (fun u s' => 1 ≤ s'.toks ∧ EP X pins σ Q u s') X.xe s
theorem pep_ix {X : Cx} {a : Expr} {i : Int} {j : Nat} {p pos : Pos} {ta : TE} {r : R2} (hr : IxR X r) (ha : PE X a ta) (hs : PlainIx (.Constant (.int i) j p)) : PEp X (.Subscript a (.Constant (.int i) j p) pos) (tOp r ta (tC (.int i))) := by
  intro pins s σ H Q I h
  refine Subscript_ (thn (ha.run pins s σ H _ I h) fun v s1 ⟨x, H1, I1, r1, q1⟩ => wpAny_Constant_int ?_)
  refine wpAny_mono (PySem.wpAny_toks (hr a _ pins { s1 with toks := s1.toks + 1 } σ H1 x (.int i) v (.int i s1.toks) Q (I1.tok _) r1 ⟨_, rfl⟩ q1 (hs _ _))) (fun u s2 q => ⟨?_, q.2⟩) fun _ _ z => z.2
  have h1 : s1.toks + 1 ≤ s2.toks := q.1
  omega
theorem pep_repl {X : Cx} {o : Expr} {to : TE} {y z : Str} {j k : Nat} {c0 c1 apos pos : Pos} (ho : PEp X o to) (hyz : (y == z) = false := by decide)
    (hst : starEach [.Constant (.str y) j c0, .Constant (.str z) k c1] X.env = [(false, eval (.Constant (.str y) j c0) X.env), (false, eval (.Constant (.str z) k c1) X.env)] := by rfl)
    (hbase : attributeBase o "replace" X.env (eval o X.env) = eval o X.env := by rfl) (hline : (apos.endLine == pos.line) = true := by rfl) :
    PEp X (.Call (.Attribute o "replace" apos) [.Constant (.str y) j c0, .Constant (.str z) k c1] [] pos) (CwR.tReplC to y z) := by
  intro pins s σ H Q I h
  refine PySem.Call_method2 hbase hst hline (wpAny_mono (ho pins s σ H _ I h) (fun v s1 q => ?_) fun _ _ z => z)
  obtain ⟨hk, v', H1, I1, r1, x, e1, hb, q⟩ := q
  subst e1
  obtain ⟨tx, e2⟩ := r1
  subst e2
  refine ⟨"str", _, PySem.F.plainAttrs_str, PySem.F.slot_str_replace, PySem.F.type_str_replace, typeIs_str _ _ _, (fun _ e => nomatch e), Calls.callWith_builtin rfl (Calls.evalArgs_plain (Calls.spliced_cons ?_))⟩
  refine Calls.Constant_str (Calls.spliced_cons (Calls.Constant_str (Calls.spliced_nil ?_)))
  refine wpAny_mono (PySem.wpAny_toks (PySem.SC.replace (Q := fun u s' => EP X pins σ Q u s') (by show s1.toks ≠ 0; omega) (by show s1.toks + 1 ≠ 0; omega) (by show s1.toks ≠ s1.toks + 1; omega) hyz hb fun t' k => ⟨.str (Txt.replace x y z), H1, I1.tok k, ⟨t', rfl⟩, q⟩)) (fun u s2 q => ⟨?_, q.2⟩) fun _ _ z => z.2
  have h1 : s1.toks + 1 + 1 ≤ s2.toks := q.1
  omega
theorem pe_replP {X : Cx} {e : Expr} {t : TE} (h : PEp X e t) : PE X e t := ⟨fun pins s σ H Q I q => wpAny_mono (h pins s σ H Q I q) (fun _ _ z => z.2) fun _ _ z => z⟩
end CwR

/-! ### any(..) -/
section
variable {α : Type} {X : Cx} {A A' : Around} {s_0 : Shared} {H_0 : Hp} {cenv : Env} {fp : List Addr} {tn : Nat → Heap → Prop} {AC : α → List (Addr × Obj) → Prop} {End : α → Hp → Prop} {Yd : α → V → Hp → (α → Hp → Prop) → Prop} {ga : Addr} {gn n : Nat} {go : Obj}
/-- any(..) asks on -/
theorem any_gx {R : Result → Shared → Prop} {Stop : Hp → Prop} {End : Unit → Hp → Prop} (hh : A.handled = none) (hroom : A.depth < recursionLimit) (hG : GenObj go gn)
    (yes : ∀ (σ : L2.St) (H : Hp) (cp : List (Addr × Obj)) (s1 : Shared), Inv (gblk X A' s_0 H_0 cenv fp) cp σ H s1 → End () H → R (.ok (.ret (.bool false))) s1)
    (no : ∀ (σ : L2.St) (H : Hp) (cp : List (Addr × Obj)) (s1 : Shared), Inv (gblk X A' s_0 H_0 cenv fp) cp σ H s1 → Stop H → R (.ok (.ret (.bool true))) s1) :
    ∀ (n : Nat) (s : Shared), s.heap.NoLimit → s.heap.get? ga = some go → (∃ gs, s.gens[gn]? = some gs ∧ gs.Goes (model X.prog X.w) A.in1.in1 (RG (gblk X A' s_0 H_0 cenv fp) (fun _ cp => cp = [(ga, go)]) End)
      (YG (gblk X A' s_0 H_0 cenv fp) fp tn (fun _ cp => cp = [(ga, go)]) (fun _ y H Nx => ∃ b : Bool, y = .bl b ∧ if b = true then Stop H else Nx () H)) n (.send .none) (s.setGen gn .running)) →
      codeAny (model X.prog X.w) A (.builtin "any.loop" ⟨[.ref ga], []⟩) R s := by
  intro n
  induction n with
  | zero =>
    rintro s hl e ⟨gs, hgs, hgo⟩
    refine codeAny_builtin F.entry_any_loop ?_
    rw [Around.under_plainId F.plain_any_loop _]
    show wpAny _ A.in1 (pyNext (.ref ga) >>= _) _ _ s
    refine wpAny_bind (next_gx (A := A.in1) hh hroom hl hG e hgs hgo (fun a x σ H i cp Nx v s1 gs' r hac I st hy at_ kap => ?_) fun a σ H cp s1 hac I q => ?_)
    · obtain ⟨b, rfl, hb⟩ := hy
      cases (show v = Value.bool b from r)
      refine wpAny_bind (wpAny_holding (wpAny_truthy_bool ?_))
      refine wpAny_bind (wpAny_letGo ?_)
      cases b with
      | false =>
        obtain ⟨m, hm, _⟩ := kap () cp s1 (by simpa using hb) hac I st
        cases hm
      | true =>
        simp only [if_true] at hb ⊢
        exact wpAny_bind (wpAny_rule (wpAny_pure (no σ H cp s1 I hb)))
    · exact wpAny_bind (wpAny_rule (wpAny_pure (yes σ H cp s1 I q)))
  | succ n ih =>
    rintro s hl e ⟨gs, hgs, hgo⟩
    refine codeAny_builtin F.entry_any_loop ?_
    rw [Around.under_plainId F.plain_any_loop _]
    show wpAny _ A.in1 (pyNext (.ref ga) >>= _) _ _ s
    refine wpAny_bind (next_gx (A := A.in1) hh hroom hl hG e hgs hgo (fun a x σ H i cp Nx v s1 gs' r hac I st hy at_ kap => ?_) fun a σ H cp s1 hac I q => ?_)
    · obtain ⟨b, rfl, hb⟩ := hy
      cases (show v = Value.bool b from r)
      refine wpAny_bind (wpAny_holding (wpAny_truthy_bool ?_))
      refine wpAny_bind (wpAny_letGo ?_)
      cases b with
      | false =>
        simp only [Bool.false_eq_true, if_false] at hb ⊢
        subst hac
        refine wpAny_pure ⟨plainId_quiet F.plain_any_loop _, ih s1 I.nolimit (I.pin (ga, go) (List.mem_append_right _ List.mem_cons_self)).1 ⟨gs', at_, ?_⟩⟩
        obtain ⟨m, hm, z⟩ := kap () [(ga, go)] (s1.setGen gn .running) hb rfl (inv_moved I rfl (allBare_setGen I.bare rfl) fun _ _ q => q) st
        cases hm
        exact z
      | true =>
        simp only [if_true] at hb ⊢
        exact wpAny_bind (wpAny_rule (wpAny_pure (no σ H cp s1 I hb)))
    · exact wpAny_bind (wpAny_rule (wpAny_pure (yes σ H cp s1 I q)))
end
section
variable {X : Cx}
/-- any(elt for tg in iter ..) -/
def tAnyX (P : Addr) (wi : TI) (g : TG) (tt : TT) (te : TE) (vs : List Nat) : TE := fun σ H Q => wi σ H fun J H1 => GxR.TabG H1 P ∧ ∀ H2, GxR.Tabbed P H1 H2 → ∃ W : Nat → Nat → Unit → Hp → Prop, (∃ m, W 0 m () H2) ∧
  tGx J g tt te (wipe σ vs) vs (fun _ H => Q (.bl false) H) (fun _ y H Nx => ∃ b : Bool, y = .bl b ∧ if b = true then Q (.bl true) H else Nx () H) W
theorem pe_anyX {c P : Addr} {elt tg iter : Expr} {ifs : List Expr} {p pos gpos : Pos} {scope : Scope} {own : List (Str × Nat)} {wi : TI} {g : TG} {tt : TT} {te : TE} {k : Nat}
    (hr : Room (k + 1) X.A) (hc : X.calm = true) (hN : X.N.Nodup) (hgl : Gl X "any") (hm : X.mg "any" = none) (hb : bootBuiltins "any" = some (.builtin "any")) (TB : GxR.TabB X.base X.mg c P) (hcode : X.env.code = .ref c)
    (hco : scope.isCoroutine = false) (hdot : scope.names.lookup (".0" : Str) = some NameKind.local) (nocell : ∀ y ∈ scope.names, y.2 ≠ .cell) (ok : BlkOk X.N X.env.scope scope own) (hi : PI X tg iter wi)
    (hg : ∀ (A' : Around) (s : Shared) (H : Hp) (C : Addr) (cl : List (Str × Addr)) (code : Value) (fp : List Addr), Room k A' → A'.guards = X.A.guards → PG (gblk X A' s H (genEnv scope cl C code builtinsNs X.env) fp) tg g)
    (ht : ∀ (A' : Around) (s : Shared) (H : Hp) (C : Addr) (cl : List (Str × Addr)) (code : Value) (fp : List Addr), Room k A' → A'.guards = X.A.guards → PTs (gblk X A' s H (genEnv scope cl C code builtinsNs X.env) fp) ifs tt)
    (he : ∀ (A' : Around) (s : Shared) (H : Hp) (C : Addr) (cl : List (Str × Addr)) (code : Value) (fp : List Addr), Room k A' → A'.guards = X.A.guards → PE (gblk X A' s H (genEnv scope cl C code builtinsNs X.env) fp) elt te)
    (hs : ∀ v, genFold iter X.env v = pure v)
    (hst : starEach [.GeneratorExp elt [⟨tg, iter, ifs, 0⟩] scope gpos] X.env = (false, eval (.GeneratorExp elt [⟨tg, iter, ifs, 0⟩] scope gpos) X.env) :: starEach [] X.env := by rfl) :
    PE X (.Call (.Name "any" p) [.GeneratorExp elt [⟨tg, iter, ifs, 0⟩] scope gpos] [] pos) (tAnyX P wi g tt te (own.map (·.2))) := by
  refine ⟨fun pins s σ H Q I h => ?_⟩
  refine wpAny_Call_Name_kw (ld_blt I hgl hm hb ?_)
  refine PyProof.Rows.callWith_builtin1 ?_ hst (by rfl)
  rw [hst]
  show wpAny _ _ (spliced ((false, eval (.GeneratorExp elt [⟨tg, iter, ifs, 0⟩] scope gpos) X.env) :: backTo pos (starEach [] X.env))) _ _ s
  refine Calls.spliced_cons (gx_make (A := X.A.in1.in1) hr ⟨rfl, rfl, rfl, rfl, (by show X.A.units + 1 + 1 ≤ _; omega)⟩ hc hN TB hcode hco hdot nocell ok hi hg ht he hs I h fun J H1 H2 u s5 hR hT hG => ?_)
  obtain ⟨A', s_0, H_0, cenv, fp, ga, gn, go, tn, gs, rfl, hGO, hgs, hbare, I5, st5, nf, hlt, keep, back, goes⟩ := hG
  obtain ⟨W, ⟨m, w0⟩, turn⟩ := hR H2 hT
  refine Calls.spliced_nil ?_
  have pin5 := (I5.pin (ga, go) (List.mem_append_right _ List.mem_cons_self)).1
  refine call_function_tree F.kind_any F.plain_any F.entry_any (F.args_any1 _) ?_
  unfold Builtin.«any»
  refine wpAny_bind (m := oneArg "any" _) (wpAny_pure ?_)
  refine wpAny_bind (wpAny_pyIter_gen (hGO.isGen pin5) ?_)
  refine wpAny_pure ⟨plainId_quiet F.plain_any_loop _, any_gx (A' := A') (s_0 := s_0) (H_0 := H_0) (cenv := cenv) (fp := fp) (tn := tn) (go := go) (gn := gn) (Stop := fun H => Q (.bl true) H) (End := fun _ H => Q (.bl false) H) hr.hd hr.depth hGO
    (fun σ' H' cp s1 I1 q => ⟨.bl false, H', back _ _ _ _ I1, rfl, q⟩) (fun σ' H' cp s1 I1 q => ⟨.bl true, H', back _ _ _ _ I1, rfl, q⟩) (m + 1) s5 I5.nolimit pin5 ⟨gs, hgs, ?_⟩⟩
  refine goes Unit _ _ _ W m (m + 1) () [(ga, go)] _ turn w0 (Nat.lt_succ_self _) (fun a cp hac p hp b hb z => ?_) rfl (inv_moved I5 rfl (allBare_setGen I5.bare rfl) fun _ _ q => q) st5
  subst hac
  have e : p = (ga, go) := by simpa using hp
  subst e
  exact absurd (hlt b hb) (by rw [← z]; exact Nat.lt_irrefl _)
end

/-! ### sep.join(elt for tg in iter ..) -/
namespace GxJ
open PySem PySem.Spec PyProof.Rows L2 Builtin Builtin.Str
section
variable {X : Cx}
def tJoinX (P : Addr) (to : TE) (wi : TI) (g : TG) (tt : TT) (te : TE) (vs : List Nat) : TE := fun σ H Q => to σ H fun v H0 => ∃ sep : PySem.Str, v = .str sep ∧ wi σ H0 fun J H1 => GxR.TabG H1 P ∧ ∀ H2, GxR.Tabbed P H1 H2 → ∃ W : Nat → Nat → List V → Hp → Prop, (∃ m, W 0 m [] H2) ∧
  tGx J g tt te (wipe σ vs) vs (fun ys H => ∃ ws : List PySem.Str, ys = ws.map V.str ∧ JoinOk sep ws = true ∧ Q (.str (Txt.join sep ws)) H) YdL W
theorem l_strs : ∀ {ws : List PySem.Str} {us : List Value}, Vals (ws.map V.str) us → ∃ l : List (PySem.Str × Tok), strValues l = us ∧ l.map (·.1) = ws
  | [], _, .nil => ⟨[], rfl, rfl⟩
  | y :: ys, _, .cons r t => by
    obtain ⟨k, rfl⟩ := r
    obtain ⟨l, rfl, e⟩ := l_strs t
    exact ⟨(y, k) :: l, rfl, by rw [List.map_cons, e]⟩
theorem pe_joinX {c P : Addr} {o elt tg iter : Expr} {ifs : List Expr} {apos cpos gpos : Pos} {scope : Scope} {own : List (PySem.Str × Nat)} {to : TE} {wi : TI} {g : TG} {tt : TT} {te : TE} {k : Nat}
    (hr : Room (k + 1) X.A) (hc : X.calm = true) (hN : X.N.Nodup) (ho : PE X o to) (TB : GxR.TabB X.base X.mg c P) (hcode : X.env.code = .ref c)
    (hco : scope.isCoroutine = false) (hdot : scope.names.lookup (".0" : PySem.Str) = some NameKind.local) (nocell : ∀ y ∈ scope.names, y.2 ≠ .cell) (ok : BlkOk X.N X.env.scope scope own) (hi : PI X tg iter wi)
    (hg : ∀ (A' : Around) (s : Shared) (H : Hp) (C : Addr) (cl : List (PySem.Str × Addr)) (code : Value) (fp : List Addr), Room k A' → A'.guards = X.A.guards → PG (gblk X A' s H (genEnv scope cl C code builtinsNs X.env) fp) tg g)
    (ht : ∀ (A' : Around) (s : Shared) (H : Hp) (C : Addr) (cl : List (PySem.Str × Addr)) (code : Value) (fp : List Addr), Room k A' → A'.guards = X.A.guards → PTs (gblk X A' s H (genEnv scope cl C code builtinsNs X.env) fp) ifs tt)
    (he : ∀ (A' : Around) (s : Shared) (H : Hp) (C : Addr) (cl : List (PySem.Str × Addr)) (code : Value) (fp : List Addr), Room k A' → A'.guards = X.A.guards → PE (gblk X A' s H (genEnv scope cl C code builtinsNs X.env) fp) elt te)
    (hs : ∀ v, genFold iter X.env v = pure v) (hbase : attributeBase o "join" X.env (eval o X.env) = eval o X.env := by rfl)
    (hfew : ((backTo cpos (starEach [.GeneratorExp elt [⟨tg, iter, ifs, 0⟩] scope gpos] X.env)).all (fun x => !x.1) && (backToKw cpos (keywordEach [] X.env)).all (fun x => x.1.isSome)
      && decide (([.GeneratorExp elt [⟨tg, iter, ifs, 0⟩] scope gpos] : List Expr).length + ([] : List Keyword).length + (if ([] : List Keyword).isEmpty then 0 else 1) < 30)) = true := by rfl)
    (hline : (apos.endLine == cpos.line) = true := by rfl)
    (hst : starEach [.GeneratorExp elt [⟨tg, iter, ifs, 0⟩] scope gpos] X.env = (false, eval (.GeneratorExp elt [⟨tg, iter, ifs, 0⟩] scope gpos) X.env) :: starEach [] X.env := by rfl)
    (hplain : (backTo cpos (starEach [] X.env)).any (·.1) = false := by rfl) :
    PE X (.Call (.Attribute o "join" apos) [.GeneratorExp elt [⟨tg, iter, ifs, 0⟩] scope gpos] [] cpos) (tJoinX P to wi g tt te (own.map (·.2))) := by
  refine ⟨fun pins s σ H Q I h => ?_⟩
  refine wpAny_Call_method_late hbase hfew hline rfl (thn (ho.run pins s σ H _ I h) fun v s1 ⟨x', H1, I1, r1, sep, ex, q1⟩ => ?_)
  subst ex
  obtain ⟨tk, rfl⟩ := (show ∃ t, v = Value.str sep t from r1)
  refine ⟨"str", _, PySem.F.plainAttrs_str, PySem.F.slot_str_join, PySem.F.type_str_join, typeIs_str _ _ _, (fun _ e => nomatch e), ?_⟩
  rw [hst]
  refine Calls.callWith_builtin (by show (false || (backTo cpos (starEach [] X.env)).any (·.1)) = false; rw [hplain] <;> rfl) (Calls.evalArgs_plain ?_)
  show wpAny _ _ (spliced ((false, eval (.GeneratorExp elt [⟨tg, iter, ifs, 0⟩] scope gpos) X.env) :: backTo cpos (starEach [] X.env))) _ _ s1
  refine Calls.spliced_cons (gx_make (A := X.A.in1.in1.in1) hr ⟨rfl, rfl, rfl, rfl, (by show X.A.units + 1 + 1 + 1 ≤ _; omega)⟩ hc hN TB hcode hco hdot nocell ok hi hg ht he hs I1 q1 fun J H2 H3 u s5 hR hT hG => ?_)
  obtain ⟨W, ⟨m, w0⟩, turn⟩ := hR H3 hT
  refine Calls.spliced_nil ?_
  have ⟨A', s_0, H_0, cenv, fp, ga, gn, go, tn, gs, eu, hGO, hgs, hbare, I5, st5, nf, hlt, keep, back, goes⟩ := hG
  have pin5 := (I5.pin (ga, go) (List.mem_append_right _ List.mem_cons_self)).1
  rw [eu] at hG ⊢
  have hTI : s5.TypeIs (.ref ga) "generator" := (hGO.isGen pin5).typeIs
  refine wpAny_call (codeAny_call_builtin F.slot_str_join.plain F.entry_str_join (F.slot_str_join.check _ _ _ _ _ _ _ _ (typeIs_str _ _ _) (F.args_str_join_2 _ _) ?_))
  show wpAny _ X.A.in1 («str.join» ⟨[.str sep tk, .ref ga], []⟩) _ _ s5
  rw [join_tree_other]
  refine wpAny_bind (wpAny_typeOf hTI ?_)
  show wpAny _ X.A.in1 ((pyIter (.ref ga)).tryCatch _ >>= fun it => collect it >>= fun items => joinTail sep items) _ _ s5
  refine wpAny_bind (wpAny_tryCatch (wpAny_pyIter_gen (hGO.isGen pin5) ?_))
  refine wpAny_bind (collect_gx (A := X.A.in1) hr.hd hr.depth hG w0 turn (fun s' acc ys H' I' rv q => ?_))
  obtain ⟨ws, rfl, hok, hq⟩ := q
  obtain ⟨l, hl, el⟩ := l_strs rv
  rw [← hl]
  subst el
  unfold JoinOk at hok
  rw [Bool.not_eq_true'] at hok
  have gj : Gives (joinTail sep (strValues l)) (joinMade sep l) := by
    have g0 := gives_joinTail sep l hok
    cases l with
    | nil => exact g0
    | cons p r => cases r with
      | nil => exact g0
      | cons q r' => exact g0
  exact gj X.prog X.w X.A (wants _ _) s' (post_join l ⟨joinFit_length hok, fun t' k' => ⟨.str _, H', I'.tok k', ⟨t', rfl⟩, hq⟩⟩)
end
end GxJ

/-! ### heaps -/
theorem same_upd {H : Hp} {p : Addr} {o : HO} (h : H p = none) : Same H (upd H p o) := fun b x e => by
  rw [upd_ne (ne_of_none e h)]
  exact e
def Fr (d l : Addr) (H H' : Hp) : Prop := ∀ b o, b ≠ d → b ≠ l → H b = some o → H' b = some o
theorem Fr.trans {d l : Addr} {H H1 H2 : Hp} (a : Fr d l H H1) (b : Fr d l H1 H2) : Fr d l H H2 := fun c o h1 h2 h => b c o h1 h2 (a c o h1 h2 h)
theorem Fr.refl {d l : Addr} {H : Hp} : Fr d l H H := fun _ _ _ _ h => h
theorem Fr.new {d l p : Addr} {H : Hp} {o : HO} (h : H p = none) : Fr d l H (upd H p o) := fun b x _ _ e => same_upd h b x e
theorem Fr.of {d l : Addr} {H H' : Hp} (h : Same H H') : Fr d l H H' := fun b x _ _ e => h b x e
theorem Fr.d {d l : Addr} {H : Hp} {o : HO} : Fr d l H (upd H d o) := fun b x h1 _ e => by rw [upd_ne h1]; exact e
theorem Fr.l {d l : Addr} {H : Hp} {o : HO} : Fr d l H (upd H l o) := fun b x _ h2 e => by rw [upd_ne h2]; exact e
def Deck (H : Hp) (d l : Addr) : Prop := d ≠ l ∧ ∃ (cs : List Int) (z : Int), H d = some (.lst [.ref l, .int z]) ∧ H l = some (.lst (cs.map V.int)) ∧ cs.length ≤ 63 ∧ 0 ≤ z ∧ z < 4294967296
theorem Deck.same {H H' : Hp} {d l : Addr} (D : Deck H d l) (s : Same H H') : Deck H' d l := by
  obtain ⟨ne, cs, z, hd, hl, r⟩ := D
  exact ⟨ne, cs, z, s _ _ hd, s _ _ hl, r⟩
theorem Deck.new {H : Hp} {d l p : Addr} {o : HO} (D : Deck H d l) (h : H p = none) : Deck (upd H p o) d l := D.same (same_upd h)
theorem Deck.ne_new {H : Hp} {d l p : Addr} (D : Deck H d l) (h : H p = none) : p ≠ d ∧ p ≠ l := by
  obtain ⟨ne, cs, z, hd, hl, r⟩ := D
  exact ⟨(ne_of_none hd h).symm, (ne_of_none hl h).symm⟩
theorem p29 : (0 : Int) < 2147483629 := by decide
theorem p47 : (0 : Int) < 2147483647 := by decide
theorem p87 : (0 : Int) < 2147483587 := by decide
theorem sl1 : 1 ≤ sizeLine := by decide
theorem sl2 : 2 ≤ sizeLine := by decide
theorem sl3 : 3 ≤ sizeLine := by decide
theorem sl4 : 4 ≤ sizeLine := by decide
theorem seqIx0 {α : Type} (x : α) (xs : List α) : seqIndex? 0 (x :: xs).length = some 0 := by
  refine (ixN_seq (n := (x :: xs).length) (i := 0) (j := 0) ?_).1
  unfold ixN
  rw [if_pos (by decide), if_pos (by rw [List.length_cons]; omega)]
  rfl
theorem dpInts {K : PySem.W.Frag} {H : Hp} : ∀ cs : List Int, DpAll K H (cs.map V.int) (cs.map PyData.int)
  | [] => .nil
  | c :: r => .cons (.int c) (dpInts r)
theorem shInts (ns : List Int) : SeqAt.shaped (.list (ns.map PyData.int)) = true := by
  unfold SeqAt.shaped
  rw [Bool.and_eq_true]
  refine ⟨?_, ?_⟩
  · simp only [PyData.canLay0, canLayAll_ints]
  · simp only [PyData.depth, depthAll_ints]
    decide
theorem at_pick {xs : List V} {j : Int} (h0 : 0 ≤ j) (h1 : j < xs.length) : ∃ x, atI xs j = some x ∧ x ∈ xs := by
  obtain ⟨k, rfl⟩ : ∃ k : Nat, j = (k : Int) := ⟨j.toNat, (Int.toNat_of_nonneg h0).symm⟩
  have hk : k < xs.length := by omega
  exact ⟨xs[k], atI_nat (List.getElem?_eq_getElem hk), List.getElem_mem hk⟩
theorem units65 {k : Nat} {A : Around} (r : Room k A) : A.units + 65 < cLine := by have := r.un; omega
def rLenK (K : PySem.W.Frag) : List V → Hp → VK → Prop := fun xs H Q => ∃ p ys, xs = [.ref p] ∧ (SqL K H p ys ∨ SqT K H p ys) ∧ Q (.int ys.length) H
def rTupK (K : PySem.W.Frag) : List V → Hp → VK → Prop := fun xs H Q => ∃ p ys, xs = [.ref p] ∧ ((SqL K H p ys ∧ ∀ l, H l = none → Q (.ref l) (upd H l (.tup ys))) ∨ (SqT K H p ys ∧ Q (.ref p) H))
def rLstK (K : PySem.W.Frag) : List V → Hp → VK → Prop := fun xs H Q => ∃ p ys, xs = [.ref p] ∧ (SqL K H p ys ∨ SqT K H p ys) ∧ ∀ l, H l = none → Q (.ref l) (upd H l (.lst ys))
/-- joining ways behind a test, behind an expression -/
def tCutT (t : TT) : TT := fun σ H Q => ∃ Mid : Bool → Hp → Prop, t σ H Mid ∧ ∀ b H1, Mid b H1 → Q b H1
theorem pt_cut {X : Cx} {e : Expr} {t : TT} (h : PT X e t) : PT X e (tCutT t) := ⟨fun pins s σ H Q I hw => by
  obtain ⟨Mid, h1, q⟩ := hw
  exact thn (h.run pins s σ H _ I h1) fun c s1 ⟨H1, I1, m⟩ => ⟨H1, I1, q _ _ m⟩⟩
def tCutE (t : TE) : TE := fun σ H Q => ∃ Mid : VK, t σ H Mid ∧ ∀ v H1, Mid v H1 → Q v H1
theorem pe_cut {X : Cx} {e : Expr} {t : TE} (h : PE X e t) : PE X e (tCutE t) := ⟨fun pins s σ H Q I hw => by
  obtain ⟨Mid, h1, q⟩ := hw
  exact thn (h.run pins s σ H _ I h1) fun u s1 ⟨v, H1, I1, r, m⟩ => ⟨v, H1, I1, r, q _ _ m⟩⟩

/-! ### data made by the law or the program: numbers, truths, texts, lists and tuples of these -/
mutual
inductive Tk (H : Hp) : V → PyData → Prop
  | bl (b : Bool) : Tk H (.bl b) (.bool b)
  | int (i : Int) : Tk H (.int i) (.int i)
  | str (x : Str) : Tk H (.str x) (.str x)
  | lst {a : Addr} {xs : List V} {ds : List PyData} : H a = some (.lst xs) → TkAll H xs ds → Tk H (.ref a) (.list ds)
  | tup {a : Addr} {xs : List V} {ds : List PyData} : H a = some (.tup xs) → TkAll H xs ds → Tk H (.ref a) (.tuple ds)
inductive TkAll (H : Hp) : List V → List PyData → Prop
  | nil : TkAll H [] []
  | cons {v : V} {vs : List V} {d : PyData} {ds : List PyData} : Tk H v d → TkAll H vs ds → TkAll H (v :: vs) (d :: ds)
end
theorem TkAll.length {H : Hp} : ∀ {vs : List V} {ds : List PyData}, TkAll H vs ds → vs.length = ds.length
  | _, _, .nil => rfl
  | _, _, .cons _ t => by rw [List.length_cons, List.length_cons, t.length]
mutual
theorem Tk.same {H H' : Hp} (s : Same H H') : ∀ {v : V} {d : PyData}, Tk H v d → Tk H' v d
  | _, _, .bl b => .bl b
  | _, _, .int i => .int i
  | _, _, .str x => .str x
  | _, _, .lst h t => .lst (s _ _ h) (t.same s)
  | _, _, .tup h t => .tup (s _ _ h) (t.same s)
theorem TkAll.same {H H' : Hp} (s : Same H H') : ∀ {vs : List V} {ds : List PyData}, TkAll H vs ds → TkAll H' vs ds
  | _, _, .nil => .nil
  | _, _, .cons h t => .cons (h.same s) (t.same s)
end
theorem TkAll.get {H : Hp} : ∀ {xs : List V} {ds : List PyData} {j : Nat} {x : V}, TkAll H xs ds → xs[j]? = some x → ∃ d, ds[j]? = some d ∧ Tk H x d
  | _, _, _, _, .nil, h => by simp at h
  | _, _, 0, _, .cons (d := d) a _, h => by
    cases (Option.some.inj h)
    exact ⟨d, rfl, a⟩
  | _, _, j + 1, _, .cons _ t, h => t.get h
theorem TkAll.append {H : Hp} : ∀ {xs ys : List V} {ds es : List PyData}, TkAll H xs ds → TkAll H ys es → TkAll H (xs ++ ys) (ds ++ es)
  | _, _, _, _, .nil, t => t
  | _, _, _, _, .cons a r, t => .cons a (r.append t)
theorem TkAll.ints {H : Hp} : ∀ ns : List Int, TkAll H (ns.map V.int) (ns.map PyData.int)
  | [] => .nil
  | n :: r => .cons (.int n) (TkAll.ints r)
theorem Tk.int_inv {H : Hp} {v : V} {i : Int} (h : Tk H v (.int i)) : v = .int i := by cases h; rfl
theorem Tk.tup_inv {H : Hp} {v : V} {ds : List PyData} (h : Tk H v (.tuple ds)) : ∃ a xs, v = .ref a ∧ H a = some (.tup xs) ∧ TkAll H xs ds := by
  cases h with
  | tup h t => exact ⟨_, _, rfl, h, t⟩
theorem Tk.lst_inv {H : Hp} {v : V} {ds : List PyData} (h : Tk H v (.list ds)) : ∃ a xs, v = .ref a ∧ H a = some (.lst xs) ∧ TkAll H xs ds := by
  cases h with
  | lst h t => exact ⟨_, _, rfl, h, t⟩
theorem TkAll.int_inv {H : Hp} : ∀ {vs : List V} {ns : List Int}, TkAll H vs (ns.map PyData.int) → vs = ns.map V.int
  | _, [], .nil => rfl
  | _, n :: r, .cons h t => by rw [List.map_cons, h.int_inv, t.int_inv]
/-- heaps without one place -/
def hd1 (p : Addr) (H : Hp) : Hp := fun b => if b = p then none else H b
theorem hd1_le {p : Addr} {H : Hp} : Same (hd1 p H) H := fun b o e => by
  unfold hd1 at e
  by_cases h : b = p
  · rw [if_pos h] at e; cases e
  · rw [if_neg h] at e; exact e
theorem hd1_same {p : Addr} {H H' : Hp} (s : Same H H') : Same (hd1 p H) (hd1 p H') := fun b o e => by
  unfold hd1 at e ⊢
  by_cases h : b = p
  · rw [if_pos h] at e; cases e
  · rw [if_neg h] at e ⊢; exact s _ _ e
theorem hd1_upd {p : Addr} {H : Hp} {o : HO} : Same (hd1 p H) (hd1 p (upd H p o)) := fun b x e => by
  unfold hd1 at e ⊢
  by_cases h : b = p
  · rw [if_pos h] at e; cases e
  · rw [if_neg h] at e ⊢; rw [upd_ne h]; exact e
theorem hd1_at {p b : Addr} {H : Hp} (h : b ≠ p) : hd1 p H b = H b := if_neg h
theorem hd1_of {p : Addr} {H H' : Hp} (s : Same H H') (n : H p = none) : Same H (hd1 p H') := fun b o e => by
  rw [hd1_at (ne_of_none e n)]
  exact s _ _ e
theorem same_of_hd1 {p : Addr} {H H' : Hp} {o : HO} (s : Same H (hd1 p H')) : Same H (upd H' p o) := fun b x e => by
  have z := s b x e
  unfold hd1 at z
  by_cases h : b = p
  · rw [if_pos h] at z; cases z
  · rw [if_neg h] at z; rw [upd_ne h]; exact z

/-! ### tables and gates -/
def tabOf (bs : List Bool) : Str := ⟨(bs.map fun b => if b = true then 49 else 48).toArray⟩
def plc (ws : List Int) : Int := ws.foldl (fun p w => 2 * p + w) 0
def gateM (bs : List Bool) (ws : List Int) : Int := if bs.getD (plc ws).toNat false = true then 1 else 0
theorem plc_snoc (ws : List Int) (w : Int) : plc (ws ++ [w]) = 2 * plc ws + w := by
  unfold plc
  rw [List.foldl_append]
  rfl
theorem plc_take {ws : List Int} {i : Nat} {u : Int} (h : ws[i]? = some u) : plc (ws.take (i + 1)) = 2 * plc (ws.take i) + u := by
  rw [List.take_add_one, h]
  exact plc_snoc _ _
theorem plc_bd : ∀ (n : Nat) (ws : List Int), ws.length = n → (∀ w ∈ ws, w = 0 ∨ w = 1) → 0 ≤ plc ws ∧ plc ws < 2 ^ n := by
  intro n
  induction n with
  | zero =>
    intro ws h _
    cases List.eq_nil_of_length_eq_zero h
    decide
  | succ n ih =>
    intro ws h hw
    have hne : ws ≠ [] := fun z => by rw [z] at h; cases h
    obtain ⟨r, x, rfl⟩ : ∃ r x, ws = r ++ [x] := ⟨ws.dropLast, ws.getLast hne, (List.dropLast_concat_getLast hne).symm⟩
    have hr := ih r (by rw [List.length_append] at h; simpa using h) fun w h' => hw w (List.mem_append_left _ h')
    have hx := hw x (by simp)
    rw [plc_snoc, Int.pow_succ]
    omega
theorem gate01 (bs : List Bool) (ws : List Int) : gateM bs ws = 0 ∨ gateM bs ws = 1 := by
  unfold gateM
  split
  · exact .inr rfl
  · exact .inl rfl
theorem int_sign (b : Bool) : PySem.intText? ⟨#[if b = true then 49 else 48]⟩ = some (if b = true then 1 else 0) := by
  cases b <;> decide +kernel
def spGate (K : PySem.W.Frag) : Sp := fun vs H Q _ => ∃ (bs : List Bool) (la : Addr) (ws : List Int), vs = [.str (tabOf bs), .ref la] ∧ SqL K H la (ws.map V.int) ∧ (∀ w ∈ ws, w = 0 ∨ w = 1) ∧ bs.length = 2 ^ ws.length ∧ ws.length ≤ 3 ∧ Q (.int (gateM bs ws)) H
theorem gate_read {bs : List Bool} {ws : List Int} (hw : ∀ w ∈ ws, w = 0 ∨ w = 1) (hb : bs.length = 2 ^ ws.length) (h3 : ws.length ≤ 3) : ∃ b : Bool, 0 ≤ plc ws ∧ plc ws < 2 ^ 63 ∧ plc ws < (tabOf bs).length ∧ (tabOf bs).cps[(plc ws).toNat]? = some (if b = true then 49 else 48) ∧ gateM bs ws = if b = true then 1 else 0 := by
  obtain ⟨p0, p1⟩ := plc_bd _ ws rfl hw
  have p8 : plc ws < 8 := by
    have : (2 : Int) ^ ws.length ≤ 8 := by
      have : ws.length = 0 ∨ ws.length = 1 ∨ ws.length = 2 ∨ ws.length = 3 := by omega
      rcases this with h | h | h | h <;> rw [h] <;> decide
    omega
  have hlt : (plc ws).toNat < bs.length := by
    have : ((2 ^ ws.length : Nat) : Int) = (2 : Int) ^ ws.length := by simp
    omega
  refine ⟨bs[(plc ws).toNat], p0, by omega, ?_, ?_, ?_⟩
  · have : (tabOf bs).length = bs.length := by simp [tabOf, Str.length]
    rw [this]
    omega
  · simp [tabOf, List.getElem?_eq_getElem hlt]
  · unfold gateM
    rw [List.getD_eq_getElem?_getD, List.getElem?_eq_getElem hlt]
    rfl

/-! ### walks -/
theorem gx_tup {α : Type} {K : PySem.W.Frag} {a : Addr} {xs : List V} {g : TG} {tt : TT} {te : TE} {vs : List Nat} {σ0 : L2.St} {End : α → Hp → Prop} {Yd : α → V → Hp → (α → Hp → Prop) → Prop} {a0 : α} {H0 : Hp} (Pv : Nat → α → Hp → Prop) (h0 : Pv 0 a0 H0)
    (hl : ∀ i c H, i ≤ xs.length → Pv i c H → SqT K H a xs)
    (hs : ∀ i x c H, xs[i]? = some x → Pv i c H → g x σ0 H fun σ2 H2 => wipe σ2 vs = σ0 ∧ tt σ2 H2 fun b H3 => if b = true then te σ2 H3 fun y H4 => Yd c y H4 (Pv (i + 1)) else Pv (i + 1) c H3) (hd : ∀ c H, Pv xs.length c H → End c H) :
    ∃ W : Nat → Nat → α → Hp → Prop, (∃ m, W 0 m a0 H0) ∧ tGx (Itt K a) g tt te σ0 vs End Yd W := by
  refine ⟨fun i m c H => m = xs.length - i ∧ i ≤ xs.length ∧ Pv i c H, ⟨xs.length, rfl, Nat.zero_le _, h0⟩, ?_⟩
  rintro i m c H ⟨rfl, hi, p⟩
  by_cases hlt : i < xs.length
  · have hx : xs[i]? = some xs[i] := List.getElem?_eq_getElem hlt
    refine .inr ⟨⟨xs, xs[i], hl i c H hi p, hx⟩, Pv (i + 1), fun c' H' p' => ⟨xs.length - (i + 1), by omega, rfl, hlt, p'⟩, fun x H' y => ?_⟩
    obtain ⟨rfl, y⟩ := y
    exact hs i x c _ (y xs (hl i c _ hi p)) p
  · have e : i = xs.length := by omega
    subst e
    exact .inl ⟨⟨xs, hl _ c H hi p, Nat.le_refl _⟩, hd c H p⟩
theorem lc_zipT {K : PySem.W.Frag} {a b : Addr} {xs ys : List V} {g : TG} {tt : TT} {te : TE} {vs : List Nat} {σ : L2.St} {H1 : Hp} {D : Addr} {Qd : Hp → Prop} (el : xs.length = ys.length) (Pv : Nat → Hp → Prop) (h0 : Pv 0 (upd H1 D (.lst []))) (hl : ∀ i H, i ≤ xs.length → Pv i H → SqT K H a xs ∧ SqT K H b ys)
    (hs : ∀ i x y T H, xs[i]? = some x → ys[i]? = some y → H T = none → Pv i H → g (.ref T) (wipe σ vs) (upd H T (.tup [x, y])) fun σ2 H2 => wipe σ2 vs = wipe σ vs ∧ tt σ2 H2 fun b H3 =>
      if b = true then te σ2 H3 fun y H4 => ∃ acc, H4 D = some (.lst acc) ∧ acc.length < sizeLine ∧ Pv (i + 1) (upd H4 D (.lst (acc ++ [y]))) else Pv (i + 1) H3) (hd : ∀ H, Pv xs.length H → Qd H) :
    ∃ W : Nat → Nat → Hp → Prop, (∃ m, W 0 m (upd H1 D (.lst []))) ∧ ∀ i m H, W i m H →
      ((RZ.ItzT K a b).stop i H ∧ Qd H) ∨ ((RZ.ItzT K a b).go i H ∧ ∃ Nx : Hp → Prop, (∀ H', Nx H' → ∃ m', m' < m ∧ W (i + 1) m' H') ∧ ∀ x H', (RZ.ItzT K a b).yld i H x H' → g x (wipe σ vs) H' fun σ2 H2 => wipe σ2 vs = wipe σ vs ∧ tt σ2 H2 fun b H3 =>
        if b = true then te σ2 H3 fun y H4 => ∃ acc, H4 D = some (.lst acc) ∧ acc.length < sizeLine ∧ Nx (upd H4 D (.lst (acc ++ [y]))) else Nx H3) := by
  refine ⟨fun i m H => m = xs.length - i ∧ i ≤ xs.length ∧ Pv i H, ⟨xs.length, by simp, Nat.zero_le _, h0⟩, ?_⟩
  rintro i m H ⟨rfl, hi, p⟩
  obtain ⟨qx, qy⟩ := hl i H hi p
  by_cases hlt : i < xs.length
  · have hx : xs[i]? = some xs[i] := List.getElem?_eq_getElem hlt
    have hy : ys[i]? = some (ys[i]'(by omega)) := List.getElem?_eq_getElem _
    refine .inr ⟨⟨xs, ys, _, _, qx, qy, hx, hy⟩, Pv (i + 1), fun H' p' => ⟨xs.length - (i + 1), by omega, rfl, hlt, p'⟩, fun x H' y => ?_⟩
    obtain ⟨T, x1, y1, rfl, nT, rfl, e1, e2⟩ := y
    exact hs i x1 y1 T H (e1 xs qx) (e2 ys qy) nT p
  · have e : i = xs.length := by omega
    subst e
    exact .inl ⟨⟨xs, ys, qx, qy, .inl (Nat.le_refl _)⟩, hd H p⟩

/-! ### nets, and the words of nets -/
abbrev Gt := List Bool × List Nat
def gD (g : Gt) : PyData := .tuple [.str (tabOf g.1), .tuple ((g.2.map Int.ofNat).map PyData.int)]
def netD (many : Int) (gs : List Gt) : PyData := .tuple [.int many, .tuple (gs.map gD)]
def rowD (r : List Int) : PyData := .tuple (r.map PyData.int)
def chD (a b : List Int) : PyData := .tuple [rowD a, rowD b]
def GtOk (n : Nat) (g : Gt) : Prop := g.1.length = 2 ^ g.2.length ∧ 1 ≤ g.2.length ∧ g.2.length ≤ 3 ∧ ∀ i ∈ g.2, i < n
def NetOk (n : Nat) (gs : List Gt) : Prop := ∀ k g, gs[k]? = some g → GtOk (n + k) g
def Row01 (r : List Int) : Prop := ∀ x ∈ r, x = 0 ∨ x = 1
mutual
theorem Tk.gr {H H' : Hp} (s : Gr H H') : ∀ {v : V} {d : PyData}, Tk H v d → Tk H' v d
  | _, _, .bl b => .bl b
  | _, _, .int i => .int i
  | _, _, .str x => .str x
  | _, _, .lst h t => .lst (s.lst h) (t.gr s)
  | _, _, .tup h t => .tup (s.tup h) (t.gr s)
theorem TkAll.gr {H H' : Hp} (s : Gr H H') : ∀ {vs : List V} {ds : List PyData}, TkAll H vs ds → TkAll H' vs ds
  | _, _, .nil => .nil
  | _, _, .cons h t => .cons (h.gr s) (t.gr s)
end
theorem Tk.row_inv {H : Hp} {v : V} {r : List Int} (h : Tk H v (rowD r)) : ∃ a, v = .ref a ∧ H a = some (.tup (r.map V.int)) := by
  obtain ⟨a, xs, rfl, ha, t⟩ := h.tup_inv
  rw [t.int_inv] at ha
  exact ⟨a, rfl, ha⟩
theorem Tk.ch_inv {H : Hp} {v : V} {a b : List Int} (h : Tk H v (chD a b)) : ∃ c ra rb, v = .ref c ∧ H c = some (.tup [.ref ra, .ref rb]) ∧ H ra = some (.tup (a.map V.int)) ∧ H rb = some (.tup (b.map V.int)) := by
  obtain ⟨c, xs, rfl, hc, t⟩ := h.tup_inv
  cases t with
  | cons h1 t => cases t with
    | cons h2 t =>
      cases t
      obtain ⟨ra, rfl, ha⟩ := h1.row_inv
      obtain ⟨rb, rfl, hb⟩ := h2.row_inv
      exact ⟨c, ra, rb, rfl, hc, ha, hb⟩
theorem Tk.net_inv {H : Hp} {v : V} {m : Int} {gs : List Gt} (h : Tk H v (netD m gs)) : ∃ n g xs, v = .ref n ∧ H n = some (.tup [.int m, .ref g]) ∧ H g = some (.tup xs) ∧ TkAll H xs (gs.map gD) := by
  obtain ⟨n, xs, rfl, hn, t⟩ := h.tup_inv
  cases t with
  | cons h1 t => cases t with
    | cons h2 t =>
      cases t
      cases h1
      obtain ⟨g, ys, rfl, hg, t2⟩ := h2.tup_inv
      exact ⟨n, g, ys, rfl, hn, hg, t2⟩
theorem Tk.gt_inv {H : Hp} {v : V} {g : Gt} (h : Tk H v (gD g)) : ∃ a i, v = .ref a ∧ H a = some (.tup [.str (tabOf g.1), .ref i]) ∧ H i = some (.tup ((g.2.map Int.ofNat).map V.int)) := by
  obtain ⟨a, xs, rfl, ha, t⟩ := h.tup_inv
  cases t with
  | cons h1 t => cases t with
    | cons h2 t =>
      cases t
      cases h1
      obtain ⟨i, rfl, hi⟩ := (show Tk H _ (rowD (g.2.map Int.ofNat)) from h2).row_inv
      exact ⟨a, i, rfl, ha, hi⟩
theorem TkAll.at {H : Hp} {α : Type} {f : α → PyData} {xs : List V} {ds : List α} (t : TkAll H xs (ds.map f)) {j : Nat} {v : V} (h : xs[j]? = some v) : ∃ x, ds[j]? = some x ∧ Tk H v (f x) := by
  obtain ⟨dx, hdx, tx⟩ := t.get h
  rw [List.getElem?_map] at hdx
  cases hz : ds[j]? with
  | none => rw [hz] at hdx; cases hdx
  | some x =>
    rw [hz] at hdx
    cases Option.some.inj hdx
    exact ⟨x, rfl, tx⟩
theorem TkAll.at' {H : Hp} {α : Type} {f : α → PyData} {xs : List V} {ds : List α} (t : TkAll H xs (ds.map f)) {j : Nat} {x : α} (h : ds[j]? = some x) : ∃ v, xs[j]? = some v ∧ Tk H v (f x) := by
  have hl := t.length
  rw [List.length_map] at hl
  have hj := (List.getElem?_eq_some_iff.mp h).1
  obtain ⟨y, hy, ty⟩ := t.at (List.getElem?_eq_getElem (l := xs) (i := j) (by omega))
  cases Option.some.inj (h.symm.trans hy)
  exact ⟨_, List.getElem?_eq_getElem _, ty⟩
theorem grow_upd {H H' : Hp} {p : Addr} {o : HO} (g : Gr H H') (n : H' p = none) : Gr H (upd H' p o) := g.trans (Gr.none n)
/-- no table, no older list: only the list at D is written -/
def GrD (D : Addr) (H H' : Hp) : Prop := Gr H (hd1 D H')
theorem GrD.gr {D : Addr} {H H' : Hp} (g : GrD D H H') : Gr H H' := g.trans (Gr.of hd1_le)
theorem TabG_hd1 {D P : Addr} {H : Hp} (h : GxR.TabG H P) (n : D ≠ P) : GxR.TabG (hd1 D H) P := by
  obtain ⟨ps, e, t⟩ := h
  exact ⟨ps, by rw [hd1_at (Ne.symm n)]; exact e, t⟩
theorem GrD.new {D : Addr} {H : Hp} {o : HO} (n : H D = none) : GrD D H (upd H D o) := Gr.of (hd1_of (same_upd n) n)
theorem hd1_gr {D : Addr} {H H' : Hp} (g : Gr H H') (hD : ∀ P, GxR.TabG H P → D ≠ P) : Gr (hd1 D H) (hd1 D H') := by
  refine ⟨fun b o n e => ?_, fun b t => ?_⟩
  · have hb : b ≠ D := fun z => by
      unfold hd1 at e
      rw [if_pos z] at e; cases e
    rw [hd1_at hb] at e ⊢
    exact g.1 b o n e
  · obtain ⟨ps, e, t⟩ := t
    have e' := hd1_le _ _ e
    exact TabG_hd1 (g.2 b ⟨ps, e', t⟩) (hD b ⟨ps, e', t⟩)
theorem GrD.then {D : Addr} {H H1 H2 : Hp} {xs : List V} (a : GrD D H H1) (hD : H1 D = some (.lst xs)) (b : Gr H1 H2) : GrD D H H2 := a.trans (hd1_gr b fun P ⟨ps, e, _⟩ z => by
  rw [← z, hD] at e
  cases e)
theorem GrD.set {D : Addr} {H H1 : Hp} {o : HO} (a : GrD D H H1) : GrD D H (upd H1 D o) := a.trans (Gr.of hd1_upd)

end Gk

set_option Elab.async false
set_option linter.all false
set_option maxRecDepth 100000
set_option maxHeartbeats 1000000
set_option pp.maxSteps 1500
namespace Gk
open PySem PySem.Spec PyProof.Rows L2
/-! ### zip of two or three texts, tuples, lists -/
namespace ZpG
open PySem PySem.Spec PyProof.Rows L2
inductive ZS where
  | tx (x : PySem.Str)
  | tu (a : Addr)
  | li (a : Addr)
def ZS.val : ZS → V
  | .tx x => .str x
  | .tu a => .ref a
  | .li a => .ref a
def ZS.at (K : PySem.W.Frag) : ZS → Hp → List V → Prop
  | .tx x, _, xs => xs = x.cps.toList.map fun c => V.str ⟨#[c]⟩
  | .tu a, H, xs => SqT K H a xs
  | .li a, H, xs => SqL K H a xs
def ZS.it : ZS → Addr → Nat → Heap → Prop
  | .tx x, it, i, h => ∃ t, h.IsStrIter it (strIterType x) x t i
  | .tu a, it, i, h => h.IsTupleIter it a i
  | .li a, it, i, h => h.IsListIter it a i
def ZS.lt : ZS → Nat → Prop
  | .tx _, _ => True
  | .tu a, n => a < n
  | .li a, n => a < n
def ZS.off : ZS → Addr → Prop
  | .tx _, _ => True
  | .tu a, c => a ≠ c
  | .li a, c => a ≠ c
theorem ne' {a b : Nat} (h : a ≠ b) : @Ne Addr a b := h
theorem ZS.off_of {n c : Nat} (hc : n ≤ c) : ∀ {z : ZS}, z.lt n → z.off c
  | .tx _, _ => trivial
  | .tu _, h => Nat.ne_of_lt (Nat.lt_of_lt_of_le h hc)
  | .li _, h => Nat.ne_of_lt (Nat.lt_of_lt_of_le h hc)
theorem ZS.obj {it : Addr} {i : Nat} {h : Heap} : ∀ {z : ZS}, z.it it i h → ∃ o, h.get? it = some o ∧ ∀ v, o.data ≠ .cell v
  | .tx _, ⟨_, o, e, _, d⟩ => ⟨o, e, fun v q => by rw [d] at q; cases q⟩
  | .tu _, ⟨o, e, _, d⟩ => ⟨o, e, fun v q => by rw [d] at q; cases q⟩
  | .li _, ⟨o, e, _, d⟩ => ⟨o, e, fun v q => by rw [d] at q; cases q⟩
theorem ZS.move {it : Addr} {i : Nat} {h h' : Heap} (k : ∀ o, h.get? it = some o → h'.get? it = some o) : ∀ {z : ZS}, z.it it i h → z.it it i h'
  | .tx _, ⟨t, o, e, r⟩ => ⟨t, o, k o e, r⟩
  | .tu _, ⟨o, e, r⟩ => ⟨o, k o e, r⟩
  | .li _, ⟨o, e, r⟩ => ⟨o, k o e, r⟩
section
variable {X : Cx} {pins : List (Addr × Obj)} {σ : L2.St} {H : Hp} {s : Shared}
theorem ZS.inj (I : Inv X pins σ H s) {z : ZS} {xs ys : List V} (h1 : z.at X.K H xs) (h2 : z.at X.K H ys) : xs = ys := by
  cases z with
  | tx x =>
    have e1 : xs = _ := h1
    have e2 : ys = _ := h2
    rw [e1, e2]
  | tu a => exact I.tuple_inj h1 h2
  | li a => exact I.list_inj h1 h2
theorem ZS.draws {A : Around} {it : Addr} {i : Nat} {xs : List V} (z : ZS) (I : Inv X pins σ H s) (hq : z.at X.K H xs) (hh : A.handled = none) (off : z.off it) (st : z.it it i s.heap) :
    ∃ (fp : List Addr) (P : Nat → Value → Prop) (St : Nat → Heap → Prop), Draws X.prog X.w A it fp xs.length P St ∧ it ∈ fp ∧ (∀ c, c ∈ fp → c = it ∨ ¬ z.off c) ∧ St i s.heap ∧ (∀ j h, St j h → z.it it j h) ∧ ∀ j v, P j v → ∃ x, xs[j]? = some x ∧ RelV x v := by
  cases z with
  | tx x =>
    obtain ⟨t, st⟩ := st
    have e : xs = x.cps.toList.map fun c => V.str ⟨#[c]⟩ := hq
    have el : xs.length = x.cps.size := by rw [e, List.length_map, Array.length_toList]
    refine ⟨[it], fun i v => ∃ c u, x.cps[i]? = some c ∧ v = .str ⟨#[c]⟩ u, fun i h => h.IsStrIter it (strIterType x) x t i, ?_, List.mem_cons_self, fun c hc => .inl (List.mem_singleton.mp hc), st, fun j h q => ⟨t, q⟩, fun j v p => ?_⟩
    · rw [el]
      exact Draws.text hh it x t
    · obtain ⟨c, u, hc, rfl⟩ := p
      refine ⟨.str ⟨#[c]⟩, ?_, ⟨u, rfl⟩⟩
      rw [e, List.getElem?_map, Array.getElem?_toList, hc]
      rfl
  | tu a =>
    obtain ⟨its, rv, p, _⟩ := I.tuple hq
    have hl := rv.length
    refine ⟨[it, a], fun i v => its.toArray[i]? = some v, fun i h => h.IsTupleIter it a i ∧ h.IsTuple a its.toArray, ?_, List.mem_cons_self, fun c hc => ?_, ⟨st, p⟩, fun j h q => q.1, fun j v q => ?_⟩
    · rw [hl, ← List.size_toArray]
      exact Draws.tuple hh it a off its.toArray
    · rcases List.mem_cons.mp hc with e | e
      · exact .inl e
      · refine .inr fun q => ?_
        rw [List.mem_singleton.mp e] at q
        exact q rfl
    · have q : its[j]? = some v := by simpa using q
      have hj := (List.getElem?_eq_some_iff.mp q).1
      have hx : xs[j]? = some (xs[j]'(by omega)) := List.getElem?_eq_getElem _
      obtain ⟨u, hu, ru⟩ := rv.get hx
      rw [q] at hu
      cases Option.some.inj hu
      exact ⟨_, hx, ru⟩
  | li a =>
    obtain ⟨its, rv, p, _⟩ := I.list hq
    have hl := rv.length
    refine ⟨[it, a], fun i v => its.toArray[i]? = some v, fun i h => h.IsListIter it a i ∧ h.IsList a its.toArray, ?_, List.mem_cons_self, fun c hc => ?_, ⟨st, p.isList⟩, fun j h q => q.1, fun j v q => ?_⟩
    · rw [hl, ← List.size_toArray]
      exact Draws.list hh it a off its.toArray
    · rcases List.mem_cons.mp hc with e | e
      · exact .inl e
      · refine .inr fun q => ?_
        rw [List.mem_singleton.mp e] at q
        exact q rfl
    · have q : its[j]? = some v := by simpa using q
      have hj := (List.getElem?_eq_some_iff.mp q).1
      have hx : xs[j]? = some (xs[j]'(by omega)) := List.getElem?_eq_getElem _
      obtain ⟨u, hu, ru⟩ := rv.get hx
      rw [q] at hu
      cases Option.some.inj hu
      exact ⟨_, hx, ru⟩
theorem ZS.begins {v : Value} {xs : List V} (z : ZS) (I : Inv X pins σ H s) (hq : z.at X.K H xs) (r : RelV z.val v) : ∃ o Hh, Begins v o Hh ∧ Hh s.heap ∧ (∀ it h, h.get? it = some o → z.it it 0 h) ∧ z.lt s.heap.objs.size := by
  cases z with
  | tx x =>
    obtain ⟨t, rfl⟩ := (show ∃ t, v = Value.str x t from r)
    exact ⟨_, _, begins_text x t, trivial, fun it h e => ⟨t, _, e, rfl, rfl⟩, trivial⟩
  | tu a =>
    cases (show v = Value.ref a from r)
    obtain ⟨its, rv, p, _⟩ := I.tuple hq
    obtain ⟨o1, ho1, _⟩ := id p
    exact ⟨_, _, begins_tuple a its.toArray, p, fun it h e => ⟨_, e, rfl, rfl⟩, Heap.lt_size ho1⟩
  | li a =>
    cases (show v = Value.ref a from r)
    obtain ⟨its, rv, p, _⟩ := I.list hq
    exact ⟨_, _, begins_list a its.toArray, p.isList, fun it h e => ⟨_, e, rfl, rfl⟩, p.lt⟩
end
def Itz2 (K : PySem.W.Frag) (z1 z2 : ZS) : It :=
  ⟨fun i H => ∃ (xs1 xs2 : List V) (x1 x2 : V), z1.at K H xs1 ∧ z2.at K H xs2 ∧ xs1[i]? = some x1 ∧ xs2[i]? = some x2,
    fun i H v H' => ∃ T x1 x2, v = .ref T ∧ H T = none ∧ H' = upd H T (.tup [x1, x2]) ∧ (∀ xs, z1.at K H xs → xs[i]? = some x1) ∧ (∀ xs, z2.at K H xs → xs[i]? = some x2),
    fun i H => ∃ xs1 xs2 : List V, z1.at K H xs1 ∧ z2.at K H xs2 ∧ i ≤ xs1.length ∧ i ≤ xs2.length ∧ (i = xs1.length ∨ i = xs2.length)⟩
theorem turn_zip2 {P : Program} {w : World} {K : PySem.W.Frag} {elts : List Expr} {kk : Nat} {tpos : Pos} {z1 z2 : ZS} {n : Nat} (l1 : z1.lt n) (l2 : z2.lt n) :
    Turn P w K (.Tuple elts kk tpos) (Itz2 K z1 z2) [n + 4, n + 2, n + 3, n, n + 1] (n + 4) (fun i h => IsZip h (n + 4) (n + 2) (n + 3) .none ∧ IsTupOf2 h (n + 2) (.ref (n)) (.ref (n + 1)) ∧ (∃ x1 x2, IsTupOf2 h (n + 3) x1 x2) ∧ z1.it (n) i h ∧ z2.it (n + 1) i h) where
  mem := List.mem_cons_self
  obj := fun i h st c hc => by
    obtain ⟨hz, hTI, ⟨x1, x2, hTO⟩, st1, st2⟩ := st
    have e' : c = n + 4 ∨ c = n + 2 ∨ c = n + 3 ∨ c = n ∨ c = n + 1 := by simpa using hc
    rcases e' with q | q | q | q | q
    · rw [q]; exact ⟨_, hz, fun v q => nomatch q⟩
    · rw [q]; exact ⟨_, hTI, fun v q => nomatch q⟩
    · rw [q]; exact ⟨_, hTO, fun v q => nomatch q⟩
    · rw [q]; exact ZS.obj (z := z1) st1
    · rw [q]; exact ZS.obj (z := z2) st2
  keep := fun i h h' st k => by
    obtain ⟨hz, hTI, ⟨x1, x2, hTO⟩, st1, st2⟩ := st
    exact ⟨k _ (by simp) _ hz, k _ (by simp) _ hTI, ⟨x1, x2, k _ (by simp) _ hTO⟩, ZS.move (z := z1) (fun o q => k _ (by simp) o q) st1, ZS.move (z := z2) (fun o q => k _ (by simp) o q) st2⟩
  item := by
    intro X hP hw hK hc i pins s σ H E I hf st hg
    subst hP hw hK
    obtain ⟨hz, hTI, ⟨y1, y2, hTO⟩, st1, st2⟩ := st
    obtain ⟨xs1, xs2, x1, x2, q1, q2, h1, h2⟩ := hg
    have hh : X.A.in1.handled = none := I.ok.hd hc
    obtain ⟨fp1, P1, St1, D1, m1, f1, s1, b1, p1⟩ := z1.draws (A := X.A.in1) I q1 hh (ZS.off_of (by omega) l1) st1
    have nf1 : ∀ c, n ≤ c → c ≠ n → c ∉ fp1 := fun c h1 h2 h3 => by
      rcases f1 c h3 with e | e
      · exact h2 e
      · exact e (ZS.off_of h1 l1)
    obtain ⟨fp2, P2, St2, D2, m2, f2, s2, b2, p2⟩ := z2.draws (A := X.A.in1) I q2 hh (ZS.off_of (by omega) l2) st2
    have nf2 : ∀ c, n ≤ c → c ≠ n + 1 → c ∉ fp2 := fun c h1 h2 h3 => by
      rcases f2 c h3 with e | e
      · exact h2 e
      · exact e (ZS.off_of h1 l2)
    have t1 : i < xs1.length := (List.getElem?_eq_some_iff.mp h1).1
    have t2 : i < xs2.length := (List.getElem?_eq_some_iff.mp h2).1
    have hzl : n + 4 < s.heap.objs.size := Heap.lt_size hz
    have S : ZipSep2 (n + 4) (n + 2) (n + 3) (n) (n + 1) fp1 fp2 := { TIz := (ne' (a := n + 2) (b := n + 4) (by omega)), TOz := (ne' (a := n + 3) (b := n + 4) (by omega)), TITO := (ne' (a := n + 2) (b := n + 3) (by omega)), TIi1 := (ne' (a := n + 2) (b := n) (by omega)), mem1 := m1, zf1 := nf1 (n + 4) (by omega) (ne' (a := n + 4) (b := n) (by omega)), Tf1 := nf1 (n + 3) (by omega) (ne' (a := n + 3) (b := n) (by omega)), TIi2 := (ne' (a := n + 2) (b := n + 1) (by omega)), mem2 := m2, zf2 := nf2 (n + 4) (by omega) (ne' (a := n + 4) (b := n + 1) (by omega)), Tf2 := nf2 (n + 3) (by omega) (ne' (a := n + 3) (b := n + 1) (by omega)), sep1_2 := nf2 (n) (by omega) (ne' (a := n) (b := n + 1) (by omega)), sep2_1 := nf1 (n + 1) (by omega) (ne' (a := n + 1) (b := n) (by omega)) }
    refine wpAny_pyNext_zipD2_item S D1 D2 hz hTI hTO s1 s2 t1 t2 fun u1 u2 h' tk g1 g2 z' TO' w1 w2 hT hsz hk => ?_
    refine ⟨_, rfl, wpAny_letOwnedTupleGo_zip (s := { s with heap := h', toks := tk }) z' fun h'' z'' sb => ?_⟩
    obtain ⟨x1', e1, ru1⟩ := p1 i u1 g1
    rw [h1] at e1
    cases Option.some.inj e1
    obtain ⟨x2', e2, ru2⟩ := p2 i u2 g2
    rw [h2] at e2
    cases Option.some.inj e2
    have hT2 : h''.get? s.heap.objs.size = some { cls := .type "tuple", data := .seq #[u1, u2] } := (sb.2 _ (Nat.ne_of_gt hzl)).trans hT
    have new : ObjOk X.prog X.w (upd H s.heap.objs.size (.tup [x1, x2])) h'' s.heap.objs.size (.tup [x1, x2]) :=
      ⟨by show 2 ≤ sizeLine; decide, [u1, u2], .cons ru1 (.cons ru2 (.nil)), ⟨_, hT2, rfl, _, rfl⟩⟩
    have out5 : ∀ c, c ∉ [n + 4, n + 2, n + 3, n, n + 1] → c ≠ n + 4 ∧ c ≠ n + 3 ∧ c ≠ n ∧ c ≠ n + 1 := fun c hb => ⟨fun q' => hb (by simp [q']), fun q' => hb (by simp [q']), fun q' => hb (by simp [q']), fun q' => hb (by simp [q'])⟩
    have I1 : Inv X pins σ (upd H s.heap.objs.size (.tup [x1, x2])) { s with heap := h'', toks := tk } :=
      I.turnedNew (t' := tk) (ch := [n + 4, n + 2, n + 3, n, n + 1]) (fun c o hb q => by
        obtain ⟨a1, a2, b1', b2'⟩ := out5 c hb
        exact (sb.2 c a1).trans (hk c o a1 a2 b1' b2' q)) hf (Nat.le_refl _) new
    refine ⟨.ref s.heap.objs.size, _, I1, rfl, ⟨_, x1, x2, rfl, I.hok.fresh (Nat.le_refl _), rfl, fun l hl => by rw [ZS.inj I hl q1]; exact h1, fun l hl => by rw [ZS.inj I hl q2]; exact h2⟩, ⟨z'', ?_, ⟨u1, u2, ?_⟩, ?_, ?_⟩, fun c hcm => ?_⟩
    · exact (sb.2 (n + 2) (ne' (a := n + 2) (b := n + 4) (by omega))).trans (hk (n + 2) _ (ne' (a := n + 2) (b := n + 4) (by omega)) (ne' (a := n + 2) (b := n + 3) (by omega)) (ne' (a := n + 2) (b := n) (by omega)) (ne' (a := n + 2) (b := n + 1) (by omega)) hTI)
    · exact (sb.2 (n + 3) (ne' (a := n + 3) (b := n + 4) (by omega))).trans TO'
    · exact ZS.move (z := z1) (fun o q => (sb.2 (n) (ne' (a := n) (b := n + 4) (by omega))).trans q) (b1 _ _ w1)
    · exact ZS.move (z := z2) (fun o q => (sb.2 (n + 1) (ne' (a := n + 1) (b := n + 4) (by omega))).trans q) (b2 _ _ w2)
    · have hlt : c < s.heap.objs.size := by
        have e' : c = n + 4 ∨ c = n + 2 ∨ c = n + 3 ∨ c = n ∨ c = n + 1 := by simpa using hcm
        rcases e' with q | q | q | q | q
        · rw [q]; exact (show (n + 4 : Nat) < s.heap.objs.size by omega)
        · rw [q]; exact (show (n + 2 : Nat) < s.heap.objs.size by omega)
        · rw [q]; exact (show (n + 3 : Nat) < s.heap.objs.size by omega)
        · rw [q]; exact (show (n : Nat) < s.heap.objs.size by omega)
        · rw [q]; exact (show (n + 1 : Nat) < s.heap.objs.size by omega)
      rw [upd_ne (Nat.ne_of_lt hlt)]
      exact (hf c hcm).1
  done := by
    intro X hP hw hK hc i pins s σ H E I hf st hg
    subst hP hw hK
    obtain ⟨hz, hTI, ⟨y1, y2, hTO⟩, st1, st2⟩ := st
    obtain ⟨xs1, xs2, q1, q2, t1, t2, hend⟩ := hg
    have hh : X.A.in1.handled = none := I.ok.hd hc
    obtain ⟨fp1, P1, St1, D1, m1, f1, s1, b1, p1⟩ := z1.draws (A := X.A.in1) I q1 hh (ZS.off_of (by omega) l1) st1
    have nf1 : ∀ c, n ≤ c → c ≠ n → c ∉ fp1 := fun c h1 h2 h3 => by
      rcases f1 c h3 with e | e
      · exact h2 e
      · exact e (ZS.off_of h1 l1)
    obtain ⟨fp2, P2, St2, D2, m2, f2, s2, b2, p2⟩ := z2.draws (A := X.A.in1) I q2 hh (ZS.off_of (by omega) l2) st2
    have nf2 : ∀ c, n ≤ c → c ≠ n + 1 → c ∉ fp2 := fun c h1 h2 h3 => by
      rcases f2 c h3 with e | e
      · exact h2 e
      · exact e (ZS.off_of h1 l2)
    have S : ZipSep2 (n + 4) (n + 2) (n + 3) (n) (n + 1) fp1 fp2 := { TIz := (ne' (a := n + 2) (b := n + 4) (by omega)), TOz := (ne' (a := n + 3) (b := n + 4) (by omega)), TITO := (ne' (a := n + 2) (b := n + 3) (by omega)), TIi1 := (ne' (a := n + 2) (b := n) (by omega)), mem1 := m1, zf1 := nf1 (n + 4) (by omega) (ne' (a := n + 4) (b := n) (by omega)), Tf1 := nf1 (n + 3) (by omega) (ne' (a := n + 3) (b := n) (by omega)), TIi2 := (ne' (a := n + 2) (b := n + 1) (by omega)), mem2 := m2, zf2 := nf2 (n + 4) (by omega) (ne' (a := n + 4) (b := n + 1) (by omega)), Tf2 := nf2 (n + 3) (by omega) (ne' (a := n + 3) (b := n + 1) (by omega)), sep1_2 := nf2 (n) (by omega) (ne' (a := n) (b := n + 1) (by omega)), sep2_1 := nf1 (n + 1) (by omega) (ne' (a := n + 1) (b := n) (by omega)) }
    exact wpAny_pyNext_zipD2_end S D1 D2 hz hTI hTO s1 s2 t1 t2 hend fun h' tk hk => ⟨rfl, I.turnedL (t' := tk) (ch := [n + 4, n + 2, n + 3, n, n + 1]) (fun c o hb q =>
      hk c o (fun q' => hb (by simp [q'])) (fun q' => hb (by simp [q'])) (fun q' => hb (by simp [q'])) (fun q' => hb (by simp [q'])) q) hf⟩
  self := fun A i s Q E st h => wpAny_pyIter_zip st.1 h
def iZip2 (K : PySem.W.Frag) (ta : TA) : TI := fun σ H R => ta σ H fun vs H1 => ∃ (z1 z2 : ZS) (xs1 xs2 : List V), vs = [z1.val, z2.val] ∧ z1.at K H1 xs1 ∧ z2.at K H1 xs2 ∧ R (Itz2 K z1 z2) H1
theorem pi_zip2 {X : Cx} {e e2 : Expr} {ta : TA} {p pos tpos : Pos} {elts : List Expr} {kk : Nat} (hg : Gl X "zip") (hm : X.mg "zip" = none) (ha : PA X [e, e2] ta)
    (hs : starEach [e, e2] X.env = (false, eval e X.env) :: starEach [e2] X.env := by rfl) (hpl : (backTo pos (starEach [e2] X.env)).any (·.1) = false := by rfl) :
    PI X (.Tuple elts kk tpos) (.Call (.Name "zip" p) [e, e2] [] pos) (iZip2 X.K ta) := by
  refine ⟨fun pins s σ H R I h => ?_⟩
  refine Call_ (ld_blt I hg hm PyProof.Rows.boot_zip (PyProof.Rows.callWith_type1 (thn (ha.run pos pins s σ H _ I h) fun us s1 ⟨vs, H1, I1, r1, q1⟩ => ?_) hs hpl))
  obtain ⟨z1, z2, xs1, xs2, ex, q1, q2, q⟩ := q1
  subst ex
  cases r1 with
  | cons r1 rr =>
    cases rr with
    | cons r2 rr =>
      cases rr
      obtain ⟨o1, G1, B1, h1, i1, l1⟩ := z1.begins I1 q1 r1
      obtain ⟨o2, G2, B2, h2, i2, l2⟩ := z2.begins I1 q2 r2
      have fresh5 : ∀ c, c ∈ [s1.heap.objs.size + 4, s1.heap.objs.size + 2, s1.heap.objs.size + 3, s1.heap.objs.size, s1.heap.objs.size + 1] → FpOk X pins H1 c := fun c hcm => by
        have e' : c = s1.heap.objs.size + 4 ∨ c = s1.heap.objs.size + 2 ∨ c = s1.heap.objs.size + 3 ∨ c = s1.heap.objs.size ∨ c = s1.heap.objs.size + 1 := by simpa using hcm
        have hle : s1.heap.objs.size ≤ c := by omega
        exact I1.fpOk hle (I1.hok.fresh hle)
      refine zip_begins2 B1 B2 h1 h2 fun h' hz hTI hTO g1 g2 hsz hk => wpAny_pyIter_zip hz ?_
      have I2 : Inv X pins σ H1 { s1 with heap := h' } := I1.kept (t' := s1.toks) hk
      exact ⟨s1.heap.objs.size + 4, [s1.heap.objs.size + 4, s1.heap.objs.size + 2, s1.heap.objs.size + 3, s1.heap.objs.size, s1.heap.objs.size + 1], _, _, H1, rfl, I2, turn_zip2 l1 l2, ⟨hz, hTI, ⟨_, _, hTO⟩, i1 _ _ g1, i2 _ _ g2⟩, fresh5, q⟩
theorem for_zip2 {K : PySem.W.Frag} {z1 z2 : ZS} {xs1 xs2 : List V} {n : Nat} {g : TG} {tb : TS} {D : Ends} {σ : L2.St} {H : Hp} (n1 : xs1.length = n) (n2 : xs2.length = n) (Pv : Nat → L2.St → Hp → Prop) (h0 : Pv 0 σ H) (hl : ∀ i σ H, i ≤ n → Pv i σ H → z1.at K H xs1 ∧ z2.at K H xs2)
    (hs : ∀ (i : Nat) (x1 x2 : V) (T : Addr) (σ : L2.St) (H : Hp), xs1[i]? = some x1 → xs2[i]? = some x2 → H T = none → Pv i σ H → g (.ref T) σ (upd H T (.tup [x1, x2])) fun σ2 H2 => tb { D with nx := Pv (i + 1), ct := Pv (i + 1), bk := D.nx } σ2 H2) (hd : ∀ σ H, Pv n σ H → D.nx σ H) :
    ∃ W : Nat → Nat → L2.St → Hp → Prop, (∃ m, W 0 m σ H) ∧ ∀ i m σ H, W i m σ H →
      ((Itz2 K z1 z2).stop i H ∧ D.nx σ H) ∨ ((Itz2 K z1 z2).go i H ∧ ∃ N : L2.St → Hp → Prop, (∀ σ' H', N σ' H' → ∃ m', m' < m ∧ W (i + 1) m' σ' H') ∧ ∀ v H', (Itz2 K z1 z2).yld i H v H' → g v σ H' fun σ2 H2 => tb { D with nx := N, ct := N, bk := D.nx } σ2 H2) := by
  refine ⟨fun i m σ H => m = n - i ∧ i ≤ n ∧ Pv i σ H, ⟨n, rfl, Nat.zero_le _, h0⟩, ?_⟩
  rintro i m σ H ⟨rfl, hi, p⟩
  obtain ⟨q1, q2⟩ := hl i σ H hi p
  by_cases hlt : i < n
  · have e1 : xs1[i]? = some (xs1[i]'(by omega)) := List.getElem?_eq_getElem _
    have e2 : xs2[i]? = some (xs2[i]'(by omega)) := List.getElem?_eq_getElem _
    refine .inr ⟨⟨xs1, xs2, _, _, q1, q2, e1, e2⟩, Pv (i + 1), fun σ' H' p' => ⟨n - (i + 1), by omega, rfl, hlt, p'⟩, fun v H' y => ?_⟩
    obtain ⟨T, y1, y2, rfl, hT, rfl, f1, f2⟩ := y
    exact hs i y1 y2 T σ H (f1 xs1 q1) (f2 xs2 q2) hT p
  · have e : i = n := by omega
    subst e
    exact .inl ⟨⟨xs1, xs2, q1, q2, by omega, by omega, .inl (by omega)⟩, hd σ H p⟩
theorem lc_zip2 {K : PySem.W.Frag} {z1 z2 : ZS} {xs1 xs2 : List V} {n : Nat} {g : TG} {tt : TT} {te : TE} {vs : List Nat} {σ : L2.St} {H1 : Hp} {D : Addr} {Qd : Hp → Prop} (n1 : xs1.length = n) (n2 : xs2.length = n) (Pv : Nat → Hp → Prop) (h0 : Pv 0 (upd H1 D (.lst []))) (hl : ∀ i H, i ≤ n → Pv i H → z1.at K H xs1 ∧ z2.at K H xs2)
    (hs : ∀ (i : Nat) (x1 x2 : V) (T : Addr) (H : Hp), xs1[i]? = some x1 → xs2[i]? = some x2 → H T = none → Pv i H → g (.ref T) (wipe σ vs) (upd H T (.tup [x1, x2])) fun σ2 H2 => wipe σ2 vs = wipe σ vs ∧ tt σ2 H2 fun b H3 =>
      if b = true then te σ2 H3 fun y H4 => ∃ acc, H4 D = some (.lst acc) ∧ acc.length < sizeLine ∧ Pv (i + 1) (upd H4 D (.lst (acc ++ [y]))) else Pv (i + 1) H3) (hd : ∀ H, Pv n H → Qd H) :
    ∃ W : Nat → Nat → Hp → Prop, (∃ m, W 0 m (upd H1 D (.lst []))) ∧ ∀ i m H, W i m H →
      ((Itz2 K z1 z2).stop i H ∧ Qd H) ∨ ((Itz2 K z1 z2).go i H ∧ ∃ Nx : Hp → Prop, (∀ H', Nx H' → ∃ m', m' < m ∧ W (i + 1) m' H') ∧ ∀ x H', (Itz2 K z1 z2).yld i H x H' → g x (wipe σ vs) H' fun σ2 H2 => wipe σ2 vs = wipe σ vs ∧ tt σ2 H2 fun b H3 =>
        if b = true then te σ2 H3 fun y H4 => ∃ acc, H4 D = some (.lst acc) ∧ acc.length < sizeLine ∧ Nx (upd H4 D (.lst (acc ++ [y]))) else Nx H3) := by
  refine ⟨fun i m H => m = n - i ∧ i ≤ n ∧ Pv i H, ⟨n, by simp, Nat.zero_le _, h0⟩, ?_⟩
  rintro i m H ⟨rfl, hi, p⟩
  obtain ⟨q1, q2⟩ := hl i H hi p
  by_cases hlt : i < n
  · have e1 : xs1[i]? = some (xs1[i]'(by omega)) := List.getElem?_eq_getElem _
    have e2 : xs2[i]? = some (xs2[i]'(by omega)) := List.getElem?_eq_getElem _
    refine .inr ⟨⟨xs1, xs2, _, _, q1, q2, e1, e2⟩, Pv (i + 1), fun H' p' => ⟨n - (i + 1), by omega, rfl, hlt, p'⟩, fun v H' y => ?_⟩
    obtain ⟨T, y1, y2, rfl, hT, rfl, f1, f2⟩ := y
    exact hs i y1 y2 T H (f1 xs1 q1) (f2 xs2 q2) hT p
  · have e : i = n := by omega
    subst e
    exact .inl ⟨⟨xs1, xs2, q1, q2, by omega, by omega, .inl (by omega)⟩, hd H p⟩
theorem gx_zip2 {α : Type} {K : PySem.W.Frag} {z1 z2 : ZS} {xs1 xs2 : List V} {n : Nat} {g : TG} {tt : TT} {te : TE} {vs : List Nat} {σ0 : L2.St} {End : α → Hp → Prop} {Yd : α → V → Hp → (α → Hp → Prop) → Prop} {a0 : α} {H0 : Hp} (n1 : xs1.length = n) (n2 : xs2.length = n) (Pv : Nat → α → Hp → Prop) (h0 : Pv 0 a0 H0) (hl : ∀ i c H, i ≤ n → Pv i c H → z1.at K H xs1 ∧ z2.at K H xs2)
    (hs : ∀ (i : Nat) (x1 x2 : V) (T : Addr) (c : α) (H : Hp), xs1[i]? = some x1 → xs2[i]? = some x2 → H T = none → Pv i c H → g (.ref T) σ0 (upd H T (.tup [x1, x2])) fun σ2 H2 => wipe σ2 vs = σ0 ∧ tt σ2 H2 fun b H3 => if b = true then te σ2 H3 fun y H4 => Yd c y H4 (Pv (i + 1)) else Pv (i + 1) c H3) (hd : ∀ c H, Pv n c H → End c H) :
    ∃ W : Nat → Nat → α → Hp → Prop, (∃ m, W 0 m a0 H0) ∧ tGx (Itz2 K z1 z2) g tt te σ0 vs End Yd W := by
  refine ⟨fun i m c H => m = n - i ∧ i ≤ n ∧ Pv i c H, ⟨n, rfl, Nat.zero_le _, h0⟩, ?_⟩
  rintro i m c H ⟨rfl, hi, p⟩
  obtain ⟨q1, q2⟩ := hl i c H hi p
  by_cases hlt : i < n
  · have e1 : xs1[i]? = some (xs1[i]'(by omega)) := List.getElem?_eq_getElem _
    have e2 : xs2[i]? = some (xs2[i]'(by omega)) := List.getElem?_eq_getElem _
    refine .inr ⟨⟨xs1, xs2, _, _, q1, q2, e1, e2⟩, Pv (i + 1), fun c' H' p' => ⟨n - (i + 1), by omega, rfl, hlt, p'⟩, fun v H' y => ?_⟩
    obtain ⟨T, y1, y2, rfl, hT, rfl, f1, f2⟩ := y
    exact hs i y1 y2 T c H (f1 xs1 q1) (f2 xs2 q2) hT p
  · have e : i = n := by omega
    subst e
    exact .inl ⟨⟨xs1, xs2, q1, q2, by omega, by omega, .inl (by omega)⟩, hd c H p⟩
def Itz3 (K : PySem.W.Frag) (z1 z2 z3 : ZS) : It :=
  ⟨fun i H => ∃ (xs1 xs2 xs3 : List V) (x1 x2 x3 : V), z1.at K H xs1 ∧ z2.at K H xs2 ∧ z3.at K H xs3 ∧ xs1[i]? = some x1 ∧ xs2[i]? = some x2 ∧ xs3[i]? = some x3,
    fun i H v H' => ∃ T x1 x2 x3, v = .ref T ∧ H T = none ∧ H' = upd H T (.tup [x1, x2, x3]) ∧ (∀ xs, z1.at K H xs → xs[i]? = some x1) ∧ (∀ xs, z2.at K H xs → xs[i]? = some x2) ∧ (∀ xs, z3.at K H xs → xs[i]? = some x3),
    fun i H => ∃ xs1 xs2 xs3 : List V, z1.at K H xs1 ∧ z2.at K H xs2 ∧ z3.at K H xs3 ∧ i ≤ xs1.length ∧ i ≤ xs2.length ∧ i ≤ xs3.length ∧ (i = xs1.length ∨ i = xs2.length ∨ i = xs3.length)⟩
theorem turn_zip3 {P : Program} {w : World} {K : PySem.W.Frag} {elts : List Expr} {kk : Nat} {tpos : Pos} {z1 z2 z3 : ZS} {n : Nat} (l1 : z1.lt n) (l2 : z2.lt n) (l3 : z3.lt n) :
    Turn P w K (.Tuple elts kk tpos) (Itz3 K z1 z2 z3) [n + 5, n + 3, n + 4, n, n + 1, n + 2] (n + 5) (fun i h => IsZip h (n + 5) (n + 3) (n + 4) .none ∧ IsTupOf3 h (n + 3) (.ref (n)) (.ref (n + 1)) (.ref (n + 2)) ∧ (∃ x1 x2 x3, IsTupOf3 h (n + 4) x1 x2 x3) ∧ z1.it (n) i h ∧ z2.it (n + 1) i h ∧ z3.it (n + 2) i h) where
  mem := List.mem_cons_self
  obj := fun i h st c hc => by
    obtain ⟨hz, hTI, ⟨x1, x2, x3, hTO⟩, st1, st2, st3⟩ := st
    have e' : c = n + 5 ∨ c = n + 3 ∨ c = n + 4 ∨ c = n ∨ c = n + 1 ∨ c = n + 2 := by simpa using hc
    rcases e' with q | q | q | q | q | q
    · rw [q]; exact ⟨_, hz, fun v q => nomatch q⟩
    · rw [q]; exact ⟨_, hTI, fun v q => nomatch q⟩
    · rw [q]; exact ⟨_, hTO, fun v q => nomatch q⟩
    · rw [q]; exact ZS.obj (z := z1) st1
    · rw [q]; exact ZS.obj (z := z2) st2
    · rw [q]; exact ZS.obj (z := z3) st3
  keep := fun i h h' st k => by
    obtain ⟨hz, hTI, ⟨x1, x2, x3, hTO⟩, st1, st2, st3⟩ := st
    exact ⟨k _ (by simp) _ hz, k _ (by simp) _ hTI, ⟨x1, x2, x3, k _ (by simp) _ hTO⟩, ZS.move (z := z1) (fun o q => k _ (by simp) o q) st1, ZS.move (z := z2) (fun o q => k _ (by simp) o q) st2, ZS.move (z := z3) (fun o q => k _ (by simp) o q) st3⟩
  item := by
    intro X hP hw hK hc i pins s σ H E I hf st hg
    subst hP hw hK
    obtain ⟨hz, hTI, ⟨y1, y2, y3, hTO⟩, st1, st2, st3⟩ := st
    obtain ⟨xs1, xs2, xs3, x1, x2, x3, q1, q2, q3, h1, h2, h3⟩ := hg
    have hh : X.A.in1.handled = none := I.ok.hd hc
    obtain ⟨fp1, P1, St1, D1, m1, f1, s1, b1, p1⟩ := z1.draws (A := X.A.in1) I q1 hh (ZS.off_of (by omega) l1) st1
    have nf1 : ∀ c, n ≤ c → c ≠ n → c ∉ fp1 := fun c h1 h2 h3 => by
      rcases f1 c h3 with e | e
      · exact h2 e
      · exact e (ZS.off_of h1 l1)
    obtain ⟨fp2, P2, St2, D2, m2, f2, s2, b2, p2⟩ := z2.draws (A := X.A.in1) I q2 hh (ZS.off_of (by omega) l2) st2
    have nf2 : ∀ c, n ≤ c → c ≠ n + 1 → c ∉ fp2 := fun c h1 h2 h3 => by
      rcases f2 c h3 with e | e
      · exact h2 e
      · exact e (ZS.off_of h1 l2)
    obtain ⟨fp3, P3, St3, D3, m3, f3, s3, b3, p3⟩ := z3.draws (A := X.A.in1) I q3 hh (ZS.off_of (by omega) l3) st3
    have nf3 : ∀ c, n ≤ c → c ≠ n + 2 → c ∉ fp3 := fun c h1 h2 h3 => by
      rcases f3 c h3 with e | e
      · exact h2 e
      · exact e (ZS.off_of h1 l3)
    have t1 : i < xs1.length := (List.getElem?_eq_some_iff.mp h1).1
    have t2 : i < xs2.length := (List.getElem?_eq_some_iff.mp h2).1
    have t3 : i < xs3.length := (List.getElem?_eq_some_iff.mp h3).1
    have hzl : n + 5 < s.heap.objs.size := Heap.lt_size hz
    have S : ZipSep3 (n + 5) (n + 3) (n + 4) (n) (n + 1) (n + 2) fp1 fp2 fp3 := { TIz := (ne' (a := n + 3) (b := n + 5) (by omega)), TOz := (ne' (a := n + 4) (b := n + 5) (by omega)), TITO := (ne' (a := n + 3) (b := n + 4) (by omega)), TIi1 := (ne' (a := n + 3) (b := n) (by omega)), mem1 := m1, zf1 := nf1 (n + 5) (by omega) (ne' (a := n + 5) (b := n) (by omega)), Tf1 := nf1 (n + 4) (by omega) (ne' (a := n + 4) (b := n) (by omega)), TIi2 := (ne' (a := n + 3) (b := n + 1) (by omega)), mem2 := m2, zf2 := nf2 (n + 5) (by omega) (ne' (a := n + 5) (b := n + 1) (by omega)), Tf2 := nf2 (n + 4) (by omega) (ne' (a := n + 4) (b := n + 1) (by omega)), TIi3 := (ne' (a := n + 3) (b := n + 2) (by omega)), mem3 := m3, zf3 := nf3 (n + 5) (by omega) (ne' (a := n + 5) (b := n + 2) (by omega)), Tf3 := nf3 (n + 4) (by omega) (ne' (a := n + 4) (b := n + 2) (by omega)), sep1_2 := nf2 (n) (by omega) (ne' (a := n) (b := n + 1) (by omega)), sep1_3 := nf3 (n) (by omega) (ne' (a := n) (b := n + 2) (by omega)), sep2_1 := nf1 (n + 1) (by omega) (ne' (a := n + 1) (b := n) (by omega)), sep2_3 := nf3 (n + 1) (by omega) (ne' (a := n + 1) (b := n + 2) (by omega)), sep3_1 := nf1 (n + 2) (by omega) (ne' (a := n + 2) (b := n) (by omega)), sep3_2 := nf2 (n + 2) (by omega) (ne' (a := n + 2) (b := n + 1) (by omega)) }
    refine wpAny_pyNext_zipD3_item S D1 D2 D3 hz hTI hTO s1 s2 s3 t1 t2 t3 fun u1 u2 u3 h' tk g1 g2 g3 z' TO' w1 w2 w3 hT hsz hk => ?_
    refine ⟨_, rfl, wpAny_letOwnedTupleGo_zip (s := { s with heap := h', toks := tk }) z' fun h'' z'' sb => ?_⟩
    obtain ⟨x1', e1, ru1⟩ := p1 i u1 g1
    rw [h1] at e1
    cases Option.some.inj e1
    obtain ⟨x2', e2, ru2⟩ := p2 i u2 g2
    rw [h2] at e2
    cases Option.some.inj e2
    obtain ⟨x3', e3, ru3⟩ := p3 i u3 g3
    rw [h3] at e3
    cases Option.some.inj e3
    have hT2 : h''.get? s.heap.objs.size = some { cls := .type "tuple", data := .seq #[u1, u2, u3] } := (sb.2 _ (Nat.ne_of_gt hzl)).trans hT
    have new : ObjOk X.prog X.w (upd H s.heap.objs.size (.tup [x1, x2, x3])) h'' s.heap.objs.size (.tup [x1, x2, x3]) :=
      ⟨by show 3 ≤ sizeLine; decide, [u1, u2, u3], .cons ru1 (.cons ru2 (.cons ru3 (.nil))), ⟨_, hT2, rfl, _, rfl⟩⟩
    have out5 : ∀ c, c ∉ [n + 5, n + 3, n + 4, n, n + 1, n + 2] → c ≠ n + 5 ∧ c ≠ n + 4 ∧ c ≠ n ∧ c ≠ n + 1 ∧ c ≠ n + 2 := fun c hb => ⟨fun q' => hb (by simp [q']), fun q' => hb (by simp [q']), fun q' => hb (by simp [q']), fun q' => hb (by simp [q']), fun q' => hb (by simp [q'])⟩
    have I1 : Inv X pins σ (upd H s.heap.objs.size (.tup [x1, x2, x3])) { s with heap := h'', toks := tk } :=
      I.turnedNew (t' := tk) (ch := [n + 5, n + 3, n + 4, n, n + 1, n + 2]) (fun c o hb q => by
        obtain ⟨a1, a2, b1', b2', b3'⟩ := out5 c hb
        exact (sb.2 c a1).trans (hk c o a1 a2 b1' b2' b3' q)) hf (Nat.le_refl _) new
    refine ⟨.ref s.heap.objs.size, _, I1, rfl, ⟨_, x1, x2, x3, rfl, I.hok.fresh (Nat.le_refl _), rfl, fun l hl => by rw [ZS.inj I hl q1]; exact h1, fun l hl => by rw [ZS.inj I hl q2]; exact h2, fun l hl => by rw [ZS.inj I hl q3]; exact h3⟩, ⟨z'', ?_, ⟨u1, u2, u3, ?_⟩, ?_, ?_, ?_⟩, fun c hcm => ?_⟩
    · exact (sb.2 (n + 3) (ne' (a := n + 3) (b := n + 5) (by omega))).trans (hk (n + 3) _ (ne' (a := n + 3) (b := n + 5) (by omega)) (ne' (a := n + 3) (b := n + 4) (by omega)) (ne' (a := n + 3) (b := n) (by omega)) (ne' (a := n + 3) (b := n + 1) (by omega)) (ne' (a := n + 3) (b := n + 2) (by omega)) hTI)
    · exact (sb.2 (n + 4) (ne' (a := n + 4) (b := n + 5) (by omega))).trans TO'
    · exact ZS.move (z := z1) (fun o q => (sb.2 (n) (ne' (a := n) (b := n + 5) (by omega))).trans q) (b1 _ _ w1)
    · exact ZS.move (z := z2) (fun o q => (sb.2 (n + 1) (ne' (a := n + 1) (b := n + 5) (by omega))).trans q) (b2 _ _ w2)
    · exact ZS.move (z := z3) (fun o q => (sb.2 (n + 2) (ne' (a := n + 2) (b := n + 5) (by omega))).trans q) (b3 _ _ w3)
    · have hlt : c < s.heap.objs.size := by
        have e' : c = n + 5 ∨ c = n + 3 ∨ c = n + 4 ∨ c = n ∨ c = n + 1 ∨ c = n + 2 := by simpa using hcm
        rcases e' with q | q | q | q | q | q
        · rw [q]; exact (show (n + 5 : Nat) < s.heap.objs.size by omega)
        · rw [q]; exact (show (n + 3 : Nat) < s.heap.objs.size by omega)
        · rw [q]; exact (show (n + 4 : Nat) < s.heap.objs.size by omega)
        · rw [q]; exact (show (n : Nat) < s.heap.objs.size by omega)
        · rw [q]; exact (show (n + 1 : Nat) < s.heap.objs.size by omega)
        · rw [q]; exact (show (n + 2 : Nat) < s.heap.objs.size by omega)
      rw [upd_ne (Nat.ne_of_lt hlt)]
      exact (hf c hcm).1
  done := by
    intro X hP hw hK hc i pins s σ H E I hf st hg
    subst hP hw hK
    obtain ⟨hz, hTI, ⟨y1, y2, y3, hTO⟩, st1, st2, st3⟩ := st
    obtain ⟨xs1, xs2, xs3, q1, q2, q3, t1, t2, t3, hend⟩ := hg
    have hh : X.A.in1.handled = none := I.ok.hd hc
    obtain ⟨fp1, P1, St1, D1, m1, f1, s1, b1, p1⟩ := z1.draws (A := X.A.in1) I q1 hh (ZS.off_of (by omega) l1) st1
    have nf1 : ∀ c, n ≤ c → c ≠ n → c ∉ fp1 := fun c h1 h2 h3 => by
      rcases f1 c h3 with e | e
      · exact h2 e
      · exact e (ZS.off_of h1 l1)
    obtain ⟨fp2, P2, St2, D2, m2, f2, s2, b2, p2⟩ := z2.draws (A := X.A.in1) I q2 hh (ZS.off_of (by omega) l2) st2
    have nf2 : ∀ c, n ≤ c → c ≠ n + 1 → c ∉ fp2 := fun c h1 h2 h3 => by
      rcases f2 c h3 with e | e
      · exact h2 e
      · exact e (ZS.off_of h1 l2)
    obtain ⟨fp3, P3, St3, D3, m3, f3, s3, b3, p3⟩ := z3.draws (A := X.A.in1) I q3 hh (ZS.off_of (by omega) l3) st3
    have nf3 : ∀ c, n ≤ c → c ≠ n + 2 → c ∉ fp3 := fun c h1 h2 h3 => by
      rcases f3 c h3 with e | e
      · exact h2 e
      · exact e (ZS.off_of h1 l3)
    have S : ZipSep3 (n + 5) (n + 3) (n + 4) (n) (n + 1) (n + 2) fp1 fp2 fp3 := { TIz := (ne' (a := n + 3) (b := n + 5) (by omega)), TOz := (ne' (a := n + 4) (b := n + 5) (by omega)), TITO := (ne' (a := n + 3) (b := n + 4) (by omega)), TIi1 := (ne' (a := n + 3) (b := n) (by omega)), mem1 := m1, zf1 := nf1 (n + 5) (by omega) (ne' (a := n + 5) (b := n) (by omega)), Tf1 := nf1 (n + 4) (by omega) (ne' (a := n + 4) (b := n) (by omega)), TIi2 := (ne' (a := n + 3) (b := n + 1) (by omega)), mem2 := m2, zf2 := nf2 (n + 5) (by omega) (ne' (a := n + 5) (b := n + 1) (by omega)), Tf2 := nf2 (n + 4) (by omega) (ne' (a := n + 4) (b := n + 1) (by omega)), TIi3 := (ne' (a := n + 3) (b := n + 2) (by omega)), mem3 := m3, zf3 := nf3 (n + 5) (by omega) (ne' (a := n + 5) (b := n + 2) (by omega)), Tf3 := nf3 (n + 4) (by omega) (ne' (a := n + 4) (b := n + 2) (by omega)), sep1_2 := nf2 (n) (by omega) (ne' (a := n) (b := n + 1) (by omega)), sep1_3 := nf3 (n) (by omega) (ne' (a := n) (b := n + 2) (by omega)), sep2_1 := nf1 (n + 1) (by omega) (ne' (a := n + 1) (b := n) (by omega)), sep2_3 := nf3 (n + 1) (by omega) (ne' (a := n + 1) (b := n + 2) (by omega)), sep3_1 := nf1 (n + 2) (by omega) (ne' (a := n + 2) (b := n) (by omega)), sep3_2 := nf2 (n + 2) (by omega) (ne' (a := n + 2) (b := n + 1) (by omega)) }
    exact wpAny_pyNext_zipD3_end S D1 D2 D3 hz hTI hTO s1 s2 s3 t1 t2 t3 hend fun h' tk hk => ⟨rfl, I.turnedL (t' := tk) (ch := [n + 5, n + 3, n + 4, n, n + 1, n + 2]) (fun c o hb q =>
      hk c o (fun q' => hb (by simp [q'])) (fun q' => hb (by simp [q'])) (fun q' => hb (by simp [q'])) (fun q' => hb (by simp [q'])) (fun q' => hb (by simp [q'])) q) hf⟩
  self := fun A i s Q E st h => wpAny_pyIter_zip st.1 h
def iZip3 (K : PySem.W.Frag) (ta : TA) : TI := fun σ H R => ta σ H fun vs H1 => ∃ (z1 z2 z3 : ZS) (xs1 xs2 xs3 : List V), vs = [z1.val, z2.val, z3.val] ∧ z1.at K H1 xs1 ∧ z2.at K H1 xs2 ∧ z3.at K H1 xs3 ∧ R (Itz3 K z1 z2 z3) H1
theorem pi_zip3 {X : Cx} {e e2 e3 : Expr} {ta : TA} {p pos tpos : Pos} {elts : List Expr} {kk : Nat} (hg : Gl X "zip") (hm : X.mg "zip" = none) (ha : PA X [e, e2, e3] ta)
    (hs : starEach [e, e2, e3] X.env = (false, eval e X.env) :: starEach [e2, e3] X.env := by rfl) (hpl : (backTo pos (starEach [e2, e3] X.env)).any (·.1) = false := by rfl) :
    PI X (.Tuple elts kk tpos) (.Call (.Name "zip" p) [e, e2, e3] [] pos) (iZip3 X.K ta) := by
  refine ⟨fun pins s σ H R I h => ?_⟩
  refine Call_ (ld_blt I hg hm PyProof.Rows.boot_zip (PyProof.Rows.callWith_type1 (thn (ha.run pos pins s σ H _ I h) fun us s1 ⟨vs, H1, I1, r1, q1⟩ => ?_) hs hpl))
  obtain ⟨z1, z2, z3, xs1, xs2, xs3, ex, q1, q2, q3, q⟩ := q1
  subst ex
  cases r1 with
  | cons r1 rr =>
    cases rr with
    | cons r2 rr =>
      cases rr with
      | cons r3 rr =>
        cases rr
        obtain ⟨o1, G1, B1, h1, i1, l1⟩ := z1.begins I1 q1 r1
        obtain ⟨o2, G2, B2, h2, i2, l2⟩ := z2.begins I1 q2 r2
        obtain ⟨o3, G3, B3, h3, i3, l3⟩ := z3.begins I1 q3 r3
        have fresh5 : ∀ c, c ∈ [s1.heap.objs.size + 5, s1.heap.objs.size + 3, s1.heap.objs.size + 4, s1.heap.objs.size, s1.heap.objs.size + 1, s1.heap.objs.size + 2] → FpOk X pins H1 c := fun c hcm => by
          have e' : c = s1.heap.objs.size + 5 ∨ c = s1.heap.objs.size + 3 ∨ c = s1.heap.objs.size + 4 ∨ c = s1.heap.objs.size ∨ c = s1.heap.objs.size + 1 ∨ c = s1.heap.objs.size + 2 := by simpa using hcm
          have hle : s1.heap.objs.size ≤ c := by omega
          exact I1.fpOk hle (I1.hok.fresh hle)
        refine zip_begins3 B1 B2 B3 h1 h2 h3 fun h' hz hTI hTO g1 g2 g3 hsz hk => wpAny_pyIter_zip hz ?_
        have I2 : Inv X pins σ H1 { s1 with heap := h' } := I1.kept (t' := s1.toks) hk
        exact ⟨s1.heap.objs.size + 5, [s1.heap.objs.size + 5, s1.heap.objs.size + 3, s1.heap.objs.size + 4, s1.heap.objs.size, s1.heap.objs.size + 1, s1.heap.objs.size + 2], _, _, H1, rfl, I2, turn_zip3 l1 l2 l3, ⟨hz, hTI, ⟨_, _, _, hTO⟩, i1 _ _ g1, i2 _ _ g2, i3 _ _ g3⟩, fresh5, q⟩
theorem for_zip3 {K : PySem.W.Frag} {z1 z2 z3 : ZS} {xs1 xs2 xs3 : List V} {n : Nat} {g : TG} {tb : TS} {D : Ends} {σ : L2.St} {H : Hp} (n1 : xs1.length = n) (n2 : xs2.length = n) (n3 : xs3.length = n) (Pv : Nat → L2.St → Hp → Prop) (h0 : Pv 0 σ H) (hl : ∀ i σ H, i ≤ n → Pv i σ H → z1.at K H xs1 ∧ z2.at K H xs2 ∧ z3.at K H xs3)
    (hs : ∀ (i : Nat) (x1 x2 x3 : V) (T : Addr) (σ : L2.St) (H : Hp), xs1[i]? = some x1 → xs2[i]? = some x2 → xs3[i]? = some x3 → H T = none → Pv i σ H → g (.ref T) σ (upd H T (.tup [x1, x2, x3])) fun σ2 H2 => tb { D with nx := Pv (i + 1), ct := Pv (i + 1), bk := D.nx } σ2 H2) (hd : ∀ σ H, Pv n σ H → D.nx σ H) :
    ∃ W : Nat → Nat → L2.St → Hp → Prop, (∃ m, W 0 m σ H) ∧ ∀ i m σ H, W i m σ H →
      ((Itz3 K z1 z2 z3).stop i H ∧ D.nx σ H) ∨ ((Itz3 K z1 z2 z3).go i H ∧ ∃ N : L2.St → Hp → Prop, (∀ σ' H', N σ' H' → ∃ m', m' < m ∧ W (i + 1) m' σ' H') ∧ ∀ v H', (Itz3 K z1 z2 z3).yld i H v H' → g v σ H' fun σ2 H2 => tb { D with nx := N, ct := N, bk := D.nx } σ2 H2) := by
  refine ⟨fun i m σ H => m = n - i ∧ i ≤ n ∧ Pv i σ H, ⟨n, rfl, Nat.zero_le _, h0⟩, ?_⟩
  rintro i m σ H ⟨rfl, hi, p⟩
  obtain ⟨q1, q2, q3⟩ := hl i σ H hi p
  by_cases hlt : i < n
  · have e1 : xs1[i]? = some (xs1[i]'(by omega)) := List.getElem?_eq_getElem _
    have e2 : xs2[i]? = some (xs2[i]'(by omega)) := List.getElem?_eq_getElem _
    have e3 : xs3[i]? = some (xs3[i]'(by omega)) := List.getElem?_eq_getElem _
    refine .inr ⟨⟨xs1, xs2, xs3, _, _, _, q1, q2, q3, e1, e2, e3⟩, Pv (i + 1), fun σ' H' p' => ⟨n - (i + 1), by omega, rfl, hlt, p'⟩, fun v H' y => ?_⟩
    obtain ⟨T, y1, y2, y3, rfl, hT, rfl, f1, f2, f3⟩ := y
    exact hs i y1 y2 y3 T σ H (f1 xs1 q1) (f2 xs2 q2) (f3 xs3 q3) hT p
  · have e : i = n := by omega
    subst e
    exact .inl ⟨⟨xs1, xs2, xs3, q1, q2, q3, by omega, by omega, by omega, .inl (by omega)⟩, hd σ H p⟩
theorem lc_zip3 {K : PySem.W.Frag} {z1 z2 z3 : ZS} {xs1 xs2 xs3 : List V} {n : Nat} {g : TG} {tt : TT} {te : TE} {vs : List Nat} {σ : L2.St} {H1 : Hp} {D : Addr} {Qd : Hp → Prop} (n1 : xs1.length = n) (n2 : xs2.length = n) (n3 : xs3.length = n) (Pv : Nat → Hp → Prop) (h0 : Pv 0 (upd H1 D (.lst []))) (hl : ∀ i H, i ≤ n → Pv i H → z1.at K H xs1 ∧ z2.at K H xs2 ∧ z3.at K H xs3)
    (hs : ∀ (i : Nat) (x1 x2 x3 : V) (T : Addr) (H : Hp), xs1[i]? = some x1 → xs2[i]? = some x2 → xs3[i]? = some x3 → H T = none → Pv i H → g (.ref T) (wipe σ vs) (upd H T (.tup [x1, x2, x3])) fun σ2 H2 => wipe σ2 vs = wipe σ vs ∧ tt σ2 H2 fun b H3 =>
      if b = true then te σ2 H3 fun y H4 => ∃ acc, H4 D = some (.lst acc) ∧ acc.length < sizeLine ∧ Pv (i + 1) (upd H4 D (.lst (acc ++ [y]))) else Pv (i + 1) H3) (hd : ∀ H, Pv n H → Qd H) :
    ∃ W : Nat → Nat → Hp → Prop, (∃ m, W 0 m (upd H1 D (.lst []))) ∧ ∀ i m H, W i m H →
      ((Itz3 K z1 z2 z3).stop i H ∧ Qd H) ∨ ((Itz3 K z1 z2 z3).go i H ∧ ∃ Nx : Hp → Prop, (∀ H', Nx H' → ∃ m', m' < m ∧ W (i + 1) m' H') ∧ ∀ x H', (Itz3 K z1 z2 z3).yld i H x H' → g x (wipe σ vs) H' fun σ2 H2 => wipe σ2 vs = wipe σ vs ∧ tt σ2 H2 fun b H3 =>
        if b = true then te σ2 H3 fun y H4 => ∃ acc, H4 D = some (.lst acc) ∧ acc.length < sizeLine ∧ Nx (upd H4 D (.lst (acc ++ [y]))) else Nx H3) := by
  refine ⟨fun i m H => m = n - i ∧ i ≤ n ∧ Pv i H, ⟨n, by simp, Nat.zero_le _, h0⟩, ?_⟩
  rintro i m H ⟨rfl, hi, p⟩
  obtain ⟨q1, q2, q3⟩ := hl i H hi p
  by_cases hlt : i < n
  · have e1 : xs1[i]? = some (xs1[i]'(by omega)) := List.getElem?_eq_getElem _
    have e2 : xs2[i]? = some (xs2[i]'(by omega)) := List.getElem?_eq_getElem _
    have e3 : xs3[i]? = some (xs3[i]'(by omega)) := List.getElem?_eq_getElem _
    refine .inr ⟨⟨xs1, xs2, xs3, _, _, _, q1, q2, q3, e1, e2, e3⟩, Pv (i + 1), fun H' p' => ⟨n - (i + 1), by omega, rfl, hlt, p'⟩, fun v H' y => ?_⟩
    obtain ⟨T, y1, y2, y3, rfl, hT, rfl, f1, f2, f3⟩ := y
    exact hs i y1 y2 y3 T H (f1 xs1 q1) (f2 xs2 q2) (f3 xs3 q3) hT p
  · have e : i = n := by omega
    subst e
    exact .inl ⟨⟨xs1, xs2, xs3, q1, q2, q3, by omega, by omega, by omega, .inl (by omega)⟩, hd H p⟩
theorem gx_zip3 {α : Type} {K : PySem.W.Frag} {z1 z2 z3 : ZS} {xs1 xs2 xs3 : List V} {n : Nat} {g : TG} {tt : TT} {te : TE} {vs : List Nat} {σ0 : L2.St} {End : α → Hp → Prop} {Yd : α → V → Hp → (α → Hp → Prop) → Prop} {a0 : α} {H0 : Hp} (n1 : xs1.length = n) (n2 : xs2.length = n) (n3 : xs3.length = n) (Pv : Nat → α → Hp → Prop) (h0 : Pv 0 a0 H0) (hl : ∀ i c H, i ≤ n → Pv i c H → z1.at K H xs1 ∧ z2.at K H xs2 ∧ z3.at K H xs3)
    (hs : ∀ (i : Nat) (x1 x2 x3 : V) (T : Addr) (c : α) (H : Hp), xs1[i]? = some x1 → xs2[i]? = some x2 → xs3[i]? = some x3 → H T = none → Pv i c H → g (.ref T) σ0 (upd H T (.tup [x1, x2, x3])) fun σ2 H2 => wipe σ2 vs = σ0 ∧ tt σ2 H2 fun b H3 => if b = true then te σ2 H3 fun y H4 => Yd c y H4 (Pv (i + 1)) else Pv (i + 1) c H3) (hd : ∀ c H, Pv n c H → End c H) :
    ∃ W : Nat → Nat → α → Hp → Prop, (∃ m, W 0 m a0 H0) ∧ tGx (Itz3 K z1 z2 z3) g tt te σ0 vs End Yd W := by
  refine ⟨fun i m c H => m = n - i ∧ i ≤ n ∧ Pv i c H, ⟨n, rfl, Nat.zero_le _, h0⟩, ?_⟩
  rintro i m c H ⟨rfl, hi, p⟩
  obtain ⟨q1, q2, q3⟩ := hl i c H hi p
  by_cases hlt : i < n
  · have e1 : xs1[i]? = some (xs1[i]'(by omega)) := List.getElem?_eq_getElem _
    have e2 : xs2[i]? = some (xs2[i]'(by omega)) := List.getElem?_eq_getElem _
    have e3 : xs3[i]? = some (xs3[i]'(by omega)) := List.getElem?_eq_getElem _
    refine .inr ⟨⟨xs1, xs2, xs3, _, _, _, q1, q2, q3, e1, e2, e3⟩, Pv (i + 1), fun c' H' p' => ⟨n - (i + 1), by omega, rfl, hlt, p'⟩, fun v H' y => ?_⟩
    obtain ⟨T, y1, y2, y3, rfl, hT, rfl, f1, f2, f3⟩ := y
    exact hs i y1 y2 y3 T c H (f1 xs1 q1) (f2 xs2 q2) (f3 xs3 q3) hT p
  · have e : i = n := by omega
    subst e
    exact .inl ⟨⟨xs1, xs2, xs3, q1, q2, q3, by omega, by omega, by omega, .inl (by omega)⟩, hd c H p⟩
end ZpG

end Gk

set_option Elab.async false
set_option linter.all false
set_option maxRecDepth 100000
set_option maxHeartbeats 1000000
set_option pp.maxSteps 1500
namespace Gk
open PySem PySem.Spec PyProof.Rows L2
/-! ### zip of a row and of a zip -/
namespace ZpZ
open PySem PySem.Spec PyProof.Rows L2
/-- a zip that may keep the tuple that it gave out -/
abbrev ZC (h : Heap) (z TI TO : Addr) (x : Value) (f : Bool) : Prop := h.get? z = some { cls := .type "zip", dict := none, data := .fields #[x, .bool f, .bool false, .ref TI, .ref TO], slots := #[] }
def Held (x : Value) : Prop := x = .none ∨ ∃ T : Addr, x = rawInt T
def In (z TI TO i1 i2 : Addr) (St1 St2 : Nat → Heap → Prop) (i : Nat) (h : Heap) : Prop := ∃ x f, Held x ∧ ZC h z TI TO x f ∧ IsTupOf2 h TI (.ref i1) (.ref i2) ∧ (∃ a b, IsTupOf2 h TO a b) ∧ St1 i h ∧ St2 i h
section
variable {prog : Program} {w : World} {A : Around} {E : Value → Shared → Prop} {s : Shared} {z TI TO i1 i2 : Addr} {fp1 fp2 : List Addr} {n1 n2 i : Nat} {P1 P2 : Nat → Value → Prop} {St1 St2 : Nat → Heap → Prop}
/-- whether the tuple is free: either may be, and nothing but the zip changes -/
theorem wp_free {x : Value} {f : Bool} {Q : Bool → Shared → Prop} (hx : Held x) (hz : ZC s.heap z TI TO x f) (h : ∀ b h' f', ZC h' z TI TO x f' → Heap.SameBut z s.heap h' → Q b { s with heap := h' }) :
    wpAny (model prog w) A (Builtin.SmallTypes.ownedTupleIsFree (.ref z)) Q E s := by
  unfold Builtin.SmallTypes.ownedTupleIsFree
  refine wpAny_bind (wpAny_field hz rfl (x := x) rfl ?_)
  rcases hx with rfl | ⟨T, rfl⟩
  · exact wpAny_pure (h true s.heap f hz (Heap.SameBut.refl _ _))
  · show wpAny _ _ (loadIfAlive ((T : Int).toNat) >>= _) _ _ _
    rw [Int.toNat_natCast]
    cases hT : s.heap.get? T with
    | none =>
      have al : ∀ {R : Option Obj → Shared → Prop}, R none s → wpAny (model prog w) A (loadIfAlive T) R E s := fun {R} q => by
        have q' : R (s.heap.get? T) s := by rw [hT]; exact q
        exact fun _ _ _ => q'
      refine wpAny_bind (al ?_)
      simp only [Option.isNone_none, if_true]
      exact wpAny_pure (h true s.heap f hz (Heap.SameBut.refl _ _))
    | some o =>
      refine wpAny_bind (PySem.W.kdx_alive hT ?_)
      simp only [Option.isNone_some, Bool.false_eq_true, if_false]
      refine wpAny_bind (wpAny_field hz rfl (x := .bool f) rfl ?_)
      cases f with
      | true =>
        rw [if_neg (show ¬ ((Value.bool true != Value.bool true) = true) from Bool.false_ne_true)]
        exact wpAny_pure (h false s.heap true hz (Heap.SameBut.refl _ _))
      | false =>
        rw [if_pos (show (Value.bool false != Value.bool true) = true from rfl)]
        exact wpAny_bind (wpAny_setField_rec hz (by simp) fun h1 hz1 hs1 => wpAny_pure (h false h1 true hz1 hs1))
theorem in_item {Q : Value → Shared → Prop} (S : ZipSep2 z TI TO i1 i2 fp1 fp2) (D1 : Draws prog w A.in1 i1 fp1 n1 P1 St1) (D2 : Draws prog w A.in1 i2 fp2 n2 P2 St2) (hin : In z TI TO i1 i2 St1 St2 i s.heap) (l1 : i < n1) (l2 : i < n2)
    (hQ : ∀ u1 u2 h' tk, P1 i u1 → P2 i u2 → In z TI TO i1 i2 St1 St2 (i + 1) h' → IsTupOf2 h' s.heap.objs.size u1 u2 → h'.objs.size = s.heap.objs.size + 1 →
      (∀ c o, c ≠ z → c ≠ TO → c ≠ i1 → c ≠ i2 → s.heap.get? c = some o → h'.get? c = some o) → Q (.ref s.heap.objs.size) { s with heap := h', toks := tk }) :
    wpAny (model prog w) A (Builtin.SmallTypes.nextOf (.ref z)) Q E s := by
  obtain ⟨x, f, hx, hz, hTI, ⟨a, b, hTO⟩, st1, st2⟩ := hin
  have hT : s.TypeIs (.ref z) "zip" := ⟨_, hz, rfl⟩
  unfold Builtin.SmallTypes.nextOf
  refine wpAny_bind (wpAny_callSpecial?_slot (name := Str.ofString "__next__") hT F.slot_zip_next (wpAny_call_entry F.slot_zip_next hT F.entry_zip_next ?_ (F.args_zip_next_1 _)))
  obtain ⟨hp, g, d, tk0, os⟩ := s
  show wpAny _ _ (field (.ref z) 2 >>= _) _ _ _
  refine wpAny_bind (wpAny_field hz rfl (x := .bool false) rfl ?_)
  show wpAny _ _ (field (.ref z) 3 >>= _) _ _ _
  refine wpAny_bind (wpAny_field hz rfl (x := .ref TI) rfl ?_)
  refine wpAny_bind (wpAny_seqItems hTI rfl ?_)
  show wpAny _ _ (Builtin.SmallTypes.ownedTupleIsFree (.ref z) >>= _) _ _ _
  refine wpAny_bind (wp_free hx hz fun fr h0 f0 hz0 hs0 => ?_)
  replace hs0 : Heap.SameBut z hp h0 := hs0
  cases fr with
  | false =>
    simp only [Bool.false_eq_true, if_false]
    refine wpAny_bind ?_
    rw [← Array.forIn_toList]
    simp only [List.forIn_cons, List.forIn_nil]
    refine wpAny_bind (wpAny_bind (wpAny_holding ?_))
    show wpAny _ _ (Builtin.SmallTypes.nextOf (.ref i1) >>= _) _ _ _
    refine wpAny_bind (D1.item i ⟨h0, g, d, tk0, os⟩ _ _ l1 (D1.over st1 hs0 S.zf1) fun u1 p1 tk1 hu1 sn1 hp1 => wpAny_pure ?_)
    replace hp1 : Heap.SameBut i1 h0 p1 := hp1
    refine wpAny_pure ?_
    refine wpAny_bind (wpAny_bind (wpAny_holding ?_))
    show wpAny _ _ (Builtin.SmallTypes.nextOf (.ref i2) >>= _) _ _ _
    refine wpAny_bind (D2.item i ⟨p1, g, d, tk1, os⟩ _ _ l2 (D2.over (D2.over st2 hs0 S.zf2) hp1 S.sep1_2) fun u2 p2 tk2 hu2 sn2 hp2 => wpAny_pure ?_)
    replace hp2 : Heap.SameBut i2 p1 p2 := hp2
    refine wpAny_pure (wpAny_pure ?_)
    show wpAny _ _ (newTuple [u1, u2] >>= _) _ _ _
    refine wpAny_bind (wpAny_newTuple ?_)
    have hsz : p2.objs.size = hp.objs.size := by rw [hp2.1, hp1.1, hs0.1]
    have up : ∀ c o, c ≠ z → c ≠ i1 → c ≠ i2 → hp.get? c = some o → (p2.push { cls := .type "tuple", data := .seq #[u1, u2] }).get? c = some o := fun c o c0 c1 c2 e => Heap.get?_push_of_some _ (hp2.extBut _ _ c2 (hp1.extBut _ _ c1 (hs0.extBut _ _ c0 e)))
    have hzN : ZC (p2.push { cls := .type "tuple", data := .seq #[u1, u2] }) z TI TO x f0 := Heap.get?_push_of_some _ (hp2.extBut _ _ S.zi2 (hp1.extBut _ _ S.zi1 hz0))
    have pushes : ∀ b o, p2.get? b = some o → (p2.push { cls := .type "tuple", data := .seq #[u1, u2] }).get? b = some o := fun b o e => Heap.get?_push_of_some _ e
    have hj1 : St1 (i + 1) (p2.push { cls := .type "tuple", data := .seq #[u1, u2] }) := D1.frame _ _ _ (D1.over sn1 hp2 S.sep2_1) fun b _ o e => pushes b o e
    have hj2 : St2 (i + 1) (p2.push { cls := .type "tuple", data := .seq #[u1, u2] }) := D2.frame _ _ _ sn2 fun b _ o e => pushes b o e
    refine wpAny_pure ⟨_, rfl, wpAny_pure ?_⟩
    have hpN : IsTupOf2 (p2.push { cls := .type "tuple", data := .seq #[u1, u2] }) p2.objs.size u1 u2 := Heap.get?_push_size _ rfl
    have hsN : (p2.push { cls := .type "tuple", data := .seq #[u1, u2] }).objs.size = p2.objs.size + 1 := Heap.size_push ..
    rw [hsz] at hpN hsN
    show Q (.ref p2.objs.size) _
    rw [hsz]
    exact hQ u1 u2 _ tk2 hu1 hu2 ⟨x, f0, hx, hzN, up _ _ S.TIz S.TIi1 S.TIi2 hTI, ⟨a, b, up _ _ S.TOz S.Ti1 S.Ti2 hTO⟩, hj1, hj2⟩ hpN hsN fun c o c0 _ c1 c2 e => up c o c0 c1 c2 e
  | true =>
    simp only [if_true]
    refine wpAny_bind (wpAny_rule ?_)
    have hTO0 : IsTupOf2 h0 TO a b := hs0.extBut _ _ S.TOz hTO
    refine wpAny_bind (wpAny_field (s := ⟨h0, g, d, tk0, os⟩) hz0 rfl (x := .ref TO) rfl ?_)
    refine wpAny_bind (wpAny_setField_rec (s := ⟨h0, g, d, tk0, os⟩) hz0 (by simp) fun h1 hz1 hs1 => ?_)
    replace hz1 : ZC h1 z TI TO .ellipsis f0 := hz1
    replace hs1 : Heap.SameBut z h0 h1 := hs1
    refine wpAny_bind ?_
    simp only [List.zipIdx_cons, List.zipIdx_nil, List.forIn_cons, List.forIn_nil]
    refine wpAny_bind (wpAny_bind (wpAny_onRaise ?_))
    show wpAny _ _ (Builtin.SmallTypes.nextOf (.ref i1) >>= _) _ _ ⟨h1, g, d, tk0, os⟩
    refine wpAny_bind (D1.item i ⟨h1, g, d, tk0, os⟩ _ _ l1 (D1.over (D1.over st1 hs0 S.zf1) hs1 S.zf1) fun u1 p1 tk1 hu1 sn1 hp1 => wpAny_pure ?_)
    replace hp1 : Heap.SameBut i1 h1 p1 := hp1
    have hU1 : IsTupOf2 p1 TO a b := hp1.extBut _ _ S.Ti1 (hs1.extBut _ _ S.TOz hTO0)
    refine wpAny_bind (wpAny_seqItems (s := ⟨p1, g, d, tk1, os⟩) hU1 rfl ?_)
    refine wpAny_bind (updateSeq_IsTupOf2 (s := ⟨p1, g, d, tk1, os⟩) hU1 fun q1 hT1 ht1 => ?_)
    replace hT1 : IsTupOf2 q1 TO u1 b := hT1
    replace ht1 : Heap.SameBut TO p1 q1 := ht1
    refine wpAny_bind (wpAny_letGo (wpAny_pure ?_))
    refine wpAny_bind (wpAny_bind (wpAny_onRaise ?_))
    show wpAny _ _ (Builtin.SmallTypes.nextOf (.ref i2) >>= _) _ _ ⟨q1, g, d, tk1, os⟩
    refine wpAny_bind (D2.item i ⟨q1, g, d, tk1, os⟩ _ _ l2 (D2.over (D2.over (D2.over (D2.over st2 hs0 S.zf2) hs1 S.zf2) hp1 S.sep1_2) ht1 S.Tf2) fun u2 p2 tk2 hu2 sn2 hp2 => wpAny_pure ?_)
    replace hp2 : Heap.SameBut i2 q1 p2 := hp2
    have hU2 : IsTupOf2 p2 TO u1 b := hp2.extBut _ _ S.Ti2 hT1
    refine wpAny_bind (wpAny_seqItems (s := ⟨p2, g, d, tk2, os⟩) hU2 rfl ?_)
    refine wpAny_bind (updateSeq_IsTupOf2 (s := ⟨p2, g, d, tk2, os⟩) hU2 fun q2 hT2 ht2 => ?_)
    replace hT2 : IsTupOf2 q2 TO u1 u2 := hT2
    replace ht2 : Heap.SameBut TO p2 q2 := ht2
    refine wpAny_bind (wpAny_letGo (wpAny_pure (wpAny_pure ?_)))
    refine wpAny_bind (wpAny_seqItems (s := ⟨q2, g, d, tk2, os⟩) hT2 rfl ?_)
    refine wpAny_bind (wpAny_newTuple ?_)
    have hsz : q2.objs.size = hp.objs.size := by rw [ht2.1, hp2.1, ht1.1, hp1.1, hs1.1, hs0.1]
    have hzz : ZC q2 z TI TO .ellipsis f0 := ht2.extBut _ _ S.TOz.symm (hp2.extBut _ _ S.zi2 (ht1.extBut _ _ S.TOz.symm (hp1.extBut _ _ S.zi1 hz1)))
    have hkk : ∀ c o, c ≠ z → c ≠ TO → c ≠ i1 → c ≠ i2 → hp.get? c = some o → q2.get? c = some o := fun c o cz cT c1 c2 e =>
      ht2.extBut _ _ cT (hp2.extBut _ _ c2 (ht1.extBut _ _ cT (hp1.extBut _ _ c1 (hs1.extBut _ _ cz (hs0.extBut _ _ cz e)))))
    have hj1 : St1 (i + 1) q2 := D1.over (D1.over (D1.over sn1 ht1 S.Tf1) hp2 S.sep2_1) ht2 S.Tf1
    have hj2 : St2 (i + 1) q2 := D2.over sn2 ht2 S.Tf2
    have hzlt : z < q2.objs.size := Heap.lt_size hzz
    refine wpAny_bind ?_
    unfold Builtin.SmallTypes.ownedTupleHandOut
    have hz3 : ZC (q2.push { cls := .type "tuple", data := .seq #[u1, u2] }) z TI TO .ellipsis f0 := Heap.get?_push_of_some _ hzz
    refine wpAny_bind (wpAny_setField_rec (s := ⟨q2.push { cls := .type "tuple", data := .seq #[u1, u2] }, g, d, tk2, os⟩) hz3 (by simp) fun k1 hk1 ks1 => ?_)
    replace hk1 : ZC k1 z TI TO (rawInt q2.objs.size) f0 := hk1
    refine wpAny_setField_rec (s := ⟨k1, g, d, tk2, os⟩) hk1 (by simp) fun k2 hk2 ks2 => ?_
    replace hk2 : ZC k2 z TI TO (rawInt q2.objs.size) false := hk2
    replace ks1 : Heap.SameBut z (q2.push { cls := .type "tuple", data := .seq #[u1, u2] }) k1 := ks1
    replace ks2 : Heap.SameBut z k1 k2 := ks2
    have up : ∀ c o, c ≠ z → q2.get? c = some o → k2.get? c = some o := fun c o c1 e => ks2.extBut _ _ c1 (ks1.extBut _ _ c1 (Heap.get?_push_of_some _ e))
    have hTN : IsTupOf2 k2 q2.objs.size u1 u2 := ks2.extBut _ _ (Nat.ne_of_gt hzlt) (ks1.extBut _ _ (Nat.ne_of_gt hzlt) (Heap.get?_push_size _ rfl))
    have hsN : k2.objs.size = q2.objs.size + 1 := by rw [ks2.1, ks1.1, Heap.size_push]
    rw [hsz] at hTN hsN
    refine wpAny_pure ⟨_, rfl, wpAny_pure ?_⟩
    show Q (.ref q2.objs.size) ⟨k2, g, d, tk2, os⟩
    have hlast : In z TI TO i1 i2 St1 St2 (i + 1) k2 := ⟨_, _, .inr ⟨_, rfl⟩, hk2, up _ _ S.TIz (hkk _ _ S.TIz S.TITO S.TIi1 S.TIi2 hTI), ⟨_, _, up _ _ S.TOz hT2⟩, D1.frame _ _ _ hj1 fun c hc o e => up c o (fun q => S.zf1 (q ▸ hc)) e, D2.frame _ _ _ hj2 fun c hc o e => up c o (fun q => S.zf2 (q ▸ hc)) e⟩
    rw [hsz]
    exact hQ u1 u2 k2 tk2 hu1 hu2 hlast hTN hsN fun c o cz cT c1 c2 e => up c o cz (hkk c o cz cT c1 c2 e)
theorem In.frame {h h' : Heap} (D1 : Draws prog w A i1 fp1 n1 P1 St1) (D2 : Draws prog w A i2 fp2 n2 P2 St2) (hin : In z TI TO i1 i2 St1 St2 i h)
    (k : ∀ c, c = z ∨ c = TI ∨ c = TO ∨ c ∈ fp1 ∨ c ∈ fp2 → ∀ o, h.get? c = some o → h'.get? c = some o) : In z TI TO i1 i2 St1 St2 i h' := by
  obtain ⟨x, f, hx, hz, hTI, ⟨a, b, hTO⟩, st1, st2⟩ := hin
  exact ⟨x, f, hx, k _ (.inl rfl) _ hz, k _ (.inr (.inl rfl)) _ hTI, ⟨a, b, k _ (.inr (.inr (.inl rfl))) _ hTO⟩, D1.frame _ _ _ st1 fun c hc o e => k c (.inr (.inr (.inr (.inl hc)))) o e, D2.frame _ _ _ st2 fun c hc o e => k c (.inr (.inr (.inr (.inr hc)))) o e⟩
/-- the cells of the outer zip lie apart from those of the inner one -/
structure SepZ (y YI YO i0 z TI TO i1 i2 : Addr) (fp0 fp1 fp2 : List Addr) : Prop where
  YIy : YI ≠ y
  YOy : YO ≠ y
  YIO : YI ≠ YO
  YIi : YI ≠ i0
  mem0 : i0 ∈ fp0
  yf0 : y ∉ fp0
  Yf0 : YO ∉ fp0
  in0 : ∀ c, c = z ∨ c = TO ∨ c = i1 ∨ c = i2 → c ∉ fp0 ∧ c ≠ y ∧ c ≠ YI ∧ c ≠ YO
  out : ∀ c, c = z ∨ c = TI ∨ c = TO ∨ c ∈ fp1 ∨ c ∈ fp2 → c ≠ y ∧ c ≠ YO ∧ c ≠ i0
theorem out_item {y YI YO i0 : Addr} {fp0 : List Addr} {n0 : Nat} {P0 : Nat → Value → Prop} {St0 : Nat → Heap → Prop} {a b : Value} {Q : Option Value → Shared → Prop} (Z : SepZ y YI YO i0 z TI TO i1 i2 fp0 fp1 fp2) (S : ZipSep2 z TI TO i1 i2 fp1 fp2)
    (D0 : Draws prog w A.in1 i0 fp0 n0 P0 St0) (D1 : Draws prog w A.in1.in1 i1 fp1 n1 P1 St1) (D2 : Draws prog w A.in1.in1 i2 fp2 n2 P2 St2)
    (hy : IsZip s.heap y YI YO .none) (hYI : IsTupOf2 s.heap YI (.ref i0) (.ref z)) (hYO : IsTupOf2 s.heap YO a b) (st0 : St0 i s.heap) (hin : In z TI TO i1 i2 St1 St2 i s.heap) (l0 : i < n0) (l1 : i < n1) (l2 : i < n2)
    (hQ : ∀ x u1 u2 hm h' tk, P0 i x → P1 i u1 → P2 i u2 → (∀ c o, c ≠ y → c ≠ YO → c ≠ i0 → c ≠ z → c ≠ TO → c ≠ i1 → c ≠ i2 → s.heap.get? c = some o → hm.get? c = some o) → IsTupOf2 hm s.heap.objs.size u1 u2 → hm.objs.size = s.heap.objs.size + 1 →
      (∀ c o, c ≠ y → c ≠ YO → hm.get? c = some o → h'.get? c = some o) → IsTupOf2 h' (s.heap.objs.size + 1) x (.ref s.heap.objs.size) → IsZip h' y YI YO (rawInt ((s.heap.objs.size + 1 : Nat) : Int)) → IsTupOf2 h' YI (.ref i0) (.ref z) → (∃ a b, IsTupOf2 h' YO a b) → St0 (i + 1) h' → In z TI TO i1 i2 St1 St2 (i + 1) h' →
      Q (some (.ref (s.heap.objs.size + 1))) { s with heap := h', toks := tk }) :
    wpAny (model prog w) A (pyNext (.ref y)) Q E s := by
  have hT : s.TypeIs (.ref y) "zip" := ⟨_, hy, rfl⟩
  unfold pyNext
  refine wpAny_bind (wpAny_attempt (wpAny_callSpecial?_slot (name := Str.ofString "__next__") hT F.slot_zip_next (wpAny_call_entry F.slot_zip_next hT F.entry_zip_next ?_ (F.args_zip_next_1 _))))
  obtain ⟨hp, g, d, tk0, os⟩ := s
  show wpAny _ _ (field (.ref y) 2 >>= _) _ _ _
  refine wpAny_bind (wpAny_field hy rfl (x := .bool false) rfl ?_)
  show wpAny _ _ (field (.ref y) 3 >>= _) _ _ _
  refine wpAny_bind (wpAny_field hy rfl (x := .ref YI) rfl ?_)
  refine wpAny_bind (wpAny_seqItems hYI rfl ?_)
  show wpAny _ _ (Builtin.SmallTypes.ownedTupleIsFree (.ref y) >>= _) _ _ _
  refine wpAny_bind ?_
  unfold Builtin.SmallTypes.ownedTupleIsFree
  refine wpAny_bind (wpAny_field hy rfl (x := .none) rfl (wpAny_pure ?_))
  simp only [if_true]
  refine wpAny_bind (wpAny_rule ?_)
  refine wpAny_bind (wpAny_field hy rfl (x := .ref YO) rfl ?_)
  refine wpAny_bind (wpAny_setField_rec hy (by simp) fun h1 hz1 hs1 => ?_)
  replace hz1 : IsZip h1 y YI YO .ellipsis := hz1
  replace hs1 : Heap.SameBut y hp h1 := hs1
  refine wpAny_bind ?_
  simp only [List.zipIdx_cons, List.zipIdx_nil, List.forIn_cons, List.forIn_nil]
  refine wpAny_bind (wpAny_bind (wpAny_onRaise ?_))
  show wpAny _ _ (Builtin.SmallTypes.nextOf (.ref i0) >>= _) _ _ ⟨h1, g, d, tk0, os⟩
  refine wpAny_bind (D0.item i ⟨h1, g, d, tk0, os⟩ _ _ l0 (D0.over st0 hs1 Z.yf0) fun x p1 tk1 hx sn0 hp1 => wpAny_pure ?_)
  replace hp1 : Heap.SameBut i0 h1 p1 := hp1
  have yi : y ≠ i0 := fun e => Z.yf0 (e ▸ Z.mem0)
  have Yi : YO ≠ i0 := fun e => Z.Yf0 (e ▸ Z.mem0)
  have hU1 : IsTupOf2 p1 YO a b := hp1.extBut _ _ Yi (hs1.extBut _ _ Z.YOy hYO)
  refine wpAny_bind (wpAny_seqItems (s := ⟨p1, g, d, tk1, os⟩) hU1 rfl ?_)
  refine wpAny_bind (updateSeq_IsTupOf2 (s := ⟨p1, g, d, tk1, os⟩) hU1 fun q1 hT1 ht1 => ?_)
  replace hT1 : IsTupOf2 q1 YO x b := hT1
  replace ht1 : Heap.SameBut YO p1 q1 := ht1
  refine wpAny_bind (wpAny_letGo (wpAny_pure ?_))
  refine wpAny_bind (wpAny_bind (wpAny_onRaise ?_))
  show wpAny _ _ (Builtin.SmallTypes.nextOf (.ref z) >>= _) _ _ ⟨q1, g, d, tk1, os⟩
  have kq : ∀ c o, c ≠ y → c ≠ YO → c ≠ i0 → hp.get? c = some o → q1.get? c = some o := fun c o c1 c2 c3 e => ht1.extBut _ _ c2 (hp1.extBut _ _ c3 (hs1.extBut _ _ c1 e))
  have hinq : In z TI TO i1 i2 St1 St2 i q1 := In.frame D1 D2 hin fun c hc o e => kq c o (Z.out c hc).1 (Z.out c hc).2.1 (Z.out c hc).2.2 e
  have sq : q1.objs.size = hp.objs.size := by rw [ht1.1, hp1.1, hs1.1]
  refine wpAny_bind (in_item (s := ⟨q1, g, d, tk1, os⟩) S D1 D2 hinq l1 l2 fun u1 u2 hm tk2 hu1 hu2 hin2 hTm hsm km => wpAny_pure ?_)
  replace hTm : IsTupOf2 hm q1.objs.size u1 u2 := hTm
  replace hsm : hm.objs.size = q1.objs.size + 1 := hsm
  replace km : ∀ c o, c ≠ z → c ≠ TO → c ≠ i1 → c ≠ i2 → q1.get? c = some o → hm.get? c = some o := km
  rw [sq] at hTm hsm
  show wpAny _ _ _ _ _ ⟨hm, g, d, tk2, os⟩
  have ne4 : ∀ c, (c = y ∨ c = YI ∨ c = YO) → c ≠ z ∧ c ≠ TO ∧ c ≠ i1 ∧ c ≠ i2 := fun c hc => by
    have f : ∀ e, (e = z ∨ e = TO ∨ e = i1 ∨ e = i2) → c ≠ e := fun e he q => by
      obtain ⟨_, n1, n2, n3⟩ := Z.in0 e he
      rcases hc with hc | hc | hc
      · exact n1 (by rw [← q, hc])
      · exact n2 (by rw [← q, hc])
      · exact n3 (by rw [← q, hc])
    exact ⟨f _ (.inl rfl), f _ (.inr (.inl rfl)), f _ (.inr (.inr (.inl rfl))), f _ (.inr (.inr (.inr rfl)))⟩
  have at4 : ∀ c o, (c = y ∨ c = YI ∨ c = YO) → q1.get? c = some o → hm.get? c = some o := fun c o hc e => by
    obtain ⟨m1, m2, m3, m4⟩ := ne4 c hc
    exact km c o m1 m2 m3 m4 e
  have hU2 : IsTupOf2 hm YO x b := at4 _ _ (.inr (.inr rfl)) hT1
  refine wpAny_bind (wpAny_seqItems (s := ⟨hm, g, d, tk2, os⟩) hU2 rfl ?_)
  refine wpAny_bind (updateSeq_IsTupOf2 (s := ⟨hm, g, d, tk2, os⟩) hU2 fun q2 hT2 ht2 => ?_)
  replace hT2 : IsTupOf2 q2 YO x (.ref q1.objs.size) := hT2
  replace ht2 : Heap.SameBut YO hm q2 := ht2
  rw [sq] at hT2
  refine wpAny_bind (wpAny_letGo (wpAny_pure (wpAny_pure ?_)))
  refine wpAny_bind (wpAny_seqItems (s := ⟨q2, g, d, tk2, os⟩) hT2 rfl ?_)
  refine wpAny_bind (wpAny_newTuple ?_)
  have hsz : q2.objs.size = hp.objs.size + 1 := by rw [ht2.1, hsm]
  have hzz : IsZip q2 y YI YO .ellipsis := ht2.extBut _ _ Z.YOy.symm (at4 _ _ (.inl rfl) (ht1.extBut _ _ Z.YOy.symm (hp1.extBut _ _ yi hz1)))
  have hyI : IsTupOf2 q2 YI (.ref i0) (.ref z) := ht2.extBut _ _ Z.YIO (at4 _ _ (.inr (.inl rfl)) (kq _ _ Z.YIy Z.YIO Z.YIi hYI))
  have hj0 : St0 (i + 1) q2 := D0.over (D0.frame _ _ _ (D0.over sn0 ht1 Z.Yf0) fun c hc o e => km c o (fun q => (Z.in0 _ (.inl rfl)).1 (q ▸ hc)) (fun q => (Z.in0 _ (.inr (.inl rfl))).1 (q ▸ hc)) (fun q => (Z.in0 _ (.inr (.inr (.inl rfl)))).1 (q ▸ hc)) (fun q => (Z.in0 _ (.inr (.inr (.inr rfl)))).1 (q ▸ hc)) e) ht2 Z.Yf0
  have hzlt : y < q2.objs.size := Heap.lt_size hzz
  show wpAny _ _ (Builtin.SmallTypes.ownedTupleHandOut (.ref y) (.ref q2.objs.size) >>= _) _ _ ⟨q2.push { cls := .type "tuple", data := .seq #[x, .ref hp.objs.size] }, g, d, tk2, os⟩
  refine wpAny_bind ?_
  unfold Builtin.SmallTypes.ownedTupleHandOut
  have hz3 : IsZip (q2.push { cls := .type "tuple", data := .seq #[x, .ref hp.objs.size] }) y YI YO .ellipsis := Heap.get?_push_of_some _ hzz
  refine wpAny_bind (wpAny_setField_rec (s := ⟨q2.push { cls := .type "tuple", data := .seq #[x, .ref hp.objs.size] }, g, d, tk2, os⟩) hz3 (by simp) fun k1 hk1 ks1 => ?_)
  replace hk1 : IsZip k1 y YI YO (rawInt q2.objs.size) := hk1
  refine wpAny_setField_rec (s := ⟨k1, g, d, tk2, os⟩) hk1 (by simp) fun k2 hk2 ks2 => ?_
  replace hk2 : IsZip k2 y YI YO (rawInt q2.objs.size) := hk2
  replace ks1 : Heap.SameBut y (q2.push { cls := .type "tuple", data := .seq #[x, .ref hp.objs.size] }) k1 := ks1
  replace ks2 : Heap.SameBut y k1 k2 := ks2
  have up : ∀ c o, c ≠ y → q2.get? c = some o → k2.get? c = some o := fun c o c1 e => ks2.extBut _ _ c1 (ks1.extBut _ _ c1 (Heap.get?_push_of_some _ e))
  have hTN : IsTupOf2 k2 q2.objs.size x (.ref hp.objs.size) := ks2.extBut _ _ (Nat.ne_of_gt hzlt) (ks1.extBut _ _ (Nat.ne_of_gt hzlt) (Heap.get?_push_size _ rfl))
  rw [hsz] at hTN hk2
  refine wpAny_pure ⟨_, rfl, wpAny_pure ?_⟩
  show Q (some (.ref q2.objs.size)) ⟨k2, g, d, tk2, os⟩
  rw [hsz]
  have kN : ∀ c o, c ≠ y → c ≠ YO → hm.get? c = some o → k2.get? c = some o := fun c o c1 c2 e => up c o c1 (ht2.extBut _ _ c2 e)
  exact hQ x u1 u2 hm k2 tk2 hx hu1 hu2 (fun c o c1 c2 c3 c4 c5 c6 c7 e => km c o c4 c5 c6 c7 (kq c o c1 c2 c3 e)) hTm hsm kN hTN hk2 (up _ _ Z.YIy hyI) ⟨_, _, up _ _ Z.YOy hT2⟩
    (D0.frame _ _ _ hj0 fun c hc o e => up c o (fun q => Z.yf0 (q ▸ hc)) e) (In.frame D1 D2 hin2 fun c hc o e => kN c o (Z.out c hc).1 (Z.out c hc).2.1 e)
end
end ZpZ
namespace ZpZ
open PySem PySem.Spec PyProof.Rows L2 ZpG
section
variable {prog : Program} {w : World} {A : Around} {E : Value → Shared → Prop} {s : Shared}
/-! the outer zip begins -/
abbrev zT (h : Heap) (o1 : Obj) (z : Addr) : Heap := (h.push o1).push { cls := .type "tuple", data := .seq #[.ref h.objs.size, .ref z] }
abbrev zO (h : Heap) (o1 : Obj) (z : Addr) : Heap := (zT h o1 z).push { cls := .type "tuple", data := .seq #[.none, .none] }
abbrev zZ (h : Heap) (o1 : Obj) (z : Addr) : Heap := (zO h o1 z).push { cls := .type "zip", data := .fields #[.none, .bool false, .bool false, .ref (h.push o1).objs.size, .ref (zT h o1 z).objs.size] }
theorem meets_zipZ {v1 : Value} {o1 : Obj} {H1 : Heap → Prop} {z TI TO : Addr} (B1 : Begins v1 o1 H1) :
    Meets (Builtin.«zip.__new__» ⟨[.type "zip", v1, .ref z], []⟩) (fun _ R s => (H1 s.heap ∧ IsZip s.heap z TI TO .none) ∧ R (.ok (.ret (.ref (zO s.heap o1 z).objs.size))) { s with heap := zZ s.heap o1 z }) :=
  .of_wp fun prog w A R s h => by
    obtain ⟨hp, g, d, tk, os⟩ := s; obtain ⟨⟨h1, h2⟩, h⟩ := h
    have hsub := sub_zip
    have q1 : ∀ {A' : Around} {E : Value → Shared → Prop} {Q : Value → Shared → Prop}, Q (.ref hp.objs.size) ⟨(hp.push o1), g, d, tk, os⟩ → wpAny (model prog w) A' (pyIter v1) Q E ⟨hp, g, d, tk, os⟩ :=
      fun q => B1.iter prog w _ _ ⟨hp, g, d, tk, os⟩ _ h1 q
    have q2 : ∀ {A' : Around} {E : Value → Shared → Prop} {Q : Value → Shared → Prop}, Q (.ref z) ⟨(hp.push o1), g, d, tk, os⟩ → wpAny (model prog w) A' (pyIter (.ref z)) Q E ⟨(hp.push o1), g, d, tk, os⟩ :=
      fun q => wpAny_pyIter_zip (s := ⟨(hp.push o1), g, d, tk, os⟩) (Heap.get?_push_of_some _ h2) q
    wp_walk using q1, q2
    exact ⟨_, rfl, h⟩
theorem zip_beginsZ {v1 : Value} {o1 : Obj} {H1 : Heap → Prop} {z TI TO : Addr} {Q : Value → Shared → Prop} (B1 : Begins v1 o1 H1) (h1 : H1 s.heap) (hz : IsZip s.heap z TI TO .none)
    (h : ∀ h', IsZip h' (s.heap.objs.size + 3) (s.heap.objs.size + 1) (s.heap.objs.size + 2) .none → IsTupOf2 h' (s.heap.objs.size + 1) (.ref s.heap.objs.size) (.ref z) → IsTupOf2 h' (s.heap.objs.size + 2) .none .none → h'.get? s.heap.objs.size = some o1 →
      (∀ c o, s.heap.get? c = some o → h'.get? c = some o) → Q (.ref (s.heap.objs.size + 3)) { s with heap := h' }) :
    wpAny (model prog w) A (call (.type "zip") [v1, .ref z]) Q E s := by
  refine callType_new F.called_zip (by decide) (F.typeCall_zip_2 _ _) (F.newCall_zip_2 _ _) (fun obj => F.args_object_init_3 obj _ _) F.entry_zip_new (meets_zipZ B1) ⟨⟨h1, hz⟩, ?_⟩
  have a1 : (s.heap.push o1).objs.size = s.heap.objs.size + 1 := by rw [Heap.size_push]
  have aT : (zT s.heap o1 z).objs.size = s.heap.objs.size + 2 := by rw [Heap.size_push, a1]
  have aO : (zO s.heap o1 z).objs.size = s.heap.objs.size + 3 := by rw [Heap.size_push, aT]
  have gZ : (zZ s.heap o1 z).get? (zO s.heap o1 z).objs.size = some { cls := .type "zip", data := .fields #[.none, .bool false, .bool false, .ref (s.heap.push o1).objs.size, .ref (zT s.heap o1 z).objs.size] } := Heap.get?_push_size _ rfl
  have gO : (zZ s.heap o1 z).get? (zT s.heap o1 z).objs.size = some { cls := .type "tuple", data := .seq #[.none, .none] } := Heap.get?_push_of_some _ (Heap.get?_push_size _ rfl)
  have gT : (zZ s.heap o1 z).get? (s.heap.push o1).objs.size = some { cls := .type "tuple", data := .seq #[.ref s.heap.objs.size, .ref z] } := Heap.get?_push_of_some _ (Heap.get?_push_of_some _ (Heap.get?_push_size _ rfl))
  have g1 : (zZ s.heap o1 z).get? s.heap.objs.size = some o1 := Heap.get?_push_of_some _ (Heap.get?_push_of_some _ (Heap.get?_push_of_some _ (Heap.get?_push_size _ B1.free)))
  rw [aO, aT, a1] at gZ
  rw [aT] at gO
  rw [a1] at gT
  show _ ∧ _
  rw [aO]
  exact ⟨⟨_, gZ, rfl⟩, h _ gZ gT gO g1 fun c o e => Heap.get?_push_of_some _ (Heap.get?_push_of_some _ (Heap.get?_push_of_some _ (Heap.get?_push_of_some _ e)))⟩
end
end ZpZ
namespace ZpZ
open PySem PySem.Spec PyProof.Rows L2 ZpG
theorem out_end {prog : Program} {w : World} {A : Around} {E : Value → Shared → Prop} {s : Shared} {y YI YO i0 z : Addr} {fp0 : List Addr} {n0 : Nat} {P0 : Nat → Value → Prop} {St0 : Nat → Heap → Prop} {Q : Option Value → Shared → Prop} (yi : y ≠ i0) (yf0 : y ∉ fp0)
    (D0 : Draws prog w A.in1 i0 fp0 n0 P0 St0) (hy : IsZip s.heap y YI YO .none) (hYI : IsTupOf2 s.heap YI (.ref i0) (.ref z)) (st0 : St0 n0 s.heap)
    (hQ : ∀ h' tk, (∀ c o, c ≠ y → c ≠ i0 → s.heap.get? c = some o → h'.get? c = some o) → Q none { s with heap := h', toks := tk }) :
    wpAny (model prog w) A (pyNext (.ref y)) Q E s := by
  have hT : s.TypeIs (.ref y) "zip" := ⟨_, hy, rfl⟩
  unfold pyNext
  refine wpAny_bind (wpAny_attempt (wpAny_callSpecial?_slot (name := Str.ofString "__next__") hT F.slot_zip_next (wpAny_call_entry F.slot_zip_next hT F.entry_zip_next ?_ (F.args_zip_next_1 _))))
  obtain ⟨hp, g, d, tk0, os⟩ := s
  show wpAny _ _ (field (.ref y) 2 >>= _) _ _ _
  refine wpAny_bind (wpAny_field hy rfl (x := .bool false) rfl ?_)
  show wpAny _ _ (field (.ref y) 3 >>= _) _ _ _
  refine wpAny_bind (wpAny_field hy rfl (x := .ref YI) rfl ?_)
  refine wpAny_bind (wpAny_seqItems hYI rfl ?_)
  show wpAny _ _ (Builtin.SmallTypes.ownedTupleIsFree (.ref y) >>= _) _ _ _
  refine wpAny_bind ?_
  unfold Builtin.SmallTypes.ownedTupleIsFree
  refine wpAny_bind (wpAny_field hy rfl (x := .none) rfl (wpAny_pure ?_))
  simp only [if_true]
  refine wpAny_bind (wpAny_rule ?_)
  refine wpAny_bind (wpAny_field hy rfl (x := .ref YO) rfl ?_)
  refine wpAny_bind (wpAny_setField_rec hy (by simp) fun h1 hz1 hs1 => ?_)
  replace hz1 : IsZip h1 y YI YO .ellipsis := hz1
  replace hs1 : Heap.SameBut y hp h1 := hs1
  refine wpAny_bind ?_
  simp only [List.zipIdx_cons, List.zipIdx_nil, List.forIn_cons, List.forIn_nil]
  refine wpAny_bind (wpAny_bind (wpAny_onRaise ?_))
  show wpAny _ _ (Builtin.SmallTypes.nextOf (.ref i0) >>= _) _ _ ⟨h1, g, d, tk0, os⟩
  refine wpAny_bind (D0.done ⟨h1, g, d, tk0, os⟩ _ _ (D0.over st0 hs1 yf0) fun q e hq he => ?_)
  replace hq : Heap.ExtBut i0 h1 q := hq
  obtain ⟨oe, hoe, hce⟩ := he
  replace hoe : q.get? e = some oe := hoe
  have hzq : IsZip q y YI YO .ellipsis := hq _ _ yi hz1
  have hez : e ≠ y := fun x => by subst x; rw [hzq] at hoe; cases hoe; simp at hce
  refine wpAny_setField_rec (s := ⟨q, g, d, tk0, os⟩) hzq (by simp) fun q' _ hq' => ?_
  replace hq' : Heap.SameBut y q q' := hq'
  refine wpAny_bind (wpAny_isInstance (T := "StopIteration") (b := true) ⟨oe, hq'.extBut _ _ hez hoe, hce⟩ isSubtype_stop ?_)
  exact wpAny_pure (hQ q' tk0 fun c o c1 c2 e' => hq'.extBut _ _ c1 (hq _ _ c2 (hs1.extBut _ _ c1 e')))
def Itzz (K : PySem.W.Frag) (z0 z1 z2 : ZS) : It :=
  ⟨fun i H => ∃ (xs0 xs1 xs2 : List V) (x0 x1 x2 : V), z0.at K H xs0 ∧ z1.at K H xs1 ∧ z2.at K H xs2 ∧ xs0[i]? = some x0 ∧ xs1[i]? = some x1 ∧ xs2[i]? = some x2,
    fun i H v H' => ∃ T1 T x0 x1 x2, v = .ref T ∧ H T1 = none ∧ (upd H T1 (.tup [x1, x2])) T = none ∧ H' = upd (upd H T1 (.tup [x1, x2])) T (.tup [x0, .ref T1]) ∧ (∀ xs, z0.at K H xs → xs[i]? = some x0) ∧ (∀ xs, z1.at K H xs → xs[i]? = some x1) ∧ (∀ xs, z2.at K H xs → xs[i]? = some x2),
    fun i H => ∃ xs0 : List V, z0.at K H xs0 ∧ i = xs0.length⟩
def TnZ (z0 z1 z2 : ZS) (n : Nat) (i : Nat) (h : Heap) : Prop := IsZip h (n + 8) (n + 6) (n + 7) .none ∧ IsTupOf2 h (n + 6) (.ref (n + 5)) (.ref (n + 4)) ∧ (∃ a b, IsTupOf2 h (n + 7) a b) ∧ z0.it (n + 5) i h ∧ In (n + 4) (n + 2) (n + 3) n (n + 1) (z1.it n) (z2.it (n + 1)) i h
def fpZ (n : Nat) : List Addr := [n + 8, n + 6, n + 7, n + 5, n + 4, n + 2, n + 3, n, n + 1]
theorem fpZ_of {n c : Nat} (h : c ∈ fpZ n) : n ≤ c ∧ c ≤ n + 8 := by
  have e : c = n + 8 ∨ c = n + 6 ∨ c = n + 7 ∨ c = n + 5 ∨ c = n + 4 ∨ c = n + 2 ∨ c = n + 3 ∨ c = n ∨ c = n + 1 := by simpa [fpZ] using h
  omega
theorem fpZ_in {n c : Nat} (h : n ≤ c) (h' : c ≤ n + 8) : c ∈ fpZ n := by
  have e : c = n + 8 ∨ c = n + 6 ∨ c = n + 7 ∨ c = n + 5 ∨ c = n + 4 ∨ c = n + 2 ∨ c = n + 3 ∨ c = n ∨ c = n + 1 := by omega
  simpa [fpZ] using e
end ZpZ
namespace ZpZ
open PySem PySem.Spec PyProof.Rows L2 ZpG
theorem turn_zz {P : Program} {w : World} {K : PySem.W.Frag} {elts : List Expr} {kk : Nat} {tpos : Pos} {z0 z1 z2 : ZS} {n : Nat} (l0 : z0.lt n) (l1 : z1.lt n) (l2 : z2.lt n) :
    Turn P w K (.Tuple elts kk tpos) (Itzz K z0 z1 z2) (fpZ n) (n + 8) (TnZ z0 z1 z2 n) where
  mem := fpZ_in (by omega) (by omega)
  obj := fun i h st c hc => by
    obtain ⟨hy, hYI, ⟨a, b, hYO⟩, st0, x, f, hx, hz, hTI, ⟨a', b', hTO⟩, st1, st2⟩ := st
    have e : c = n + 8 ∨ c = n + 6 ∨ c = n + 7 ∨ c = n + 5 ∨ c = n + 4 ∨ c = n + 2 ∨ c = n + 3 ∨ c = n ∨ c = n + 1 := by simpa [fpZ] using hc
    rcases e with q | q | q | q | q | q | q | q | q
    · rw [q]; exact ⟨_, hy, fun v q => nomatch q⟩
    · rw [q]; exact ⟨_, hYI, fun v q => nomatch q⟩
    · rw [q]; exact ⟨_, hYO, fun v q => nomatch q⟩
    · rw [q]; exact ZS.obj (z := z0) st0
    · rw [q]; exact ⟨_, hz, fun v q => nomatch q⟩
    · rw [q]; exact ⟨_, hTI, fun v q => nomatch q⟩
    · rw [q]; exact ⟨_, hTO, fun v q => nomatch q⟩
    · rw [q]; exact ZS.obj (z := z1) st1
    · rw [q]; exact ZS.obj (z := z2) st2
  keep := fun i h h' st k => by
    obtain ⟨hy, hYI, ⟨a, b, hYO⟩, st0, x, f, hx, hz, hTI, ⟨a', b', hTO⟩, st1, st2⟩ := st
    have k' : ∀ c, n ≤ c → c ≤ n + 8 → ∀ o, h.get? c = some o → h'.get? c = some o := fun c h1 h2 => k c (fpZ_in h1 h2)
    exact ⟨k' _ (by omega) (by omega) _ hy, k' _ (by omega) (by omega) _ hYI, ⟨a, b, k' _ (by omega) (by omega) _ hYO⟩, ZS.move (z := z0) (k' _ (by omega) (by omega)) st0, x, f, hx, k' _ (by omega) (by omega) _ hz, k' _ (by omega) (by omega) _ hTI, ⟨a', b', k' _ (by omega) (by omega) _ hTO⟩, ZS.move (z := z1) (k' _ (by omega) (by omega)) st1, ZS.move (z := z2) (k' _ (by omega) (by omega)) st2⟩
  item := by
    intro X hP hw hK hc i pins s σ H E I hf st hg
    subst hP hw hK
    obtain ⟨hy, hYI, ⟨a, b, hYO⟩, st0, x, f, hx, hz, hTI, ⟨a', b', hTO⟩, st1, st2⟩ := st
    obtain ⟨xs0, xs1, xs2, x0, x1, x2, q0, q1, q2, h0, h1, h2⟩ := hg
    have hh : X.A.in1.handled = none := I.ok.hd hc
    have hh2 : X.A.in1.in1.handled = none := hh
    obtain ⟨fp0, P0, St0, D0, m0, f0, s0, b0, p0⟩ := z0.draws (A := X.A.in1) I q0 hh (ZS.off_of (by omega) l0) st0
    obtain ⟨fp1, P1, St1, D1, m1, f1, s1, b1, p1⟩ := z1.draws (A := X.A.in1.in1) I q1 hh2 (ZS.off_of (by omega) l1) st1
    obtain ⟨fp2, P2, St2, D2, m2, f2, s2, b2, p2⟩ := z2.draws (A := X.A.in1.in1) I q2 hh2 (ZS.off_of (by omega) l2) st2
    have nf0 : ∀ c, n ≤ c → c ≠ n + 5 → c ∉ fp0 := fun c h1 h2 h3 => by
      rcases f0 c h3 with e | e
      · exact h2 e
      · exact e (ZS.off_of h1 l0)
    have nf1 : ∀ c, n ≤ c → c ≠ n → c ∉ fp1 := fun c h1 h2 h3 => by
      rcases f1 c h3 with e | e
      · exact h2 e
      · exact e (ZS.off_of h1 l1)
    have nf2 : ∀ c, n ≤ c → c ≠ n + 1 → c ∉ fp2 := fun c h1 h2 h3 => by
      rcases f2 c h3 with e | e
      · exact h2 e
      · exact e (ZS.off_of h1 l2)
    have S : ZipSep2 (n + 4) (n + 2) (n + 3) n (n + 1) fp1 fp2 := { TIz := ne' (a := n + 2) (b := n + 4) (by omega), TOz := ne' (a := n + 3) (b := n + 4) (by omega), TITO := ne' (a := n + 2) (b := n + 3) (by omega), TIi1 := ne' (a := n + 2) (b := n) (by omega), mem1 := m1, zf1 := nf1 (n + 4) (by omega) (ne' (a := n + 4) (b := n) (by omega)), Tf1 := nf1 (n + 3) (by omega) (ne' (a := n + 3) (b := n) (by omega)), TIi2 := ne' (a := n + 2) (b := n + 1) (by omega), mem2 := m2, zf2 := nf2 (n + 4) (by omega) (ne' (a := n + 4) (b := n + 1) (by omega)), Tf2 := nf2 (n + 3) (by omega) (ne' (a := n + 3) (b := n + 1) (by omega)), sep1_2 := nf2 n (by omega) (ne' (a := n) (b := n + 1) (by omega)), sep2_1 := nf1 (n + 1) (by omega) (ne' (a := n + 1) (b := n) (by omega)) }
    have zin0 : ∀ c : Addr, c = n + 4 ∨ c = n + 3 ∨ c = n ∨ c = n + 1 → c ∉ fp0 ∧ c ≠ n + 8 ∧ c ≠ n + 6 ∧ c ≠ n + 7 := fun c hc => by
      have g : ∀ k : Nat, k < 5 → (n + k) ∉ fp0 ∧ @Ne Addr (n + k) (n + 8) ∧ @Ne Addr (n + k) (n + 6) ∧ @Ne Addr (n + k) (n + 7) := fun k hk => ⟨nf0 (n + k) (by omega) (ne' (a := n + k) (b := n + 5) (by omega)), ne' (a := n + k) (b := n + 8) (by omega), ne' (a := n + k) (b := n + 6) (by omega), ne' (a := n + k) (b := n + 7) (by omega)⟩
      rcases hc with e | e | e | e
      · rw [e]; exact g 4 (by omega)
      · rw [e]; exact g 3 (by omega)
      · rw [e]; exact g 0 (by omega)
      · rw [e]; exact g 1 (by omega)
    have zout : ∀ c : Addr, c = n + 4 ∨ c = n + 2 ∨ c = n + 3 ∨ c ∈ fp1 ∨ c ∈ fp2 → c ≠ n + 8 ∧ c ≠ n + 7 ∧ c ≠ n + 5 := fun c hc => by
      have g : ∀ k : Nat, k < 5 → @Ne Addr (n + k) (n + 8) ∧ @Ne Addr (n + k) (n + 7) ∧ @Ne Addr (n + k) (n + 5) := fun k hk => ⟨ne' (a := n + k) (b := n + 8) (by omega), ne' (a := n + k) (b := n + 7) (by omega), ne' (a := n + k) (b := n + 5) (by omega)⟩
      rcases hc with e | e | e | e | e
      · rw [e]; exact g 4 (by omega)
      · rw [e]; exact g 2 (by omega)
      · rw [e]; exact g 3 (by omega)
      · exact ⟨fun z => nf1 (n + 8) (by omega) (ne' (a := n + 8) (b := n) (by omega)) (z ▸ e), fun z => nf1 (n + 7) (by omega) (ne' (a := n + 7) (b := n) (by omega)) (z ▸ e), fun z => nf1 (n + 5) (by omega) (ne' (a := n + 5) (b := n) (by omega)) (z ▸ e)⟩
      · exact ⟨fun z => nf2 (n + 8) (by omega) (ne' (a := n + 8) (b := n + 1) (by omega)) (z ▸ e), fun z => nf2 (n + 7) (by omega) (ne' (a := n + 7) (b := n + 1) (by omega)) (z ▸ e), fun z => nf2 (n + 5) (by omega) (ne' (a := n + 5) (b := n + 1) (by omega)) (z ▸ e)⟩
    have Z : SepZ (n + 8) (n + 6) (n + 7) (n + 5) (n + 4) (n + 2) (n + 3) n (n + 1) fp0 fp1 fp2 :=
      ⟨ne' (a := n + 6) (b := n + 8) (by omega), ne' (a := n + 7) (b := n + 8) (by omega), ne' (a := n + 6) (b := n + 7) (by omega), ne' (a := n + 6) (b := n + 5) (by omega), m0, nf0 (n + 8) (by omega) (ne' (a := n + 8) (b := n + 5) (by omega)), nf0 (n + 7) (by omega) (ne' (a := n + 7) (b := n + 5) (by omega)), zin0, zout⟩
    have t0 : i < xs0.length := (List.getElem?_eq_some_iff.mp h0).1
    have t1 : i < xs1.length := (List.getElem?_eq_some_iff.mp h1).1
    have t2 : i < xs2.length := (List.getElem?_eq_some_iff.mp h2).1
    have hyl : n + 8 < s.heap.objs.size := Heap.lt_size hy
    refine out_item Z S D0 D1 D2 hy hYI hYO s0 ⟨x, f, hx, hz, hTI, ⟨a', b', hTO⟩, s1, s2⟩ t0 t1 t2 fun v0 u1 u2 hm h' tk g0 g1 g2 km hTm hsm kh hT hy' hYI' hYO' w0 hin' => ?_
    refine ⟨_, rfl, wpAny_letOwnedTupleGo_zip (s := { s with heap := h', toks := tk }) hy' fun h'' hy'' sb => ?_⟩
    obtain ⟨x0', e0, ru0⟩ := p0 i v0 g0
    rw [h0] at e0
    cases Option.some.inj e0
    obtain ⟨x1', e1, ru1⟩ := p1 i u1 g1
    rw [h1] at e1
    cases Option.some.inj e1
    obtain ⟨x2', e2, ru2⟩ := p2 i u2 g2
    rw [h2] at e2
    cases Option.some.inj e2
    have outz : ∀ c, c ∉ fpZ n → c ≠ n + 8 ∧ c ≠ n + 7 ∧ c ≠ n + 5 ∧ c ≠ n + 4 ∧ c ≠ n + 3 ∧ c ≠ n ∧ c ≠ n + 1 := fun c hb => by
      have g : ∀ k : Nat, k ≤ 8 → c ≠ n + k := fun k hk e => hb (e ▸ fpZ_in (by omega) (by omega))
      exact ⟨g 8 (by omega), g 7 (by omega), g 5 (by omega), g 4 (by omega), g 3 (by omega), g 0 (by omega), g 1 (by omega)⟩
    have new1 : ObjOk X.prog X.w (upd H s.heap.objs.size (.tup [x1, x2])) hm s.heap.objs.size (.tup [x1, x2]) := ⟨by show 2 ≤ sizeLine; decide, [u1, u2], .cons ru1 (.cons ru2 .nil), ⟨_, hTm, rfl, _, rfl⟩⟩
    have I1 : Inv X pins σ (upd H s.heap.objs.size (.tup [x1, x2])) { s with heap := hm, toks := tk } :=
      I.turnedNew (t' := tk) (ch := fpZ n) (fun c o hb q => by
        obtain ⟨c8, c7, c5, c4, c3, c0, c1⟩ := outz c hb
        exact km c o c8 c7 c5 c4 c3 c0 c1 q) hf (Nat.le_refl _) new1
    have hf1 : ∀ b ∈ fpZ n, FpOk X pins (upd H s.heap.objs.size (.tup [x1, x2])) b := fun b hb => by
      have := fpZ_of hb
      exact ⟨by rw [upd_ne (Nat.ne_of_lt (Nat.lt_of_le_of_lt this.2 hyl))]; exact (hf b hb).1, (hf b hb).2⟩
    have hT2 : h''.get? (s.heap.objs.size + 1) = some { cls := .type "tuple", data := .seq #[v0, .ref s.heap.objs.size] } := (sb.2 _ (ne' (a := s.heap.objs.size + 1) (b := n + 8) (by omega))).trans hT
    have new2 : ObjOk X.prog X.w (upd (upd H s.heap.objs.size (.tup [x1, x2])) (s.heap.objs.size + 1) (.tup [x0, .ref s.heap.objs.size])) h'' (s.heap.objs.size + 1) (.tup [x0, .ref s.heap.objs.size]) :=
      ⟨by show 2 ≤ sizeLine; decide, [v0, .ref s.heap.objs.size], .cons ru0 (.cons rfl .nil), ⟨_, hT2, rfl, _, rfl⟩⟩
    have I2 : Inv X pins σ (upd (upd H s.heap.objs.size (.tup [x1, x2])) (s.heap.objs.size + 1) (.tup [x0, .ref s.heap.objs.size])) { s with heap := h'', toks := tk } :=
      I1.turnedNew (t' := tk) (ch := fpZ n) (fun c o hb q => by
        obtain ⟨c8, c7, _⟩ := outz c hb
        exact (sb.2 c c8).trans (kh c o c8 c7 q)) hf1 (by show hm.objs.size ≤ _; rw [hsm]; exact Nat.le_refl _) new2
    have n1 : H s.heap.objs.size = none := I.hok.fresh (Nat.le_refl _)
    have n2 : (upd H s.heap.objs.size (.tup [x1, x2])) (s.heap.objs.size + 1) = none := I1.hok.fresh (by show hm.objs.size ≤ _; rw [hsm]; exact Nat.le_refl _)
    have mv : ∀ c o, c ≠ n + 8 → h'.get? c = some o → h''.get? c = some o := fun c o hc q => (sb.2 c hc).trans q
    refine ⟨.ref (s.heap.objs.size + 1), _, I2, rfl, ⟨_, _, x0, x1, x2, rfl, n1, n2, rfl, fun l hl => by rw [ZS.inj I hl q0]; exact h0, fun l hl => by rw [ZS.inj I hl q1]; exact h1, fun l hl => by rw [ZS.inj I hl q2]; exact h2⟩, ⟨hy'', mv _ _ (ne' (a := n + 6) (b := n + 8) (by omega)) hYI', ?_, ?_, ?_⟩, fun c hcm => ?_⟩
    · obtain ⟨a2, b2', e⟩ := hYO'
      exact ⟨a2, b2', mv _ _ (ne' (a := n + 7) (b := n + 8) (by omega)) e⟩
    · exact ZS.move (z := z0) (fun o q => mv (n + 5) o (ne' (a := n + 5) (b := n + 8) (by omega)) q) (b0 _ _ w0)
    · obtain ⟨x', f', hx', hz', hTI', ⟨a3, b3, hTO'⟩, w1, w2⟩ := hin'
      exact ⟨x', f', hx', mv _ _ (ne' (a := n + 4) (b := n + 8) (by omega)) hz', mv _ _ (ne' (a := n + 2) (b := n + 8) (by omega)) hTI', ⟨a3, b3, mv _ _ (ne' (a := n + 3) (b := n + 8) (by omega)) hTO'⟩, ZS.move (z := z1) (fun o q => mv n o (ne' (a := n) (b := n + 8) (by omega)) q) (b1 _ _ w1), ZS.move (z := z2) (fun o q => mv (n + 1) o (ne' (a := n + 1) (b := n + 8) (by omega)) q) (b2 _ _ w2)⟩
    · have := fpZ_of hcm
      rw [upd_ne (Nat.ne_of_lt (Nat.lt_succ_of_lt (Nat.lt_of_le_of_lt this.2 hyl))), upd_ne (Nat.ne_of_lt (Nat.lt_of_le_of_lt this.2 hyl))]
      exact (hf c hcm).1
  done := by
    intro X hP hw hK hc i pins s σ H E I hf st hg
    subst hP hw hK
    obtain ⟨hy, hYI, ⟨a, b, hYO⟩, st0, _⟩ := st
    obtain ⟨xs0, q0, rfl⟩ := hg
    have hh : X.A.in1.handled = none := I.ok.hd hc
    obtain ⟨fp0, P0, St0, D0, m0, f0, s0, b0, p0⟩ := z0.draws (A := X.A.in1) I q0 hh (ZS.off_of (by omega) l0) st0
    have nf0 : ∀ c, n ≤ c → c ≠ n + 5 → c ∉ fp0 := fun c h1 h2 h3 => by
      rcases f0 c h3 with e | e
      · exact h2 e
      · exact e (ZS.off_of h1 l0)
    exact out_end (ne' (a := n + 8) (b := n + 5) (by omega)) (nf0 (n + 8) (by omega) (ne' (a := n + 8) (b := n + 5) (by omega))) D0 hy hYI s0 fun h' tk hk => ⟨rfl, I.turnedL (t' := tk) (ch := fpZ n) (fun c o hb q =>
      hk c o (fun e => hb (e ▸ fpZ_in (by omega) (by omega))) (fun e => hb (e ▸ fpZ_in (by omega) (by omega))) q) hf⟩
  self := fun A i s Q E st h => wpAny_pyIter_zip st.1 h
end ZpZ
namespace ZpZ
open PySem PySem.Spec PyProof.Rows L2 ZpG
def iZz (K : PySem.W.Frag) (t0 : TE) (ta : TA) : TI := fun σ H R => t0 σ H fun v H1 => ta σ H1 fun vs H2 => ∃ (z0 z1 z2 : ZS) (xs0 xs1 xs2 : List V), v = z0.val ∧ vs = [z1.val, z2.val] ∧ z0.at K H2 xs0 ∧ z1.at K H2 xs1 ∧ z2.at K H2 xs2 ∧ R (Itzz K z0 z1 z2) H2
theorem pi_zz {X : Cx} {e0 e1 e2 : Expr} {t0 : TE} {ta : TA} {p p' pos pos' tpos : Pos} {elts : List Expr} {kk : Nat} (hg : Gl X "zip") (hm : X.mg "zip" = none) (h0 : PE X e0 t0) (ha : PA X [e1, e2] ta)
    (hs : starEach [e0, .Call (.Name "zip" p') [e1, e2] [] pos'] X.env = (false, eval e0 X.env) :: starEach [.Call (.Name "zip" p') [e1, e2] [] pos'] X.env := by rfl) (hpl : (backTo pos (starEach [.Call (.Name "zip" p') [e1, e2] [] pos'] X.env)).any (·.1) = false := by rfl)
    (hs1 : starEach [.Call (.Name "zip" p') [e1, e2] [] pos'] X.env = (false, eval (.Call (.Name "zip" p') [e1, e2] [] pos') X.env) :: starEach [] X.env := by rfl)
    (hs2 : starEach [e1, e2] X.env = (false, eval e1 X.env) :: starEach [e2] X.env := by rfl) (hpl2 : (backTo pos' (starEach [e2] X.env)).any (·.1) = false := by rfl) :
    PI X (.Tuple elts kk tpos) (.Call (.Name "zip" p) [e0, .Call (.Name "zip" p') [e1, e2] [] pos'] [] pos) (iZz X.K t0 ta) := by
  refine ⟨fun pins s σ H R I h => ?_⟩
  refine Call_ (ld_blt I hg hm PyProof.Rows.boot_zip (PyProof.Rows.callWith_type1 ?_ hs hpl))
  rw [hs, hs1]
  show wpAny _ _ (spliced ((false, eval e0 X.env) :: [(false, eval (.Call (.Name "zip" p') [e1, e2] [] pos') X.env)])) _ _ s
  refine Calls.spliced_cons (thn (h0.run pins s σ H _ I h) fun u s1 ⟨v, H1, I1, r1, q1⟩ => ?_)
  refine Calls.spliced_cons ?_
  refine Call_ (ld_blt I1 hg hm PyProof.Rows.boot_zip (PyProof.Rows.callWith_type1 (thn (ha.run pos' pins s1 σ H1 _ I1 q1) fun us s2 ⟨vs, H2, I2, r2, q2⟩ => ?_) hs2 hpl2))
  obtain ⟨z0, z1, z2, xs0, xs1, xs2, ev, evs, a0, a1, a2, q⟩ := q2
  subst ev evs
  cases r2 with
  | cons r2 rr =>
    cases rr with
    | cons r3 rr =>
      cases rr
      obtain ⟨o1, G1, B1, h1, i1, l1⟩ := z1.begins I2 a1 r2
      obtain ⟨o2, G2, B2, h2, i2, l2⟩ := z2.begins I2 a2 r3
      obtain ⟨_, _, _, _, _, l0⟩ := z0.begins I2 a0 r1
      have fresh9 : ∀ c, c ∈ fpZ s2.heap.objs.size → FpOk X pins H2 c := fun c hcm => by
        have hle := (fpZ_of hcm).1
        exact I2.fpOk hle (I2.hok.fresh hle)
      refine zip_begins2 B1 B2 h1 h2 fun h' hz hTI hTO g1 g2 hsz hk => ?_
      refine Calls.spliced_nil ?_
      have I3 : Inv X pins σ H2 { s2 with heap := h' } := I2.kept (t' := s2.toks) hk
      obtain ⟨o0, G0, B0, hG0, i0, _⟩ := z0.begins I3 a0 r1
      refine zip_beginsZ (s := { s2 with heap := h' }) B0 hG0 hz fun h'' hy hYI hYO g0 hk2 => wpAny_pyIter_zip hy ?_
      replace hy : IsZip h'' (h'.objs.size + 3) (h'.objs.size + 1) (h'.objs.size + 2) .none := hy
      replace hYI : IsTupOf2 h'' (h'.objs.size + 1) (.ref h'.objs.size) (.ref (s2.heap.objs.size + 4)) := hYI
      replace hYO : IsTupOf2 h'' (h'.objs.size + 2) .none .none := hYO
      replace g0 : h''.get? h'.objs.size = some o0 := g0
      replace hk2 : ∀ c o, h'.get? c = some o → h''.get? c = some o := hk2
      have I4 : Inv X pins σ H2 { s2 with heap := h'' } := I3.kept (t' := s2.toks) hk2
      rw [hsz] at hy hYI hYO g0
      have i0' := i0 _ _ g0
      have e9 : ({ s2 with heap := h' } : Shared).heap.objs.size + 3 = s2.heap.objs.size + 8 := by
        show h'.objs.size + 3 = _
        rw [hsz]
      rw [e9]
      exact ⟨s2.heap.objs.size + 8, fpZ s2.heap.objs.size, _, _, H2, rfl, I4, turn_zz l0 l1 l2, ⟨hy, hYI, ⟨_, _, hYO⟩, i0', _, _, .inl rfl, hk2 _ _ hz, hk2 _ _ hTI, ⟨_, _, hk2 _ _ hTO⟩, i1 _ _ (hk2 _ _ g1), i2 _ _ (hk2 _ _ g2)⟩, fresh9, q⟩
theorem lc_zz {K : PySem.W.Frag} {z0 z1 z2 : ZS} {xs0 xs1 xs2 : List V} {n : Nat} {g : TG} {tt : TT} {te : TE} {vs : List Nat} {σ : L2.St} {H1 : Hp} {D : Addr} {Qd : Hp → Prop} (n0 : xs0.length = n) (n1 : xs1.length = n) (n2 : xs2.length = n) (Pv : Nat → Hp → Prop) (h0 : Pv 0 (upd H1 D (.lst []))) (hl : ∀ i H, i ≤ n → Pv i H → z0.at K H xs0 ∧ z1.at K H xs1 ∧ z2.at K H xs2)
    (hs : ∀ i x0 x1 x2 T1 T H, xs0[i]? = some x0 → xs1[i]? = some x1 → xs2[i]? = some x2 → H T1 = none → (upd H T1 (.tup [x1, x2])) T = none → Pv i H → g (.ref T) (wipe σ vs) (upd (upd H T1 (.tup [x1, x2])) T (.tup [x0, .ref T1])) fun σ2 H2 => wipe σ2 vs = wipe σ vs ∧ tt σ2 H2 fun b H3 =>
      if b = true then te σ2 H3 fun y H4 => ∃ acc, H4 D = some (.lst acc) ∧ acc.length < sizeLine ∧ Pv (i + 1) (upd H4 D (.lst (acc ++ [y]))) else Pv (i + 1) H3) (hd : ∀ H, Pv n H → Qd H) :
    ∃ W : Nat → Nat → Hp → Prop, (∃ m, W 0 m (upd H1 D (.lst []))) ∧ ∀ i m H, W i m H →
      ((Itzz K z0 z1 z2).stop i H ∧ Qd H) ∨ ((Itzz K z0 z1 z2).go i H ∧ ∃ Nx : Hp → Prop, (∀ H', Nx H' → ∃ m', m' < m ∧ W (i + 1) m' H') ∧ ∀ x H', (Itzz K z0 z1 z2).yld i H x H' → g x (wipe σ vs) H' fun σ2 H2 => wipe σ2 vs = wipe σ vs ∧ tt σ2 H2 fun b H3 =>
        if b = true then te σ2 H3 fun y H4 => ∃ acc, H4 D = some (.lst acc) ∧ acc.length < sizeLine ∧ Nx (upd H4 D (.lst (acc ++ [y]))) else Nx H3) := by
  refine ⟨fun i m H => m = n - i ∧ i ≤ n ∧ Pv i H, ⟨n, rfl, Nat.zero_le _, h0⟩, ?_⟩
  rintro i m H ⟨rfl, hi, p⟩
  obtain ⟨q0, q1, q2⟩ := hl i H hi p
  by_cases hlt : i < n
  · have e0 : xs0[i]? = some (xs0[i]'(by omega)) := List.getElem?_eq_getElem _
    have e1 : xs1[i]? = some (xs1[i]'(by omega)) := List.getElem?_eq_getElem _
    have e2 : xs2[i]? = some (xs2[i]'(by omega)) := List.getElem?_eq_getElem _
    refine .inr ⟨⟨xs0, xs1, xs2, _, _, _, q0, q1, q2, e0, e1, e2⟩, Pv (i + 1), fun H' p' => ⟨n - (i + 1), by omega, rfl, hlt, p'⟩, fun x H' y => ?_⟩
    obtain ⟨T1, T, x0, x1, x2, rfl, nT1, nT, rfl, f0, f1, f2⟩ := y
    exact hs i x0 x1 x2 T1 T H (f0 _ q0) (f1 _ q1) (f2 _ q2) nT1 nT p
  · have e : i = n := by omega
    subst e
    exact .inl ⟨⟨xs0, q0, n0.symm⟩, hd H p⟩
end ZpZ

end Gk

set_option Elab.async false
set_option linter.all false
set_option maxRecDepth 100000
set_option maxHeartbeats 1000000
set_option pp.maxSteps 1500
set_option pp.deepTerms false
namespace Gk
open PySem PySem.Spec PyProof.Rows L2
/-! ### data of tuples alone: no list that is written can harm it -/
mutual
def noL : PyData → Bool
  | .list _ => false
  | .tuple ds => noLs ds
  | _ => true
def noLs : List PyData → Bool
  | [] => true
  | d :: r => noL d && noLs r
end
def Ts (H H' : Hp) : Prop := ∀ b xs, H b = some (HO.tup xs) → H' b = some (.tup xs)
theorem Ts.refl {H : Hp} : Ts H H := fun _ _ e => e
theorem Ts.trans {H H1 H2 : Hp} (a : Ts H H1) (b : Ts H1 H2) : Ts H H2 := fun c xs e => b c xs (a c xs e)
theorem Ts.same {H H' : Hp} (s : Same H H') : Ts H H' := fun b xs e => s _ _ e
theorem Ts.gr {H H' : Hp} (s : Gr H H') : Ts H H' := fun b xs e => s.tup e
theorem Ts.new {H : Hp} {p : Addr} {o : HO} (h : H p = none) : Ts H (upd H p o) := Ts.same (same_upd h)
theorem Ts.set {H : Hp} {p : Addr} {xs ys : List V} (h : H p = some (.lst xs)) : Ts H (upd H p (.lst ys)) := fun b zs e => by
  rw [upd_ne (ne_of e h (by intro z; cases z))]
  exact e
mutual
theorem Tk.ts {H H' : Hp} (s : Ts H H') : ∀ {v : V} {d : PyData}, Tk H v d → noL d = true → Tk H' v d
  | _, _, .bl b, _ => .bl b
  | _, _, .int i, _ => .int i
  | _, _, .str x, _ => .str x
  | _, _, .lst h t, n => by cases n
  | _, _, .tup h t, n => .tup (s _ _ h) (t.ts s n)
theorem TkAll.ts {H H' : Hp} (s : Ts H H') : ∀ {vs : List V} {ds : List PyData}, TkAll H vs ds → noLs ds = true → TkAll H' vs ds
  | _, _, .nil, _ => .nil
  | _, _, .cons (d := d) (ds := ds) h t, n => by
    have n' : noL d = true ∧ noLs ds = true := Bool.and_eq_true_iff.mp n
    exact .cons (h.ts s n'.1) (t.ts s n'.2)
end
theorem noLs_map {α : Type} {f : α → PyData} (h : ∀ x, noL (f x) = true) : ∀ l : List α, noLs (l.map f) = true
  | [] => rfl
  | x :: r => by
    show (noL (f x) && noLs (r.map f)) = true
    rw [h x, noLs_map h r]
    rfl
theorem noL_row (r : List Int) : noL (rowD r) = true := noLs_map (fun _ => rfl) r
theorem noL_gate (g : Gt) : noL (gD g) = true := by
  show (true && (noLs ((g.2.map Int.ofNat).map PyData.int) && true)) = true
  rw [noLs_map (fun _ => rfl)]
  rfl
theorem noL_gates (gs : List Gt) : noLs (gs.map gD) = true := noLs_map noL_gate gs
theorem noL_net (m : Int) (gs : List Gt) : noL (netD m gs) = true := by
  show (true && (noLs (gs.map gD) && true)) = true
  rw [noL_gates]
  rfl
theorem noL_ch (a b : List Int) : noL (chD a b) = true := by
  show (noL (rowD a) && (noL (rowD b) && true)) = true
  rw [noL_row, noL_row]
  rfl

/-! ### slices and sums of tuples: what is told stands in a heap that has grown -/
theorem cut_all {xs : List V} {lo hi : Option Int} (h : HT.sIx xs.length 0 lo = 0 ∧ HT.sIx xs.length xs.length hi = xs.length) : cutV xs lo hi = xs := by
  unfold cutV
  rw [h.1, h.2, List.drop_zero, Nat.sub_zero, List.take_length]
theorem same_refl {H : Hp} : Same H H := fun _ _ e => e
theorem slA {K : PySem.W.Frag} {a : Addr} {xs : List V} {lo hi : Option Int} {H : Hp} {Q : VK} (h : H a = some (.tup xs)) (q : ∀ p H', Same H H' → H' p = some (.tup (cutV xs lo hi)) → Q (.ref p) H') : rSlA K (.ref a) lo hi H Q :=
  ⟨a, xs, rfl, SqT.of h, fun w => q a H same_refl (by rw [cut_all w]; exact h), fun _ p np => q p _ (same_upd np) upd_same⟩
theorem slAn {K : PySem.W.Frag} {a : Addr} {xs : List V} {lo : Option Int} {H : Hp} {Q : VK} {σ : L2.St} (h : H a = some (.tup xs)) (q : ∀ p H', Same H H' → H' p = some (.tup (cutV xs lo none)) → Q (.ref p) H') : tNoPart σ H (fun u H3 => rSlA K (.ref a) lo u H3 Q) := slA h q
theorem catA {K : PySem.W.Frag} {a b : Addr} {xs ys : List V} {H : Hp} {Q : VK} (ha : H a = some (.tup xs)) (hb : H b = some (.tup ys)) (hl : xs.length + ys.length ≤ sizeLine) (q : ∀ p H', Same H H' → H' p = some (.tup (xs ++ ys)) → Q (.ref p) H') : rCatA K (.ref a) (.ref b) H Q :=
  ⟨a, b, xs, ys, rfl, rfl, SqT.of ha, SqT.of hb, hl, fun e => q b H same_refl (by rw [e]; exact hb), fun _ e => q a H same_refl (by rw [e, List.append_nil]; exact ha), fun _ _ p np => q p _ (same_upd np) upd_same⟩
theorem cut_to {xs : List V} {k : Nat} : cutV xs none (some (k : Int)) = xs.take k := by
  unfold cutV
  rw [HT.sIx_none, HT.sIx_nat, List.drop_zero, Nat.sub_zero]
  apply List.ext_getElem?
  intro i
  rw [List.getElem?_take, List.getElem?_take]
  by_cases h : i < k
  · rw [if_pos h]
    by_cases h2 : i < xs.length
    · rw [if_pos (by omega)]
    · rw [List.getElem?_eq_none (by omega)]
      split <;> rfl
  · rw [if_neg h, if_neg (by omega)]
theorem cut_from {xs : List V} {k : Nat} : cutV xs (some (k : Int)) none = xs.drop k := by
  unfold cutV
  rw [HT.sIx_none, HT.sIx_nat]
  by_cases h : k ≤ xs.length
  · rw [Nat.min_eq_left h]
    exact List.take_of_length_le (by rw [List.length_drop]; exact Nat.le_refl _)
  · rw [Nat.min_eq_right (by omega), Nat.sub_self, List.take_zero, List.drop_eq_nil_of_le (by omega)]
theorem TkAll.take {H : Hp} : ∀ {xs : List V} {ds : List PyData} (k : Nat), TkAll H xs ds → TkAll H (xs.take k) (ds.take k)
  | _, _, 0, _ => by rw [List.take_zero, List.take_zero]; exact .nil
  | _, _, _ + 1, .nil => .nil
  | _, _, k + 1, .cons a t => .cons a (t.take k)
theorem TkAll.drop {H : Hp} : ∀ {xs : List V} {ds : List PyData} (k : Nat), TkAll H xs ds → TkAll H (xs.drop k) (ds.drop k)
  | _, _, 0, t => t
  | _, _, _ + 1, .nil => .nil
  | _, _, k + 1, .cons _ t => t.drop k
theorem set_put {α : Type} {l : List α} {i : Nat} {x : α} (h : i < l.length) : (l.take i ++ [x]) ++ l.drop (i + 1) = l.set i x := by
  rw [List.set_eq_take_append_cons_drop, if_pos h, List.append_assoc]
  rfl
def rJoinK (K : PySem.W.Frag) : V → List V → Hp → VK → Prop := fun x xs H Q => ∃ a p, ∃ ys : List Str, x = .str a ∧ xs = [.ref p] ∧ (SqL K H p (ys.map V.str) ∨ SqT K H p (ys.map V.str)) ∧ (ys.map (·.length)).sum + ys.length * a.length ≤ 16777216 ∧ Q (.str (Txt.join a ys)) H

/-! ### walks over texts -/
theorem lc_str {z : Str} {g : TG} {tt : TT} {te : TE} {vs : List Nat} {σ : L2.St} {H1 : Hp} {D : Addr} {Qd : Hp → Prop} (Pv : Nat → Hp → Prop) (h0 : Pv 0 (upd H1 D (.lst [])))
    (hs : ∀ i x H, z.cps[i]? = some x → Pv i H → g (.str ⟨#[x]⟩) (wipe σ vs) H fun σ2 H2 => wipe σ2 vs = wipe σ vs ∧ tt σ2 H2 fun b H3 =>
      if b = true then te σ2 H3 fun y H4 => ∃ acc, H4 D = some (.lst acc) ∧ acc.length < sizeLine ∧ Pv (i + 1) (upd H4 D (.lst (acc ++ [y]))) else Pv (i + 1) H3) (hd : ∀ H, Pv z.cps.size H → Qd H) :
    ∃ W : Nat → Nat → Hp → Prop, (∃ m, W 0 m (upd H1 D (.lst []))) ∧ ∀ i m H, W i m H →
      ((Its z).stop i H ∧ Qd H) ∨ ((Its z).go i H ∧ ∃ Nx : Hp → Prop, (∀ H', Nx H' → ∃ m', m' < m ∧ W (i + 1) m' H') ∧ ∀ x H', (Its z).yld i H x H' → g x (wipe σ vs) H' fun σ2 H2 => wipe σ2 vs = wipe σ vs ∧ tt σ2 H2 fun b H3 =>
        if b = true then te σ2 H3 fun y H4 => ∃ acc, H4 D = some (.lst acc) ∧ acc.length < sizeLine ∧ Nx (upd H4 D (.lst (acc ++ [y]))) else Nx H3) := by
  refine ⟨fun i m H => m = z.cps.size - i ∧ i ≤ z.cps.size ∧ Pv i H, ⟨z.cps.size, by simp, Nat.zero_le _, h0⟩, ?_⟩
  rintro i m H ⟨rfl, hi, p⟩
  by_cases hlt : i < z.cps.size
  · refine .inr ⟨hlt, Pv (i + 1), fun H' p' => ⟨z.cps.size - (i + 1), by omega, rfl, hlt, p'⟩, fun x H' y => ?_⟩
    obtain ⟨rfl, ch, hc, rfl⟩ := y
    exact hs i ch _ hc p
  · have e : i = z.cps.size := by omega
    subst e
    exact .inl ⟨Nat.le_refl _, hd H p⟩
theorem for_str {z : Str} {g : TG} {tb : TS} {D : Ends} {σ : L2.St} {H : Hp} (Pv : Nat → L2.St → Hp → Prop) (h0 : Pv 0 σ H)
    (hs : ∀ i x σ H, z.cps[i]? = some x → Pv i σ H → g (.str ⟨#[x]⟩) σ H fun σ2 H2 => tb { D with nx := Pv (i + 1), ct := Pv (i + 1), bk := D.nx } σ2 H2) (hd : ∀ σ H, Pv z.cps.size σ H → D.nx σ H) :
    ∃ W : Nat → Nat → L2.St → Hp → Prop, (∃ m, W 0 m σ H) ∧ ∀ i m σ H, W i m σ H →
      ((Its z).stop i H ∧ D.nx σ H) ∨ ((Its z).go i H ∧ ∃ N : L2.St → Hp → Prop, (∀ σ' H', N σ' H' → ∃ m', m' < m ∧ W (i + 1) m' σ' H') ∧ ∀ x H', (Its z).yld i H x H' → g x σ H' fun σ2 H2 => tb { D with nx := N, ct := N, bk := D.nx } σ2 H2) := by
  refine ⟨fun i m σ H => m = z.cps.size - i ∧ i ≤ z.cps.size ∧ Pv i σ H, ⟨z.cps.size, by simp, Nat.zero_le _, h0⟩, ?_⟩
  rintro i m σ H ⟨rfl, hi, p⟩
  by_cases hlt : i < z.cps.size
  · refine .inr ⟨hlt, Pv (i + 1), fun σ' H' p' => ⟨z.cps.size - (i + 1), by omega, rfl, hlt, p'⟩, fun x H' y => ?_⟩
    obtain ⟨rfl, ch, hc, rfl⟩ := y
    exact hs i ch σ _ hc p
  · have e : i = z.cps.size := by omega
    subst e
    exact .inl ⟨Nat.le_refl _, hd σ H p⟩
theorem S_at {p : List Nat} {i x : Nat} (h : (SX.S p).cps[i]? = some x) : p[i]? = some x := by
  have : (SX.S p).cps = p.toArray := rfl
  rw [this, List.getElem?_toArray] at h
  exact h
theorem S_size (p : List Nat) : (SX.S p).cps.size = p.length := by
  show p.toArray.size = _
  simp

section
variable {P : Program} {w : World} {K : PySem.W.Frag} {mg : Str → Option Value} {base : Heap}
/-! ### the deck of k34 to k41: cells from ahead, a number, a count -/
theorem p63 : (0 : Int) < 2147483563 := by decide
def DeckD (H : Hp) (d l : Addr) (n : Int) : Prop := d ≠ l ∧ ∃ (cs : List Int) (y z : Int), H d = some (.lst [.ref l, .int y, .int z]) ∧ H l = some (.lst (cs.map V.int)) ∧ cs.length ≤ 63 ∧ 0 ≤ z ∧ z ≤ n
theorem DeckD.mono {H : Hp} {d l : Addr} {n m : Int} (D : DeckD H d l n) (h : n ≤ m) : DeckD H d l m := by
  obtain ⟨ne, cs, z, y, h1, h2, h3, h4, h5⟩ := D
  exact ⟨ne, cs, z, y, h1, h2, h3, h4, Int.le_trans h5 h⟩
theorem DeckD.same {H H' : Hp} {d l : Addr} {n : Int} (D : DeckD H d l n) (s : Same H H') : DeckD H' d l n := by
  obtain ⟨ne, cs, z, y, hd, hl, r⟩ := D
  exact ⟨ne, cs, z, y, s _ _ hd, s _ _ hl, r⟩
theorem DeckD.gr {H H' : Hp} {d l : Addr} {n : Int} (D : DeckD H d l n) (s : Gr H H') : DeckD H' d l n := by
  obtain ⟨ne, cs, z, y, hd, hl, r⟩ := D
  exact ⟨ne, cs, z, y, s.lst hd, s.lst hl, r⟩
theorem DeckD.upd {H : Hp} {d l p : Addr} {n : Int} {o : HO} (D : DeckD H d l n) (h1 : p ≠ d) (h2 : p ≠ l) : DeckD (upd H p o) d l n := by
  obtain ⟨ne, cs, z, y, hd, hl, r⟩ := D
  exact ⟨ne, cs, z, y, by rw [upd_ne h1.symm]; exact hd, by rw [upd_ne h2.symm]; exact hl, r⟩
theorem DeckD.off {H : Hp} {d l p : Addr} {n : Int} (D : DeckD H d l n) (h : H p = none) : p ≠ d ∧ p ≠ l := by
  obtain ⟨ne, cs, z, y, hd, hl, r⟩ := D
  exact ⟨(ne_of_none hd h).symm, (ne_of_none hl h).symm⟩
theorem Ts.frD {H H' : Hp} {d l : Addr} {n : Int} (D : DeckD H d l n) (f : Fr d l H H') : Ts H H' := fun b xs e => by
  obtain ⟨ne, cs, z, y, hd, hl, r⟩ := D
  exact f b _ (ne_of e hd (by intro z; cases z)) (ne_of e hl (by intro z; cases z)) e
theorem tab_frD {H H' : Hp} {d l P : Addr} {n : Int} (D : DeckD H d l n) (f : Fr d l H H') (t : GxR.TabG H P) : GxR.TabG H' P := by
  obtain ⟨ps, e, tr⟩ := t
  obtain ⟨ne, cs, z, y, hd, hl, r⟩ := D
  exact ⟨ps, f _ _ (ne_of e hd (by intro z; cases z)) (ne_of e hl (by intro z; cases z)) e, tr⟩
theorem none_of_frD {d l p : Addr} {H H' : Hp} {n : Int} (f : Fr d l H H') (D : DeckD H' d l n) (h : H' p = none) : H p = none := by
  have o := D.off h
  cases z : H p with
  | none => rfl
  | some u => rw [f _ _ o.1 o.2 z] at h; cases h
theorem cut63 {ns : List Int} (h : ns.length ≤ 63) : cutV (ns.map V.int) none (some 63) = ns.map V.int := by
  unfold cutV
  have e : HT.sIx (ns.map V.int).length (ns.map V.int).length (some 63) = min 63 (ns.map V.int).length := HT.sIx_nat _ _ 63
  rw [HT.sIx_none, e, List.length_map, List.drop_zero]
  apply List.take_of_length_le
  rw [List.length_map]
  omega
theorem sq_same {K : PySem.W.Frag} {H H' : Hp} {a : Addr} {xs : List V} (s : Same H H') (h : SqL K H a xs) : SqL K H' a xs := h.imp (fun r => r.imp (fun e => s _ _ e) (fun ⟨ob, e⟩ => ⟨ob, s _ _ e⟩)) id
def sp_deck (K : PySem.W.Frag) : Sp := fun vs H Q _ => ∃ (a : Addr) (ns : List Int), vs = [.ref a] ∧ SqL K H a (ns.map V.int) ∧ ns.length ≤ 63 ∧ ∀ H' d l, Same H H' → DeckD H' d l 0 → Q (.ref d) H'
theorem ok_deck (T : Tx K mg) : FnOk P w K mg base CX0 1 T.f_deck T.fd_deck ["_law_script"] (sp_deck K) := by
  refine T.F_deck.ok sc_deck (fun vs H Q E h => ?_) (fun cdv A outer s H vs Q E hr h => ?_)
  · obtain ⟨a, ns, rfl, _⟩ := h
    rfl
  · obtain ⟨a, ns, rfl, hS, hlen, q⟩ := h
    refine ⟨_, (pss_one (ps_ret (pe_lst (pa_cons (pe_callTy call_list_of (by rfl) T.m_list (by decide +kernel) (pa_cons (pe_slice sl_list (pv 0) po_none (po_some pe_int)) pa_nil)) (pa_cons (pe_op op_add pe_int (pe_op op_mod (pe_callB (cr_sum rfl) (by rfl) T.m_sum (by decide +kernel) (pa_cons (pe_slice sl_list (pv 0) po_none (po_some pe_int)) pa_nil)) pe_int)) (pa_cons pe_int pa_nil)))))), ?_⟩
    refine ⟨.ref a, rfl, 63, rfl, a, _, rfl, hS, fun c1 n1 => ?_⟩
    rw [cut63 hlen]
    have s1 := same_upd (o := HO.lst (ns.map V.int)) n1
    refine ⟨c1, _, rfl, .inl (SqL.of upd_same), fun l nl => ?_⟩
    have s2 := same_upd (o := HO.lst (ns.map V.int)) nl
    refine ⟨.ref a, rfl, 63, rfl, a, _, rfl, sq_same (s1.trans s2) hS, fun c3 n3 => ?_⟩
    rw [cut63 hlen]
    have s3 := same_upd (o := HO.lst (ns.map V.int)) n3
    refine ⟨c3, ns, rfl, SqL.of upd_same, _, _, rfl, rfl, p29, _, _, rfl, rfl, sl3, fun d nd => ?_⟩
    have s5 := same_upd (o := HO.lst [V.ref l, V.int (48271 + ns.sum % 2147483629), V.int 0]) nd
    have hl4 := s3 _ _ (show (upd (upd H c1 (.lst (ns.map V.int))) l (.lst (ns.map V.int))) l = _ from upd_same)
    exact q _ d l (((s1.trans s2).trans s3).trans s5) ⟨(ne_of_none hl4 nd).symm, ns, _, 0, upd_same, s5 _ _ hl4, hlen, Int.le_refl _, Int.le_refl _⟩
/-! ### a draw -/
theorem at0 (c : Int) (r : List Int) : atI ((c :: r).map V.int) 0 = some (.int c) := by
  rw [List.map_cons]
  exact atI_nat (j := 0) rfl
theorem ixN0 (c : Int) (r : List Int) : ixN ((c :: r).map V.int).length 0 = some 0 := by
  unfold ixN
  rw [if_pos (by decide), if_pos (by rw [List.length_map, List.length_cons]; omega)]
  rfl
theorem ne_list (cs : List Int) : (!PyData.eqv (.list (cs.map PyData.int)) (.list [])) = !cs.isEmpty := by cases cs <;> rfl
def sp_draw (K : PySem.W.Frag) : Sp := fun vs H Q _ => ∃ (d l : Addr) (m n : Int), vs = [.ref d, .int m] ∧ DeckD H d l n ∧ n < 1000000000 ∧ 0 < m ∧ m < 1073741824 ∧ ∀ H' v, DeckD H' d l (n + 1) → Fr d l H H' → 0 ≤ v → v < m → Q (.int v) H'
theorem ok_draw (T : Tx K mg) : FnOk P w K mg base CX0 1 T.f_draw T.fd_draw ["_law_deck_here", "_law_most"] (sp_draw K) := by
  refine T.F_draw.ok sc_draw (fun vs H Q E h => ?_) (fun cdv A outer s H vs Q E hr h => ?_)
  · obtain ⟨d, l, m, n, rfl, _⟩ := h
    rfl
  · obtain ⟨d, l, m, n, rfl, D, hn, hm0, hm1, q⟩ := h
    obtain ⟨ne, cs, y, z, hd, hl, hcs, hz0, hz1⟩ := D
    refine ⟨_, (pss_cons (ps_set (i := 2) sc_draw.nd rfl (by first | exact .inl rfl | exact .inr rfl) (pe_ix ix_list (pv 0) pe_int (fun _ _ => rfl))) (pss_cons (ps_if (pt_cut (pw_and (pt_cmpR (op_neD hr.units) (pv 2) (pe_lst pa_nil) (nomark _)) (pw_and1 (pt_cmpR op_ge (pe_ix ix_list (pv 2) pe_int (fun _ _ => rfl)) (pe_op op_pow pe_int pe_int) (nomark _)))).pt) (pss_cons (ps_set (i := 3) sc_draw.nd rfl (by first | exact .inl rfl | exact .inr rfl) (pe_op op_mod (pe_ix ix_list (pv 2) pe_int (fun _ _ => rfl)) (pv 1))) (pss_cons (ps_asg (pe_op op_fdiv (pe_ix ix_list (pv 2) pe_int (fun _ _ => rfl)) (pv 1)) (pg_sub (pv 2) pe_int set_list)) (pss_one (ps_ret (pv 3))))) pss_nil) (pss_cons (ps_asg (pe_op op_add (pe_ix ix_list (pv 0) pe_int (fun _ _ => rfl)) pe_int) (pg_sub (pv 0) pe_int set_list)) (pss_cons (ps_set (i := 4) sc_draw.nd rfl (by first | exact .inl rfl | exact .inr rfl) (pe_ix ix_list (pv 0) pe_int (fun _ _ => rfl))) (C8.pss_cut (ps_if (pt_cmpR (op_neD hr.units) (pv 2) (pe_lst pa_nil) (nomark _)) (pss_one (ps_set (i := 4) sc_draw.nd rfl (by first | exact .inl rfl | exact .inr rfl) (pe_op op_add (pv 4) (pe_bm PySem.F.plainAttrs_list PySem.F.slot_list_pop PySem.F.type_list_pop mt_popAt (pv 2) (pa_cons pe_int pa_nil))))) pss_nil) (pss_cons (ps_set (i := 5) sc_draw.nd rfl (by first | exact .inl rfl | exact .inr rfl) (pe_op op_mod (pe_op op_add (pe_op op_add (pe_op op_mul (pe_op op_mod (pv 4) pe_int) pe_int) (pe_op op_mul pe_int (pe_ix ix_list (pv 0) pe_int (fun _ _ => rfl)))) pe_int) pe_int)) (pss_cons (ps_set (i := 5) sc_draw.nd rfl (by first | exact .inl rfl | exact .inr rfl) (pe_op op_mod (pe_op op_add (pe_op op_add (pe_op op_mul (pv 5) (pv 5)) (pe_op op_mul pe_int (pv 5))) (pe_ix ix_list (pv 0) pe_int (fun _ _ => rfl))) pe_int)) (pss_cons (ps_asg (pv 5) (pg_sub (pv 0) pe_int set_list)) (pss_one (ps_ret (pe_op op_mod (pe_op op_fdiv (pe_op op_mod (pe_op op_mul (pv 5) (pe_op op_add (pv 5) pe_int)) pe_int) pe_int) (pv 1)))))))))))), ?_⟩
    refine ⟨.ref d, rfl, d, _, 0, .ref l, rfl, rfl, SqL.of hd, rfl, ?_⟩
    refine ⟨fun b H' => Fr d l H H' ∧ H' d = some (.lst [.ref l, .int y, .int z]) ∧ H' l = some (.lst (cs.map V.int)) ∧ (b = true → ∃ c r, cs = c :: r), ?_, ?_⟩
    · refine ⟨.ref l, rfl, Nat.zero_le _, fun p np => ?_⟩
      have fr2 : Fr d l H (upd H p (.lst [])) := Fr.new np
      have hd2 : (upd H p (.lst [])) d = some (.lst [.ref l, .int y, .int z]) := same_upd np _ _ hd
      have hl2 : (upd H p (.lst [])) l = some (.lst (cs.map V.int)) := same_upd np _ _ hl
      refine ⟨.list (cs.map .int), .list [], .lst (SqL.of hl2) (dpInts cs), .lst (SqL.of upd_same) .nil, shInts cs, rfl, _, rfl, ?_⟩
      rw [ne_list]
      cases cs with
      | nil => exact iteF ⟨fr2, hd2, hl2, fun e => by cases e⟩
      | cons c r =>
        refine iteT ?_
        refine ⟨.ref l, rfl, l, _, 0, .int c, rfl, rfl, SqL.of hl2, at0 _ _, _, _, rfl, rfl, ⟨by decide, by decide, by decide⟩, _, _, rfl, rfl, _, rfl, ?_⟩
        exact ⟨fr2, hd2, hl2, fun _ => ⟨c, r, rfl⟩⟩
    · rintro b H1 ⟨fr1, hd1, hl1, hb⟩
      cases b with
      | true =>
        obtain ⟨c, r, rfl⟩ := hb rfl
        refine iteT ?_
        refine ⟨.ref l, rfl, l, _, 0, .int c, rfl, rfl, SqL.of hl1, at0 _ _, .int m, rfl, _, _, rfl, rfl, hm0, ?_⟩
        refine ⟨.ref l, rfl, l, _, 0, .int c, rfl, rfl, SqL.of hl1, at0 _ _, .int m, rfl, _, _, rfl, rfl, ⟨hm0, hm1⟩, .ref l, rfl, l, _, 0, 0, rfl, rfl, hl1, ixN0 _ _, ?_⟩
        refine ⟨.int (c % m), rfl, ?_⟩
        exact q _ _ ⟨ne, c / m :: r, y, z, by rw [upd_ne ne]; exact hd1, upd_same, hcs, hz0, by omega⟩ (fr1.trans Fr.l) (Int.emod_nonneg _ (by omega)) (Int.emod_lt_of_pos _ hm0)
      | false =>
        refine iteF ?_
        refine ⟨.ref d, rfl, d, _, 2, .int z, rfl, rfl, SqL.of hd1, rfl, z, 1, rfl, rfl, .ref d, rfl, d, _, 2, 2, rfl, rfl, hd1, rfl, ?_⟩
        have hd2 : (upd H1 d (.lst [.ref l, .int y, .int (z + 1)])) d = some (.lst [.ref l, .int y, .int (z + 1)]) := upd_same
        have hl2 : (upd H1 d (.lst [.ref l, .int y, .int (z + 1)])) l = some (.lst (cs.map V.int)) := by rw [upd_ne ne.symm]; exact hl1
        have fr2 : Fr d l H (upd H1 d (.lst [.ref l, .int y, .int (z + 1)])) := fr1.trans Fr.d
        have hz2 : 0 ≤ z + 1 := by omega
        have hz3 : z + 1 ≤ n + 1 := by omega
        have hz4 : z + 1 < 2000000000 := by omega
        show tSeq _ _ _ _ (upd H1 d (.lst [.ref l, .int y, .int (z + 1)]))
        revert hd2 hl2 fr2 hz2 hz3 hz4
        generalize upd H1 d (.lst [.ref l, .int y, .int (z + 1)]) = H2
        generalize z + 1 = z'
        intro hd2 hl2 fr2 hz2 hz3 hz4
        refine ⟨.ref d, rfl, d, _, 1, .int y, rfl, rfl, SqL.of hd2, rfl, ?_⟩
        refine ⟨fun σ H' => ∃ (x : Int) (cs : List Int), σ = [some (.ref d), some (.int m), some (.ref l), none, some (.int x), none] ∧ cs.length ≤ 63 ∧ H' d = some (.lst [.ref l, .int y, .int z']) ∧ H' l = some (.lst (cs.map V.int)) ∧ Fr d l H H', ?_, ?_⟩
        · refine ⟨.ref l, rfl, Nat.zero_le _, fun p np => ?_⟩
          have fr3 : Fr d l H (upd H2 p (.lst [])) := fr2.trans (Fr.new np)
          have hd3 : (upd H2 p (.lst [])) d = some (.lst [.ref l, .int y, .int z']) := same_upd np _ _ hd2
          have hl3 : (upd H2 p (.lst [])) l = some (.lst (cs.map V.int)) := same_upd np _ _ hl2
          refine ⟨.list (cs.map .int), .list [], .lst (SqL.of hl3) (dpInts cs), .lst (SqL.of upd_same) .nil, shInts cs, rfl, _, rfl, ?_⟩
          rw [ne_list]
          revert fr3 hd3 hl3
          generalize upd H2 p (.lst []) = H3
          intro fr3 hd3 hl3
          cases cs with
          | nil => exact iteF ⟨y, [], rfl, hcs, hd3, hl3, fr3⟩
          | cons c r =>
            refine iteT ?_
            have hr63 : r.length + 1 ≤ 63 := hcs
            refine ⟨.int y, rfl, .ref l, rfl, .inl ⟨rfl, _, SqL.of hl3⟩, l, _, 0, 0, .int c, rfl, rfl, hl3, by decide, by decide, seqIx0 _ _, rfl, _, _, rfl, rfl, ?_⟩
            exact ⟨_, r, rfl, by omega, by rw [upd_ne ne]; exact hd3, upd_same, fr3.trans Fr.l⟩
        · rintro σ H3 ⟨x, cs3, rfl, hcs3, hd3, hl3, fr3⟩
          have u0 := Int.emod_nonneg x (show (2147483629 : Int) ≠ 0 by decide)
          have u1 := Int.emod_lt_of_pos x (show (0 : Int) < 2147483629 by decide)
          refine ⟨.int x, rfl, _, _, rfl, rfl, p29, x % 2147483629, 48271, rfl, rfl, .inl ⟨by omega, by omega⟩, .ref d, rfl, d, _, 2, .int z', rfl, rfl, SqL.of hd3, rfl, 69621, z', rfl, rfl, .inl ⟨by decide, by decide⟩, _, _, rfl, rfl, _, _, rfl, rfl, _, _, rfl, rfl, p47, ?_⟩
          dsimp only
          have v0 := Int.emod_nonneg (x % 2147483629 * 48271 + 69621 * z' + 7919) (show (2147483647 : Int) ≠ 0 by decide)
          have v1 := Int.emod_lt_of_pos (x % 2147483629 * 48271 + 69621 * z' + 7919) (show (0 : Int) < 2147483647 by decide)
          revert v0 v1
          generalize (x % 2147483629 * 48271 + 69621 * z' + 7919) % 2147483647 = v
          intro v0 v1
          refine ⟨.int v, rfl, .int v, rfl, v, v, rfl, rfl, .inl ⟨by omega, by omega⟩, .int v, rfl, 39373, v, rfl, rfl, .inl ⟨by decide, by decide⟩, _, _, rfl, rfl, .ref d, rfl, d, _, 2, .int z', rfl, rfl, SqL.of hd3, rfl, _, _, rfl, rfl, _, _, rfl, rfl, p87, ?_⟩
          dsimp only
          have t0 := Int.emod_nonneg (v * v + 39373 * v + z') (show (2147483587 : Int) ≠ 0 by decide)
          have t1 := Int.emod_lt_of_pos (v * v + 39373 * v + z') (show (0 : Int) < 2147483587 by decide)
          revert t0 t1
          generalize (v * v + 39373 * v + z') % 2147483587 = t
          intro t0 t1
          refine ⟨.int t, rfl, .ref d, rfl, d, _, 1, 1, rfl, rfl, hd3, rfl, ?_⟩
          refine ⟨.int t, rfl, .int t, rfl, _, _, rfl, rfl, t, t + 16807, rfl, rfl, .inl ⟨by omega, by omega⟩, _, _, rfl, rfl, p63, _, _, rfl, rfl, ⟨by decide, by decide⟩, .int m, rfl, _, _, rfl, rfl, hm0, ?_⟩
          exact q _ _ ⟨ne, cs3, t, z', upd_same, by rw [upd_ne ne.symm]; exact hl3, hcs3, hz2, hz3⟩ (fr3.trans Fr.d) (Int.emod_nonneg _ (by omega)) (Int.emod_lt_of_pos _ hm0)

/-! ### how many, rows -/
theorem at2i (b : Bool) (i j : Int) : atI [V.int i, .int j] (if b = true then 1 else 0) = some (.int (if b = true then j else i)) := by cases b <;> rfl
theorem Fr.upd {d l p : Addr} {H H' : Hp} {o : HO} (f : Fr d l H H') (h : H p = none) : Fr d l H (upd H' p o) := fun b u h1 h2 e => by
  rw [upd_ne (ne_of_none e h)]
  exact f b u h1 h2 e
def sp_many (K : PySem.W.Frag) : Sp := fun vs H Q _ => ∃ (d l : Addr) (n : Int), vs = [.ref d] ∧ DeckD H d l n ∧ n < 900000 ∧ ∀ (m : Nat) (H' : Hp), DeckD H' d l (n + 2) → Fr d l H H' → 1 ≤ m → m ≤ 6 → Q (.int m) H'
theorem ok_many (T : Tx K mg) : FnOk P w K mg base CX0 2 T.f_many T.fd_many ["_law_deck_here"] (sp_many K) := by
  refine T.F_many.ok sc_many (fun vs H Q E h => ?_) (fun cdv A outer s H vs Q E hr h => ?_)
  · obtain ⟨d, l, n, rfl, _⟩ := h
    rfl
  · obtain ⟨d, l, n, rfl, D, hn, q⟩ := h
    refine ⟨_, (pss_cons (ps_set (i := 1) sc_many.nd rfl (by first | exact .inl rfl | exact .inr rfl) (pe_call (ok_draw T) (hr.mono (by decide)) (by rfl) T.g_draw T.F_draw.kp T.b_draw .nil pass0 (pa_cons (pv 0) (pa_cons pe_int pa_nil)))) (pss_cons (ps_if (pt_cmpR op_gt (pv 1) pe_int (nomark _)) (pss_one (ps_ret pe_int)) pss_nil) (pss_one (ps_ret (pe_op op_add (pe_ix ix_list (pe_lst (pa_cons pe_int (pa_cons pe_int pa_nil))) (pe_callTy call_int1 (by rfl) T.m_int (by decide +kernel) (pa_cons (pe_cmpR op_gt (pv 1) pe_int (nomark _)) pa_nil)) (fun _ _ => rfl)) (pe_call (ok_draw T) (hr.mono (by decide)) (by rfl) T.g_draw T.F_draw.kp T.b_draw .nil pass0 (pa_cons (pv 0) (pa_cons (pe_ix ix_list (pe_lst (pa_cons pe_int (pa_cons pe_int pa_nil))) (pe_callTy call_int1 (by rfl) T.m_int (by decide +kernel) (pa_cons (pe_cmpR op_gt (pv 1) pe_int (nomark _)) pa_nil)) (fun _ _ => rfl)) pa_nil)))))))), ?_⟩
    refine ⟨.ref d, rfl, d, l, 8, _, rfl, D, by omega, by decide, by decide, fun H1 x D1 fr1 x0 x1 => ?_⟩
    refine ⟨.int x, rfl, _, _, rfl, rfl, _, rfl, ite2 (fun _ => ?_) (fun _ => ?_)⟩
    · exact q 6 H1 (D1.mono (by omega)) fr1 (by decide) (by decide)
    · refine ⟨sl2, fun p np => ⟨.int x, rfl, _, _, rfl, rfl, .inr ⟨_, rfl, p, _, _, _, rfl, rfl, SqL.of upd_same, at2i _ _ _, .ref d, rfl, sl2, fun p2 np2 => ⟨.int x, rfl, _, _, rfl, rfl, .inr ⟨_, rfl, p2, _, _, _, rfl, rfl, SqL.of upd_same, at2i _ _ _, ?_⟩⟩⟩⟩⟩
      generalize decide (x > 2) = b
      have s1 := same_upd (o := HO.lst [V.int 1, V.int 3]) np
      have s2 := same_upd (o := HO.lst [V.int 4, V.int 3]) np2
      refine ⟨d, l, _, _, rfl, (D1.same s1).same s2, by omega, by cases b <;> decide, by cases b <;> decide, fun H3 y D3 fr3 y0 y1 => ⟨_, _, rfl, rfl, ?_⟩⟩
      obtain ⟨k, rfl⟩ := Int.eq_ofNat_of_zero_le y0
      have e : ((if b = true then 3 else 1 : Int) + (k : Int)) = (((if b = true then 3 else 1) + k : Nat) : Int) := by cases b <;> rfl
      show Q (.int ((if b = true then 3 else 1 : Int) + (k : Int))) H3
      rw [e]
      refine q _ H3 (D3.mono (by omega)) (fr1.trans ((Fr.of s1).trans ((Fr.of s2).trans fr3))) ?_ ?_
      · cases b
        · show 1 ≤ 1 + k; omega
        · show 1 ≤ 3 + k; omega
      · cases b
        · have : (k : Int) < 4 := y1
          show 1 + k ≤ 6; omega
        · have : (k : Int) < 3 := y1
          show 3 + k ≤ 6; omega
def sp_row (K : PySem.W.Frag) : Sp := fun vs H Q _ => ∃ (d l : Addr) (n : Int) (m : Nat), vs = [.ref d, .int m] ∧ DeckD H d l n ∧ n < 900000 ∧ m ≤ 6 ∧ ∀ (p : Addr) (bs : List Int) (H' : Hp), DeckD H' d l (n + m) → Fr d l H H' → bs.length = m → (∀ b ∈ bs, b = 0 ∨ b = 1) → H' p = some (.tup (bs.map V.int)) → Q (.ref p) H'
theorem ok_row (T : Tx K mg) : FnOk P w K mg base CX0 2 T.f_row T.fd_row ["_law_deck_here", "_law_many_here"] (sp_row K) := by
  refine T.F_row.ok sc_row (fun vs H Q E h => ?_) (fun cdv A outer s H vs Q E hr h => ?_)
  · obtain ⟨d, l, n, m, rfl, _⟩ := h
    rfl
  · obtain ⟨d, l, n, m, rfl, D, hn, hm, q⟩ := h
    refine ⟨_, (pss_one (ps_ret (pe_callTy call_tuple_of (by rfl) T.m_tuple (by decide +kernel) (pa_cons (pe_lc (own := [("_law_k", 2)]) (by rfl) sc_row.nd (pi_range1 (by rfl) T.m_range (pa_cons (pv 1) pa_nil)) (blkOk_by (own := [("_law_k", 2)]) (N := ["_law_deck_here", "_law_many_here", "_law_k"]) (sc := defScope s_row) (by decide +kernel)) (fun _ _ _ _ _ => (pg_name (i := 2) sc_row.nd rfl (by first | exact .inl rfl | exact .inr rfl))) (fun _ _ _ _ _ => pts_nil) (fun _ _ _ _ _ => (pe_call (ok_draw T) (hr.mono (by decide)) (by rfl) T.g_draw T.F_draw.kp T.b_draw .nil pass0 (pa_cons (pv 0) (pa_cons pe_int pa_nil))))) pa_nil)))), ?_⟩
    refine ⟨.int m, rfl, m, rfl, by omega, by omega, fun I nI => ?_⟩
    have oI := D.off nI
    refine lc_range (lo := 0) (n := (m : Int).toNat) (fun j H' => DeckD H' d l (n + j) ∧ Fr d l H H' ∧ ∃ bs : List Int, H' I = some (.lst (bs.map V.int)) ∧ bs.length = j ∧ ∀ b ∈ bs, b = 0 ∨ b = 1)
      ⟨(D.same (same_upd nI)).mono (by omega), Fr.new nI, [], upd_same, rfl, fun x hx => by cases hx⟩ ?_ ?_
    · rintro j H2 hj ⟨D2, fr2, bs, hI, lb, okb⟩
      have hj' : j < m := by simpa using hj
      refine ⟨rfl, .ref d, rfl, d, l, 2, _, rfl, D2, by omega, by decide, by decide, fun H3 x D3 fr3 x0 x1 => ?_⟩
      have hI3 := fr3 _ _ oI.1 oI.2 hI
      refine ⟨_, hI3, ?_, (D3.upd oI.1 oI.2).mono (by push_cast; omega), Fr.upd (fr2.trans fr3) nI, bs ++ [x], ?_, by rw [List.length_append, lb]; rfl, fun y hy => ?_⟩
      · rw [List.length_map, lb]
        exact Nat.lt_of_lt_of_le (show j < 64 by omega) (by decide)
      · rw [upd_same, List.map_append]
        rfl
      · rcases List.mem_append.mp hy with z | z
        · exact okb y z
        · rw [List.mem_singleton.mp z]; omega
    · rintro H2 ⟨D2, fr2, bs, hI, lb, okb⟩
      have lb' : bs.length = m := by rw [lb]; simp
      refine ⟨I, _, rfl, .inl ⟨SqL.of hI, fun ti nti => ?_⟩⟩
      have s2 := same_upd (o := HO.tup (bs.map V.int)) nti
      exact q ti bs _ ((D2.same s2).mono (by simp)) (fr2.trans (Fr.of s2)) lb' okb upd_same

/-! ### products -/
def one (c : Nat) : Str := SX.S [c]
theorem one_len (c : Nat) : (one c).length = 1 := rfl
theorem joinL_nil : ∀ l : List (List Nat), TL.joinL [] l = l.flatten
  | [] => rfl
  | [p] => by simp [TL.joinL]
  | p :: q :: r => by
    show p ++ ([] ++ TL.joinL [] (q :: r)) = _
    rw [joinL_nil (q :: r)]
    rfl
theorem join_one (cs : List Nat) : Txt.join (Str.ofString "") (cs.map one) = SX.S cs := by
  have e : cs.map one = (cs.map fun c => [c]).map SX.S := by rw [List.map_map]; rfl
  have z : Str.ofString "" = SX.S [] := by decide +kernel
  rw [e, z, SX.join_S, joinL_nil]
  have : (cs.map fun c => [c]).flatten = cs := by
    clear e z
    induction cs with
    | nil => rfl
    | cons b r ih => rw [List.map_cons, List.flatten_cons, ih]; rfl
  rw [this]
theorem ones_sum (cs : List Nat) : ((cs.map one).map (·.length)).sum = cs.length := by
  induction cs with
  | nil => rfl
  | cons b r ih =>
    rw [List.map_cons, List.map_cons, List.sum_cons, ih, List.length_cons, one_len]
    omega
theorem join_fit {cs : List Nat} (h : cs.length ≤ 64) : ((cs.map one).map (·.length)).sum + (cs.map one).length * (Str.ofString "").length ≤ 16777216 := by
  rw [ones_sum]
  show cs.length + (cs.map one).length * 0 ≤ _
  omega
def SgOk (c : Nat) : Prop := c = 45 ∨ c = 48 ∨ c = 49
def ProdOk (m : Nat) (p : List Nat) : Prop := p.length = m ∧ ∀ c ∈ p, SgOk c
theorem dash_S : Str.ofString "-" = one 45 := by decide +kernel
theorem s8_S : Str.ofString "01-01---" = SX.S [48, 49, 45, 48, 49, 45, 45, 45] := by decide +kernel
theorem it8 : ∀ k : Nat, k < 8 → ∃ c, (SX.S [48, 49, 45, 48, 49, 45, 45, 45]).cps[k]? = some c ∧ SgOk c := by
  intro k h
  rcases k with _ | _ | _ | _ | _ | _ | _ | _ | k
  · exact ⟨48, rfl, .inr (.inl rfl)⟩
  · exact ⟨49, rfl, .inr (.inr rfl)⟩
  · exact ⟨45, rfl, .inl rfl⟩
  · exact ⟨48, rfl, .inr (.inl rfl)⟩
  · exact ⟨49, rfl, .inr (.inr rfl)⟩
  · exact ⟨45, rfl, .inl rfl⟩
  · exact ⟨45, rfl, .inl rfl⟩
  · exact ⟨45, rfl, .inl rfl⟩
  · omega
theorem at6 {x : Int} (h0 : 0 ≤ x) (h1 : x < 6) : ∃ v : Int, atI [V.int 6, .int 4, .int 3, .int 8, .int 8, .int 5] x = some (.int v) ∧ 0 < v ∧ v ≤ 8 := by
  obtain ⟨k, rfl⟩ := Int.eq_ofNat_of_zero_le h0
  have hk : k < 6 := by omega
  rcases k with _ | _ | _ | _ | _ | _ | k
  · exact ⟨6, rfl, by decide, by decide⟩
  · exact ⟨4, rfl, by decide, by decide⟩
  · exact ⟨3, rfl, by decide, by decide⟩
  · exact ⟨8, rfl, by decide, by decide⟩
  · exact ⟨8, rfl, by decide, by decide⟩
  · exact ⟨5, rfl, by decide, by decide⟩
  · omega
theorem mul_dash {m : Nat} (h1 : 1 ≤ m) (h6 : m ≤ 6) : Txt.mul (one 45) (m : Int) = SX.S (List.replicate m 45) := by
  rcases m with _ | _ | _ | _ | _ | _ | _ | m
  · omega
  all_goals first | decide +kernel | omega
def wS (b : Int) : Nat := if b = 1 then 49 else 48
theorem str01 {b : Int} (h : b = 0 ∨ b = 1) : (toString b : Str) = one (wS b) := by
  rcases h with rfl | rfl <;> decide +kernel
def rRepS : V → V → Hp → VK → Prop := fun x y H Q => ∃ (z : Str) (n : Int), x = .str z ∧ y = .int n ∧ z.length ≤ 16 ∧ 0 ≤ n ∧ n ≤ 1048576 ∧ Q (.str (Txt.mul z n)) H
theorem op_repS {X : Cx} : OpR X (binaryOp .Mult) rRepS := by
  intro pins s σ H x y v u Q I rx ry h
  obtain ⟨i, j, rfl, rfl, h1, h2, h3, q⟩ := h
  obtain ⟨t, rfl⟩ := rx
  obtain ⟨t', rfl⟩ := ry
  exact SB.mul (mulOk_of 16 1048576 h1 h3 (by omega) (by decide) (by decide)) fun t' tk => ⟨.str _, H, I.tok _, ⟨_, rfl⟩, q⟩
def sp_product (K : PySem.W.Frag) : Sp := fun vs H Q _ => ∃ (d l : Addr) (n : Int) (m : Nat), vs = [.ref d, .int m] ∧ DeckD H d l n ∧ n < 800000 ∧ 1 ≤ m ∧ m ≤ 6 ∧ ∀ (p : List Nat) (H' : Hp), DeckD H' d l (n + 8) → Fr d l H H' → ProdOk m p → Q (.str (SX.S p)) H'
theorem ok_product (T : Tx K mg) : FnOk P w K mg base CX0 3 T.f_product T.fd_product ["_law_deck_here", "_law_many_here"] (sp_product K) := by
  refine T.F_product.ok sc_product (fun vs H Q E h => ?_) (fun cdv A outer s H vs Q E hr h => ?_)
  · obtain ⟨d, l, n, m, rfl, _⟩ := h
    rfl
  · obtain ⟨d, l, n, m, rfl, D, hn, m1, m6, q⟩ := h
    refine ⟨_, (pss_cons (ps_set (i := 2) sc_product.nd rfl (by first | exact .inl rfl | exact .inr rfl) (pe_call (ok_draw T) (hr.mono (by decide)) (by rfl) T.g_draw T.F_draw.kp T.b_draw .nil pass0 (pa_cons (pv 0) (pa_cons pe_int pa_nil)))) (pss_cons (ps_if (pt_cmpR op_eq (pv 2) pe_int (nomark _)) (pss_one (ps_ret (pe_join pe_str (pe_lc (own := [("_law_worth", 4)]) (by rfl) sc_product.nd (pi_tup (pe_call (ok_row T) (hr.mono (by decide)) (by rfl) T.g_row T.F_row.kp T.b_row .nil pass0 (pa_cons (pv 0) (pa_cons (pv 1) pa_nil)))) (blkOk_by (own := [("_law_worth", 4)]) (N := ["_law_deck_here", "_law_many_here", "_law_way", "_law_k", "_law_worth"]) (sc := defScope s_product) (by decide +kernel)) (fun _ _ _ _ _ => (pg_name (i := 4) sc_product.nd rfl (by first | exact .inl rfl | exact .inr rfl))) (fun _ _ _ _ _ => pts_nil) (fun _ _ _ _ _ => (pe_callTy call_str_int (by rfl) T.m_str (by decide +kernel) (pa_cons (pv 4) pa_nil))))))) pss_nil) (pss_cons (ps_if (pt_cut (pw_and (pt_cmpR op_eq (pv 2) pe_int (nomark _)) (pw_and1 (pt_cmpR op_eq (pe_call (ok_draw T) (hr.mono (by decide)) (by rfl) T.g_draw T.F_draw.kp T.b_draw .nil pass0 (pa_cons (pv 0) (pa_cons pe_int pa_nil))) pe_int (nomark _)))).pt) (pss_one (ps_ret (pe_op op_repS pe_str (pv 1)))) pss_nil) (pss_one (ps_ret (pe_join pe_str (pe_lc (own := [("_law_k", 3)]) (by rfl) sc_product.nd (pi_range1 (by rfl) T.m_range (pa_cons (pv 1) pa_nil)) (blkOk_by (own := [("_law_k", 3)]) (N := ["_law_deck_here", "_law_many_here", "_law_way", "_law_k", "_law_worth"]) (sc := defScope s_product) (by decide +kernel)) (fun _ _ _ _ _ => (pg_name (i := 3) sc_product.nd rfl (by first | exact .inl rfl | exact .inr rfl))) (fun _ _ _ _ _ => pts_nil) (fun _ _ _ _ _ => (pe_item_str pe_str (pe_call (ok_draw T) (hr.mono (by decide)) (by rfl) T.g_draw T.F_draw.kp T.b_draw .nil pass0 (pa_cons (pv 0) (pa_cons (pe_ix (show IxR _ (rIxL K) from ix_list) (pe_lst (pa_cons pe_int (pa_cons pe_int (pa_cons pe_int (pa_cons pe_int (pa_cons pe_int (pa_cons pe_int pa_nil))))))) (pv 2) (fun _ _ => rfl)) pa_nil))) (fun _ _ => rfl)))))))))), ?_⟩
    refine ⟨.ref d, rfl, d, l, 6, _, rfl, D, by omega, by decide, by decide, fun H1 x D1 fr1 x0 x1 => ?_⟩
    refine ⟨.int x, rfl, rfl, _, rfl, ite2 (fun _ => ?_) (fun _ => ?_)⟩
    · refine ⟨⟨_, rfl⟩, .ref d, rfl, .int m, rfl, d, l, _, m, rfl, D1, by omega, m6, fun p bs H2 D2 fr2 lb okb hp => ?_⟩
      refine ⟨p, rfl, ⟨_, SqT.of hp⟩, fun L nL => ?_⟩
      have oL := D2.off nL
      have npL : p ≠ L := ne_of_none hp nL
      refine lc_tup (K := K) (a := p) (xs := bs.map V.int) (fun j H' => DeckD H' d l (n + 7) ∧ Fr d l H H' ∧ H' p = some (.tup (bs.map V.int)) ∧ H' L = some (.lst ((((bs.take j).map wS).map one).map V.str)))
        ⟨(D2.same (same_upd nL)).mono (by omega), (fr1.trans fr2).trans (Fr.new nL), same_upd nL _ _ hp, upd_same⟩ (fun j H' _ z => SqT.of z.2.2.1) ?_ ?_
      · rintro j v H3 hv ⟨D3, fr3, hp3, hL⟩
        obtain ⟨b, hb, rfl⟩ : ∃ b, bs[j]? = some b ∧ v = V.int b := by
          rw [List.getElem?_map] at hv
          cases hz : bs[j]? with
          | none => rw [hz] at hv; cases hv
          | some u => rw [hz] at hv; exact ⟨u, rfl, (Option.some.inj hv).symm⟩
        have hb01 := okb b (List.mem_of_getElem? hb)
        refine ⟨rfl, .int b, rfl, b, rfl, by rcases hb01 with rfl | rfl <;> decide, ?_⟩
        rw [str01 hb01]
        refine ⟨_, hL, ?_, D3.upd oL.1 oL.2, ?_, by rw [upd_ne npL]; exact hp3, ?_⟩
        · rw [List.length_map, List.length_map, List.length_map, List.length_take]
          exact Nat.lt_of_lt_of_le (show _ < 64 by omega) (by decide)
        · intro b' u h1 h2 e
          by_cases z : b' = L
          · subst z
            have h0 := (fr1.trans fr2) _ _ h1 h2 e
            rw [nL] at h0; cases h0
          · rw [upd_ne z]; exact fr3 _ _ h1 h2 e
        · rw [upd_same, List.take_add_one, hb]
          simp
      · rintro H3 ⟨D3, fr3, hp3, hL⟩
        rw [List.length_map, List.take_length] at hL
        refine ⟨Str.ofString "", L, (bs.map wS).map one, rfl, rfl, .inl (SqL.of hL), join_fit (by rw [List.length_map]; omega), ?_⟩
        rw [join_one]
        refine q _ H3 (D3.mono (by omega)) fr3 ⟨by rw [List.length_map, lb], fun c hc => ?_⟩
        obtain ⟨b, hb, rfl⟩ := List.mem_map.mp hc
        rcases okb b hb with rfl | rfl
        · exact .inr (.inl rfl)
        · exact .inr (.inr rfl)
    · refine ⟨fun _ H' => DeckD H' d l (n + 2) ∧ Fr d l H H', ?_, ?_⟩
      · refine ⟨.int x, rfl, rfl, _, rfl, ite2 (fun _ => ?_) (fun _ => ⟨D1.mono (by omega), fr1⟩)⟩
        refine ⟨.ref d, rfl, d, l, 4, _, rfl, D1, by omega, by decide, by decide, fun H2 y D2 fr2 y0 y1 => ⟨rfl, _, rfl, D2.mono (by omega), fr1.trans fr2⟩⟩
      · rintro b H2 ⟨D2, fr2⟩
        refine ite2 (fun _ => ?_) (fun _ => ?_)
        · refine ⟨.int m, rfl, _, _, rfl, rfl, (by rw [dash_S]; decide), by omega, by omega, ?_⟩
          rw [dash_S, mul_dash m1 m6]
          exact q _ H2 (D2.mono (by omega)) fr2 ⟨List.length_replicate, fun c hc => .inl (List.mem_replicate.mp hc).2⟩
        · refine ⟨⟨_, rfl⟩, .int m, rfl, m, rfl, by omega, by omega, fun L nL => ?_⟩
          have oL := D2.off nL
          have nL0 : H L = none := none_of_frD fr2 D2 nL
          refine lc_range (lo := 0) (n := (m : Int).toNat) (fun j H' => DeckD H' d l (n + 2 + j) ∧ Fr d l H H' ∧ ∃ cs : List Nat, cs.length = j ∧ (∀ c ∈ cs, SgOk c) ∧ H' L = some (.lst ((cs.map one).map V.str)))
            ⟨(D2.same (same_upd nL)).mono (by omega), fr2.trans (Fr.new nL), [], rfl, (fun c hc => by cases hc), upd_same⟩ ?_ ?_
          · rintro j H3 hj ⟨D3, fr3, cs, lc, okc, hL⟩
            have hj' : j < m := by simpa using hj
            refine ⟨rfl, .ref d, rfl, show 6 ≤ sizeLine by decide, fun q6 n6 => ?_⟩
            have s6 := same_upd (o := HO.lst [V.int 6, .int 4, .int 3, .int 8, .int 8, .int 5]) n6
            have hL6 := s6 _ _ hL
            obtain ⟨v, ev, v0, v8⟩ := at6 x0 x1
            refine ⟨.int x, rfl, q6, _, _, .int v, rfl, rfl, SqL.of upd_same, ev, d, l, v, _, rfl, D3.same s6, by omega, v0, by omega, fun H7 y D7 fr7 y0 y1 => ?_⟩
            have hL7 := fr7 _ _ oL.1 oL.2 hL6
            obtain ⟨c, hc, okc'⟩ := it8 y.toNat (by omega)
            refine ⟨Str.ofString "01-01---", y, c, rfl, rfl, y0, by omega, by rw [s8_S, SX.S_len]; show y < 8; omega, by rw [s8_S]; exact hc, _, hL7, ?_, (D7.upd oL.1 oL.2).mono (by push_cast; omega), Fr.upd ((fr3.trans (Fr.of s6)).trans fr7) nL0, cs ++ [c], by rw [List.length_append, lc]; rfl, fun z hz => ?_, ?_⟩
            · rw [List.length_map, List.length_map, lc]
              exact Nat.lt_of_lt_of_le (show j < 64 by omega) (by decide)
            · rcases List.mem_append.mp hz with z1 | z1
              · exact okc z z1
              · rw [List.mem_singleton.mp z1]; exact okc'
            · rw [upd_same, List.map_append, List.map_append]
              rfl
          · rintro H3 ⟨D3, fr3, cs, lc, okc, hL⟩
            have lc' : cs.length = m := by rw [lc]; simp
            refine ⟨Str.ofString "", L, cs.map one, rfl, rfl, .inl (SqL.of hL), join_fit (by omega), ?_⟩
            rw [join_one]
            exact q _ H3 (D3.mono (by have : ((m : Int).toNat : Int) ≤ 6 := by omega
                                      omega)) fr3 ⟨lc', okc⟩

end
end Gk

set_option Elab.async false
set_option linter.all false
set_option maxRecDepth 100000
set_option maxHeartbeats 1000000
set_option pp.maxSteps 1500
set_option pp.deepTerms false
namespace Gk
open PySem PySem.Spec PyProof.Rows L2

section
variable {P : Program} {w : World} {K : PySem.W.Frag} {mg : Str → Option Value} {base : Heap}
theorem str_dec (x y : Str) : decide (V.str x = V.str y) = decide (x = y) := by
  by_cases z : x = y
  · rw [decide_eq_true z, decide_eq_true (by rw [z])]
  · rw [decide_eq_false z, decide_eq_false (fun k => z (V.str.inj k))]
theorem one_inj {a b : Nat} : decide (one a = one b) = decide (a = b) := by
  by_cases z : a = b
  · rw [decide_eq_true z, decide_eq_true (by rw [z])]
  · rw [decide_eq_false z, decide_eq_false (fun k => z (by have := SX.S_inj k; simpa using this))]

/-! ### products: the program's own -/
def Row01' (r : List Int) : Prop := ∀ x ∈ r, x = 0 ∨ x = 1
def hall (p q : List Nat) : Bool := (p.zip q).all fun z => decide (z.1 = 45) || decide (z.1 = z.2)
def meetM (p q : List Nat) : Bool := (p.zip q).all fun z => decide (z.1 = 45) || decide (z.2 = 45) || decide (z.1 = z.2)
def rowS (r : List Int) : List Nat := r.map wS
def hrow (p : List Nat) (r : List Int) : Bool := hall p (rowS r)
def cubeM (a b : List Int) : List Nat := (a.zip b).map fun z => if z.1 = z.2 then wS z.1 else 45
theorem joinOk_ones (cs : List Nat) (h : cs.length ≤ 64) : JoinOk (Str.ofString "") (cs.map one) = true := by
  have key : ∀ (cs : List Nat) (n : Nat), (cs.map one).foldl (fun a t => a + t.length + (Str.ofString "").length) n = n + cs.length := by
    intro cs
    induction cs with
    | nil => intro n; rfl
    | cons c r ih =>
      intro n
      rw [List.map_cons, List.foldl_cons, ih, List.length_cons]
      show n + 1 + 0 + r.length = n + (r.length + 1)
      omega
  unfold JoinOk
  rw [List.foldl_toArray', key]
  · unfold Builtin.Str.tooLong
    rw [decide_eq_false (show ¬ (0 + cs.length > sizeLine) by rw [sizeLine_eq]; omega)]
    rfl
  · simp
def sp_show_row (T : Tx K mg) : Sp := fun vs H Q _ => ∃ (a : Addr) (r : List Int), vs = [.ref a] ∧ H a = some (.tup (r.map V.int)) ∧ Row01' r ∧ r.length ≤ 6 ∧ Tabs H T.tabs ∧ ∀ H', Gr H H' → Q (.str (SX.S (rowS r))) H'
theorem ok_show_row (T : Tx K mg) (B : Tb base T) : FnOk P w K mg base CX0 2 T.f_show_row T.fd_show_row ["row"] (sp_show_row T) := by
  refine okC T.F_show_row sc_show_row (fun vs H Q E h => ?_) (fun A outer s H vs Q E hr h => ?_)
  · obtain ⟨a, r, rfl, _⟩ := h
    rfl
  · obtain ⟨a, r, rfl, ha, ok, l6, tabs, q⟩ := h
    refine ⟨_, (pss_one (ps_ret (GxJ.pe_joinX (own := [("worth", 1)]) (k := 0) (hr.mono (by decide)) rfl sc_show_row.nd pe_str B.TB_show_row T.cd_show_row rfl rfl (by decide +kernel) (blkOk_by (own := [("worth", 1)]) (N := ["row", "worth"]) (sc := defScope s_show_row) (by decide +kernel)) (pi_tup (pv 0)) (fun _ _ _ _ _ _ _ hr gd => (pg_name (i := 1) sc_show_row.nd rfl (by first | exact .inl rfl | exact .inr rfl))) (fun _ _ _ _ _ _ _ hr gd => pts_nil) (fun _ _ _ _ _ _ _ hr gd => (pe_callTy call_str_int (by rfl) T.m_str (by decide +kernel) (pa_cons (pv 1) pa_nil))) (fun _ => rfl)))), ?_⟩
    have tab : GxR.TabG H T.P_show_row := tabs _ (by simp [Tx.tabs])
    refine ⟨_, rfl, .ref a, rfl, a, rfl, ⟨_, SqT.of ha⟩, tab, fun H2 tb2 => ?_⟩
    have g2 := Gr.tab tab tb2
    refine gx_tup (K := K) (a := a) (xs := r.map V.int) (fun j ys H' => H' = H2 ∧ ys = ((rowS (r.take j)).map one).map V.str) ⟨rfl, rfl⟩ (fun j ys H' _ ⟨e, _⟩ => by rw [e]; exact SqT.of (g2.tup ha)) ?_ ?_
    · rintro j x ys H' hx ⟨rfl, rfl⟩
      obtain ⟨b, hb, rfl⟩ : ∃ b, r[j]? = some b ∧ x = V.int b := by
        rw [List.getElem?_map] at hx
        cases hz : r[j]? with
        | none => rw [hz] at hx; cases hx
        | some u => rw [hz] at hx; exact ⟨u, rfl, (Option.some.inj hx).symm⟩
      have hb01 := ok b (List.mem_of_getElem? hb)
      refine ⟨rfl, .int b, rfl, b, rfl, by rcases hb01 with rfl | rfl <;> decide, ?_⟩
      rw [str01 hb01]
      refine ⟨?_, rfl, ?_⟩
      · unfold rowS
        rw [List.length_map, List.length_map, List.length_map, List.length_take]
        exact Nat.lt_of_lt_of_le (show _ < 64 by omega) (by decide)
      · unfold rowS
        rw [List.take_add_one, hb]
        simp
    · rintro ys H' ⟨rfl, rfl⟩
      rw [List.length_map, List.take_length]
      refine ⟨(rowS r).map one, rfl, joinOk_ones _ (by unfold rowS; rw [List.length_map]; omega), ?_⟩
      rw [join_one]
      exact q _ g2
theorem S_list (p : List Nat) : (SX.S p).cps.toList.map (fun c => V.str ⟨#[c]⟩) = p.map fun c => V.str (one c) := by
  show (p.toArray.toList).map _ = _
  rw [List.toList_toArray]
  rfl
theorem at_tx {H : Hp} (p : List Nat) : (ZpG.ZS.tx (SX.S p)).at K H (p.map fun c => V.str (one c)) := (S_list p).symm
theorem one_at {p : List Nat} {i : Nat} {x : V} (h : (p.map fun c => V.str (one c))[i]? = some x) : ∃ c, p[i]? = some c ∧ x = V.str (one c) := by
  rw [List.getElem?_map] at h
  cases hz : p[i]? with
  | none => rw [hz] at h; cases h
  | some u => rw [hz] at h; exact ⟨u, rfl, (Option.some.inj h).symm⟩
theorem eqV_one (a b : Nat) : eqV (.str (one a)) (.str (one b)) = decide (a = b) := by
  show (one a == one b) = _
  by_cases z : a = b
  · subst z
    simp
  · rw [decide_eq_false z]
    refine beq_eq_false_iff_ne.mpr fun k => z ?_
    have := SX.S_inj k
    simpa using this
theorem zip_take_succ {α β : Type} {p : List α} {q : List β} {i : Nat} {a : α} {b : β} (h1 : p[i]? = some a) (h2 : q[i]? = some b) : (p.zip q).take (i + 1) = (p.zip q).take i ++ [(a, b)] := by
  rw [List.take_add_one]
  have : (p.zip q)[i]? = some (a, b) := by
    rw [List.getElem?_zip_eq_some]
    exact ⟨h1, h2⟩
  rw [this]
  rfl
theorem all_stop {α : Type} {l : List α} {f : α → Bool} {i : Nat} {a : α} (h : l.take (i + 1) = l.take i ++ [a]) (e : f a = false) : l.all f = false := by
  rw [← List.take_append_drop (i + 1) l, List.all_append, h, List.all_append]
  simp [e]
def sp_holds_all (T : Tx K mg) : Sp := fun vs H Q _ => ∃ (p q' : List Nat), vs = [.str (SX.S p), .str (SX.S q')] ∧ p.length = q'.length ∧ Tabs H T.tabs ∧ ∀ H', Gr H H' → Q (.bl (hall p q')) H'
theorem ok_holds_all (T : Tx K mg) (B : Tb base T) : FnOk P w K mg base CX0 2 T.f_holds_all T.fd_holds_all ["product", "other"] (sp_holds_all T) := by
  refine okC T.F_holds_all sc_holds_all (fun vs H Q E h => ?_) (fun A outer s H vs Q E hr h => ?_)
  · obtain ⟨p, q', rfl, _⟩ := h
    rfl
  · obtain ⟨p, q', rfl, hl, tabs, q⟩ := h
    refine ⟨_, (pss_one (ps_ret (pe_allX (own := [("sign", 2), ("held", 3)]) (k := 0) (hr.mono (by decide)) rfl sc_holds_all.nd (by rfl) T.m_all (by decide +kernel) B.TB_holds_all T.cd_holds_all rfl rfl (by decide +kernel) (blkOk_by (own := [("sign", 2), ("held", 3)]) (N := ["product", "other", "sign", "held"]) (sc := defScope s_holds_all) (by decide +kernel)) (ZpG.pi_zip2 (by rfl) T.m_zip (pa_cons (pv 0) (pa_cons (pv 1) pa_nil))) (fun _ _ _ _ _ _ _ hr gd => (show PG _ _ (gTup K 2 _) from pg_tup rfl (pgs_cons (pg_name (i := 2) sc_holds_all.nd rfl (by first | exact .inl rfl | exact .inr rfl)) (pgs_cons (pg_name (i := 3) sc_holds_all.nd rfl (by first | exact .inl rfl | exact .inr rfl)) pgs_nil)))) (fun _ _ _ _ _ _ _ hr gd => pts_nil) (fun _ _ _ _ _ _ _ hr gd => (pe_cmpR (show OpR _ _ (rIn K false) from op_in_seq) (pv 2) (pe_tup (pa_cons pe_str (pa_cons (pv 3) pa_nil))) rfl)) (fun _ => rfl)))), ?_⟩
    have tab : GxR.TabG H T.P_holds_all := tabs _ (by simp [Tx.tabs])
    refine ⟨.str (SX.S p), rfl, .str (SX.S q'), rfl, .tx (SX.S p), .tx (SX.S q'), _, _, rfl, at_tx p, at_tx q', tab, fun H2 tb2 => ?_⟩
    have g2 := Gr.tab tab tb2
    refine ZpG.gx_zip2 (K := K) (n := p.length) (xs1 := p.map fun c => V.str (one c)) (xs2 := q'.map fun c => V.str (one c)) (by rw [List.length_map]) (by rw [List.length_map, hl]) (fun j _ H' => Gr H H' ∧ ((p.zip q').take j).all (fun z => decide (z.1 = 45) || decide (z.1 = z.2)) = true) ⟨g2, rfl⟩ (fun j _ H' _ _ => ⟨at_tx p, at_tx q'⟩) ?_ ?_
    · rintro j x y t _ H' hx hy nt ⟨g, ih⟩
      obtain ⟨a, ha, rfl⟩ := one_at hx
      obtain ⟨b, hb, rfl⟩ := one_at hy
      have g' := g.trans (Gr.none (o := .tup [V.str (one a), V.str (one b)]) nt)
      have ez := zip_take_succ ha hb
      refine ⟨t, _, rfl, SqT.of upd_same, rfl, _, _, rfl, _, _, rfl, rfl, rfl, ?_⟩
      refine ⟨.str (one a), rfl, .str (one b), rfl, sl2, fun u nu => ?_⟩
      have g'' := g'.trans (Gr.none (o := .tup [V.str (Str.ofString "-"), V.str (one b)]) nu)
      refine ⟨u, _, rfl, .inr (SqT.of upd_same), rfl, rfl, ?_⟩
      have ev : (if false = true then !inV (.str (one a)) [V.str (Str.ofString "-"), V.str (one b)] else inV (.str (one a)) [V.str (Str.ofString "-"), V.str (one b)]) = (decide (a = 45) || decide (a = b)) := by
        show (eqV (.str (Str.ofString "-")) (.str (one a)) || (eqV (.str (one b)) (.str (one a)) || false)) = _
        rw [dash_S, eqV_one, eqV_one, Bool.or_false]
        congr 1
        · exact decide_eq_decide.mpr ⟨Eq.symm, Eq.symm⟩
        · exact decide_eq_decide.mpr ⟨Eq.symm, Eq.symm⟩
      refine ⟨_, rfl, ?_⟩
      rw [ev]
      refine ite2 (fun e => ⟨g'', ?_⟩) (fun e => ?_)
      · rw [ez, List.all_append, ih]
        simpa using e
      · have : hall p q' = false := all_stop (f := fun z : Nat × Nat => decide (z.1 = 45) || decide (z.1 = z.2)) ez (Bool.eq_false_iff.mpr e)
        have z := q _ g''
        rw [this] at z
        exact z
    · rintro _ H' ⟨g, ih⟩
      have : (p.zip q').length ≤ p.length := by rw [List.length_zip]; omega
      rw [List.take_of_length_le this] at ih
      have z := q H' g
      unfold hall at z
      rw [ih] at z
      exact z
def sp_meet (T : Tx K mg) : Sp := fun vs H Q _ => ∃ (p q' : List Nat), vs = [.str (SX.S p), .str (SX.S q')] ∧ p.length = q'.length ∧ Tabs H T.tabs ∧ ∀ H', Gr H H' → Q (.bl (meetM p q')) H'
theorem ok_meet (T : Tx K mg) (B : Tb base T) : FnOk P w K mg base CX0 2 T.f_meet T.fd_meet ["product", "other"] (sp_meet T) := by
  refine okC T.F_meet sc_meet (fun vs H Q E h => ?_) (fun A outer s H vs Q E hr h => ?_)
  · obtain ⟨p, q', rfl, _⟩ := h
    rfl
  · obtain ⟨p, q', rfl, hl, tabs, q⟩ := h
    refine ⟨_, (pss_one (ps_ret (pe_allX (own := [("one", 2), ("two", 3)]) (k := 0) (hr.mono (by decide)) rfl sc_meet.nd (by rfl) T.m_all (by decide +kernel) B.TB_meet T.cd_meet rfl rfl (by decide +kernel) (blkOk_by (own := [("one", 2), ("two", 3)]) (N := ["product", "other", "one", "two"]) (sc := defScope s_meet) (by decide +kernel)) (ZpG.pi_zip2 (by rfl) T.m_zip (pa_cons (pv 0) (pa_cons (pv 1) pa_nil))) (fun _ _ _ _ _ _ _ hr gd => (show PG _ _ (gTup K 2 _) from pg_tup rfl (pgs_cons (pg_name (i := 2) sc_meet.nd rfl (by first | exact .inl rfl | exact .inr rfl)) (pgs_cons (pg_name (i := 3) sc_meet.nd rfl (by first | exact .inl rfl | exact .inr rfl)) pgs_nil)))) (fun _ _ _ _ _ _ _ hr gd => pts_nil) (fun _ _ _ _ _ _ _ hr gd => (pe_or (pe_cmpR (show OpR _ _ (rIn K false) from op_in_seq) pe_str (pe_tup (pa_cons (pv 2) (pa_cons (pv 3) pa_nil))) rfl) (pe_one (pe_cmpR op_eq (pv 2) (pv 3) (nomark _))))) (fun _ => rfl)))), ?_⟩
    have tab : GxR.TabG H T.P_meet := tabs _ (by simp [Tx.tabs])
    refine ⟨.str (SX.S p), rfl, .str (SX.S q'), rfl, .tx (SX.S p), .tx (SX.S q'), _, _, rfl, at_tx p, at_tx q', tab, fun H2 tb2 => ?_⟩
    have g2 := Gr.tab tab tb2
    refine ZpG.gx_zip2 (K := K) (n := p.length) (xs1 := p.map fun c => V.str (one c)) (xs2 := q'.map fun c => V.str (one c)) (by rw [List.length_map]) (by rw [List.length_map, hl]) (fun j _ H' => Gr H H' ∧ ((p.zip q').take j).all (fun z => decide (z.1 = 45) || decide (z.2 = 45) || decide (z.1 = z.2)) = true) ⟨g2, rfl⟩ (fun j _ H' _ _ => ⟨at_tx p, at_tx q'⟩) ?_ ?_
    · rintro j x y t _ H' hx hy nt ⟨g, ih⟩
      obtain ⟨a, ha, rfl⟩ := one_at hx
      obtain ⟨b, hb, rfl⟩ := one_at hy
      have g' := g.trans (Gr.none (o := .tup [V.str (one a), V.str (one b)]) nt)
      have ez := zip_take_succ ha hb
      refine ⟨t, _, rfl, SqT.of upd_same, rfl, _, _, rfl, _, _, rfl, rfl, rfl, ?_⟩
      refine ⟨.str (one a), rfl, .str (one b), rfl, sl2, fun u nu => ?_⟩
      have g'' := g'.trans (Gr.none (o := .tup [V.str (one a), V.str (one b)]) nu)
      have fin : ∀ c : Bool, c = (decide (a = 45) || decide (b = 45) || decide (a = b)) → ∃ b_1, V.bl c = V.bl b_1 ∧ if b_1 = true then Gr H (upd (upd H' t (.tup [V.str (one a), V.str (one b)])) u (.tup [V.str (one a), V.str (one b)])) ∧ ((p.zip q').take (j + 1)).all (fun z => decide (z.1 = 45) || decide (z.2 = 45) || decide (z.1 = z.2)) = true else Q (.bl false) (upd (upd H' t (.tup [V.str (one a), V.str (one b)])) u (.tup [V.str (one a), V.str (one b)])) := fun c hc => by
        refine ⟨c, rfl, ?_⟩
        refine ite2 (fun e => ⟨g'', ?_⟩) (fun e => ?_)
        · rw [ez, List.all_append, ih]
          rw [hc] at e
          simpa using e
        · rw [hc] at e
          have : meetM p q' = false := all_stop (f := fun z : Nat × Nat => decide (z.1 = 45) || decide (z.2 = 45) || decide (z.1 = z.2)) ez (Bool.eq_false_iff.mpr e)
          have z := q _ g''
          rw [this] at z
          exact z
      have ev : (if false = true then !inV (.str (Str.ofString "-")) [V.str (one a), V.str (one b)] else inV (.str (Str.ofString "-")) [V.str (one a), V.str (one b)]) = (decide (a = 45) || decide (b = 45)) := by
        show (eqV (.str (one a)) (.str (Str.ofString "-")) || (eqV (.str (one b)) (.str (Str.ofString "-")) || false)) = _
        rw [dash_S, eqV_one, eqV_one, Bool.or_false]
      refine ⟨u, _, rfl, .inr (SqT.of upd_same), rfl, rfl, _, rfl, ?_⟩
      rw [ev]
      refine ite2 (fun e => ?_) (fun e => ?_)
      · refine fin _ ?_
        rw [e]
        rfl
      · refine ⟨.str (one a), rfl, .str (one b), rfl, rfl, fin _ ?_⟩
        rw [Bool.eq_false_iff.mpr e, Bool.false_or, str_dec]
        exact one_inj
    · rintro _ H' ⟨g, ih⟩
      have : (p.zip q').length ≤ p.length := by rw [List.length_zip]; omega
      rw [List.take_of_length_le this] at ih
      have z := q H' g
      unfold meetM at z
      rw [ih] at z
      exact z

/-! ### covers: the program's own -/
def ChAt (H : Hp) (c : Addr) (a b : List Int) : Prop := ∃ ra rb, H c = some (.tup [.ref ra, .ref rb]) ∧ H ra = some (.tup (a.map V.int)) ∧ H rb = some (.tup (b.map V.int))
theorem ChAt.gr {H H' : Hp} {c : Addr} {a b : List Int} (h : ChAt H c a b) (g : Gr H H') : ChAt H' c a b := by
  obtain ⟨ra, rb, h1, h2, h3⟩ := h
  exact ⟨ra, rb, g.tup h1, g.tup h2, g.tup h3⟩
structure ChOk (m : Nat) (a b : List Int) : Prop where
  la : a.length = m
  lb : b.length = m
  oa : Row01' a
  ob : Row01' b
  m6 : m ≤ 6
def pVs (ps : List (List Nat)) : List V := ps.map fun p => V.str (SX.S p)
def CovAt (H : Hp) (c : Addr) (m : Nat) (ps : List (List Nat)) : Prop := ∃ t, H c = some (.tup [.int m, .ref t]) ∧ H t = some (.tup (pVs ps))
theorem CovAt.gr {H H' : Hp} {c : Addr} {m : Nat} {ps : List (List Nat)} (h : CovAt H c m ps) (g : Gr H H') : CovAt H' c m ps := by
  obtain ⟨t, h1, h2⟩ := h
  exact ⟨t, g.tup h1, g.tup h2⟩
def CovOk (m : Nat) (ps : List (List Nat)) : Prop := ∀ p ∈ ps, ProdOk m p
theorem pV_at {ps : List (List Nat)} {i : Nat} {x : V} (h : (pVs ps)[i]? = some x) : ∃ p, ps[i]? = some p ∧ x = V.str (SX.S p) := by
  unfold pVs at h
  rw [List.getElem?_map] at h
  cases hz : ps[i]? with
  | none => rw [hz] at h; cases h
  | some u => rw [hz] at h; exact ⟨u, rfl, (Option.some.inj h).symm⟩

def sp_holds_row (T : Tx K mg) : Sp := fun vs H Q _ => ∃ (p : List Nat) (a : Addr) (r : List Int), vs = [.str (SX.S p), .ref a] ∧ H a = some (.tup (r.map V.int)) ∧ Row01' r ∧ p.length = r.length ∧ r.length ≤ 6 ∧ Tabs H T.tabs ∧ ∀ H', Gr H H' → Q (.bl (hrow p r)) H'
theorem ok_holds_row (T : Tx K mg) (B : Tb base T) : FnOk P w K mg base CX0 3 T.f_holds_row T.fd_holds_row ["product", "row"] (sp_holds_row T) := by
  refine T.F_holds_row.ok sc_holds_row (fun vs H Q E h => ?_) (fun cdv A outer s H vs Q E hr h => ?_)
  · obtain ⟨p, a, r, rfl, _⟩ := h
    rfl
  · obtain ⟨p, a, r, rfl, ha, ok, hl, l6, tabs, q⟩ := h
    refine ⟨_, (pss_one (ps_ret (pe_call (ok_holds_all T B) (hr.mono (by decide)) (by rfl) T.g_holds_all T.F_holds_all.kp T.b_holds_all .nil pass0 (pa_cons (pv 0) (pa_cons (pe_call (ok_show_row T B) (hr.mono (by decide)) (by rfl) T.g_show_row T.F_show_row.kp T.b_show_row .nil pass0 (pa_cons (pv 1) pa_nil)) pa_nil))))), ?_⟩
    refine ⟨.str (SX.S p), rfl, .ref a, rfl, a, r, rfl, ha, ok, l6, tabs, fun H1 g1 => ?_⟩
    exact ⟨p, rowS r, rfl, by unfold rowS; rw [List.length_map]; exact hl, g1.tabs tabs, fun H2 g2 => q H2 (g1.trans g2)⟩
def sp_cube_of (T : Tx K mg) : Sp := fun vs H Q _ => ∃ (c : Addr) (m : Nat) (a b : List Int), vs = [.ref c] ∧ ChAt H c a b ∧ ChOk m a b ∧ Tabs H T.tabs ∧ ∀ H', Gr H H' → Q (.str (SX.S (cubeM a b))) H'
theorem int_at {r : List Int} {i : Nat} {x : V} (h : (r.map V.int)[i]? = some x) : ∃ b, r[i]? = some b ∧ x = V.int b := by
  rw [List.getElem?_map] at h
  cases hz : r[i]? with
  | none => rw [hz] at h; cases h
  | some u => rw [hz] at h; exact ⟨u, rfl, (Option.some.inj h).symm⟩
theorem int_dec (x y : Int) : decide (V.int x = V.int y) = decide (x = y) := by
  by_cases z : x = y
  · rw [decide_eq_true z, decide_eq_true (by rw [z])]
  · rw [decide_eq_false z, decide_eq_false (fun k => z (V.int.inj k))]
theorem ok_cube_of (T : Tx K mg) (B : Tb base T) : FnOk P w K mg base CX0 2 T.f_cube_of T.fd_cube_of ["change"] (sp_cube_of T) := by
  refine okC T.F_cube_of sc_cube_of (fun vs H Q E h => ?_) (fun A outer s H vs Q E hr h => ?_)
  · obtain ⟨c, m, a, b, rfl, _⟩ := h
    rfl
  · obtain ⟨c, m, a, b, rfl, ⟨ra, rb, hc, ha, hb⟩, ok, tabs, q⟩ := h
    refine ⟨_, (pss_cons (ps_asg (pv 0) (pg_tup rfl (pgs_cons (pg_name (i := 1) sc_cube_of.nd rfl (by first | exact .inl rfl | exact .inr rfl)) (pgs_cons (pg_name (i := 2) sc_cube_of.nd rfl (by first | exact .inl rfl | exact .inr rfl)) pgs_nil)))) (pss_one (ps_ret (GxJ.pe_joinX (own := [("before", 3), ("after", 4)]) (k := 0) (hr.mono (by decide)) rfl sc_cube_of.nd pe_str B.TB_cube_of T.cd_cube_of rfl rfl (by decide +kernel) (blkOk_by (own := [("before", 3), ("after", 4)]) (N := ["change", "a", "b", "before", "after"]) (sc := defScope s_cube_of) (by decide +kernel)) (ZpG.pi_zip2 (by rfl) T.m_zip (pa_cons (pv 1) (pa_cons (pv 2) pa_nil))) (fun _ _ _ _ _ _ _ hr gd => (show PG _ _ (gTup K 2 _) from pg_tup rfl (pgs_cons (pg_name (i := 3) sc_cube_of.nd rfl (by first | exact .inl rfl | exact .inr rfl)) (pgs_cons (pg_name (i := 4) sc_cube_of.nd rfl (by first | exact .inl rfl | exact .inr rfl)) pgs_nil)))) (fun _ _ _ _ _ _ _ hr gd => pts_nil) (fun _ _ _ _ _ _ _ hr gd => (pe_ifExp (pt_cmpR op_eq (pv 3) (pv 4) (nomark _)) (pe_callTy call_str_int (by rfl) T.m_str (by decide +kernel) (pa_cons (pv 3) pa_nil)) pe_str)) (fun _ => rfl))))), ?_⟩
    have tab : GxR.TabG H T.P_cube_of := tabs _ (by simp [Tx.tabs])
    refine ⟨.ref c, rfl, c, _, rfl, SqT.of hc, rfl, _, _, rfl, _, _, rfl, rfl, ?_⟩
    refine ⟨_, rfl, .ref ra, rfl, .ref rb, rfl, .tu ra, .tu rb, _, _, rfl, SqT.of ha, SqT.of hb, tab, fun H2 tb2 => ?_⟩
    have g2 := Gr.tab tab tb2
    have la := ok.la
    have lb := ok.lb
    have m6 := ok.m6
    refine ZpG.gx_zip2 (K := K) (n := m) (xs1 := a.map V.int) (xs2 := b.map V.int) (by rw [List.length_map, la]) (by rw [List.length_map, lb]) (fun j ys H' => Gr H H' ∧ ys = ((((a.zip b).take j).map fun z => if z.1 = z.2 then wS z.1 else 45).map one).map V.str) ⟨g2, rfl⟩ (fun j _ H' _ z => ⟨SqT.of (z.1.tup ha), SqT.of (z.1.tup hb)⟩) ?_ ?_
    · rintro j x y t ys H' hx hy nt ⟨g, rfl⟩
      obtain ⟨u, hu, rfl⟩ := int_at hx
      obtain ⟨v, hv, rfl⟩ := int_at hy
      have u01 := ok.oa u (List.mem_of_getElem? hu)
      have g' := g.trans (Gr.none (o := .tup [V.int u, V.int v]) nt)
      have ez := zip_take_succ hu hv
      have ll : ((((((a.zip b).take j).map fun z => if z.1 = z.2 then wS z.1 else 45).map one).map V.str)).length < sizeLine := by
        rw [List.length_map, List.length_map, List.length_map, List.length_take, List.length_zip]
        exact Nat.lt_of_lt_of_le (show _ < 64 by omega) (by decide)
      refine ⟨t, _, rfl, SqT.of upd_same, rfl, _, _, rfl, _, _, rfl, rfl, rfl, ?_⟩
      refine ⟨.int u, rfl, .int v, rfl, rfl, _, rfl, ?_⟩
      rw [int_dec]
      refine ite2 (fun e => ?_) (fun e => ?_)
      · have e : u = v := of_decide_eq_true e
        refine ⟨.int u, rfl, u, rfl, by rcases u01 with rfl | rfl <;> decide, ll, g', ?_⟩
        rw [str01 u01, ez]
        simp [e]
      · have e : ¬ u = v := fun z => e (decide_eq_true z)
        refine ⟨ll, g', ?_⟩
        rw [dash_S, ez]
        simp [e]
    · rintro ys H' ⟨g, rfl⟩
      have : (a.zip b).length ≤ m := by rw [List.length_zip]; omega
      rw [List.take_of_length_le this]
      refine ⟨(cubeM a b).map one, rfl, joinOk_ones _ ?_, ?_⟩
      · unfold cubeM
        rw [List.length_map]
        omega
      · rw [join_one]
        exact q _ g
theorem cube_len {m : Nat} {a b : List Int} (ok : ChOk m a b) : (cubeM a b).length = m := by
  unfold cubeM
  rw [List.length_map, List.length_zip, ok.la, ok.lb, Nat.min_self]

end
end Gk

set_option Elab.async false
set_option linter.all false
set_option maxRecDepth 100000
set_option maxHeartbeats 1000000
set_option pp.maxSteps 1500
set_option pp.deepTerms false
namespace Gk
open PySem PySem.Spec PyProof.Rows L2

section
variable {P : Program} {w : World} {K : PySem.W.Frag} {mg : Str → Option Value} {base : Heap}
/-! ### changes drawn -/
theorem ChAt.same {H H' : Hp} {c : Addr} {a b : List Int} (h : ChAt H c a b) (g : Same H H') : ChAt H' c a b := by
  obtain ⟨ra, rb, h1, h2, h3⟩ := h
  exact ⟨ra, rb, g _ _ h1, g _ _ h2, g _ _ h3⟩
theorem ChAt.ts {H H' : Hp} {c : Addr} {a b : List Int} (h : ChAt H c a b) (g : Ts H H') : ChAt H' c a b := by
  obtain ⟨ra, rb, h1, h2, h3⟩ := h
  exact ⟨ra, rb, g _ _ h1, g _ _ h2, g _ _ h3⟩
def sp_change (K : PySem.W.Frag) : Sp := fun vs H Q _ => ∃ (d l : Addr) (n : Int) (m : Nat), vs = [.ref d, .int m] ∧ DeckD H d l n ∧ n < 800000 ∧ 1 ≤ m ∧ m ≤ 6 ∧ ∀ (c : Addr) (a b : List Int) (H' : Hp), DeckD H' d l (n + 13) → Fr d l H H' → ChAt H' c a b → ChOk m a b → Q (.ref c) H'
theorem ok_change (T : Tx K mg) : FnOk P w K mg base CX0 3 T.f_change T.fd_change ["_law_deck_here", "_law_many_here"] (sp_change K) := by
  refine T.F_change.ok sc_change (fun vs H Q E h => ?_) (fun cdv A outer s H vs Q E hr h => ?_)
  · obtain ⟨d, l, n, m, rfl, _⟩ := h
    rfl
  · obtain ⟨d, l, n, m, rfl, D, hn, m1, m6, q⟩ := h
    refine ⟨_, (pss_cons (ps_set (i := 2) sc_change.nd rfl (by first | exact .inl rfl | exact .inr rfl) (pe_call (ok_draw T) (hr.mono (by decide)) (by rfl) T.g_draw T.F_draw.kp T.b_draw .nil pass0 (pa_cons (pv 0) (pa_cons pe_int pa_nil)))) (pss_cons (ps_set (i := 3) sc_change.nd rfl (by first | exact .inl rfl | exact .inr rfl) (pe_call (ok_row T) (hr.mono (by decide)) (by rfl) T.g_row T.F_row.kp T.b_row .nil pass0 (pa_cons (pv 0) (pa_cons (pv 1) pa_nil)))) (pss_cons (ps_if (pt_cmpR op_eq (pv 2) pe_int (nomark _)) (pss_one (ps_ret (pe_tup (pa_cons (pv 3) (pa_cons (pv 3) pa_nil))))) pss_nil) (pss_cons (ps_if (pt_cmpR op_eq (pv 2) pe_int (nomark _)) (pss_one (ps_ret (pe_tup (pa_cons (pv 3) (pa_cons (pe_callTy call_tuple_of (by rfl) T.m_tuple (by decide +kernel) (pa_cons (pe_lc (own := [("_law_worth", 5)]) (by rfl) sc_change.nd (pi_tup (pv 3)) (blkOk_by (own := [("_law_worth", 5)]) (N := ["_law_deck_here", "_law_many_here", "_law_way", "_law_row_here", "_law_place", "_law_worth"]) (sc := defScope s_change) (by decide +kernel)) (fun _ _ _ _ _ => (pg_name (i := 5) sc_change.nd rfl (by first | exact .inl rfl | exact .inr rfl))) (fun _ _ _ _ _ => pts_nil) (fun _ _ _ _ _ => (pe_op op_sub pe_int (pv 5)))) pa_nil)) pa_nil))))) pss_nil) (pss_cons (ps_if (pt_cmpR op_lt (pv 2) pe_int (nomark _)) (pss_cons (ps_set (i := 4) sc_change.nd rfl (by first | exact .inl rfl | exact .inr rfl) (pe_call (ok_draw T) (hr.mono (by decide)) (by rfl) T.g_draw T.F_draw.kp T.b_draw .nil pass0 (pa_cons (pv 0) (pa_cons (pv 1) pa_nil)))) (pss_one (ps_ret (pe_tup (pa_cons (pv 3) (pa_cons (pe_op op_catA (pe_op op_catA (pe_slice sl_tupA (pv 3) po_none (po_some (pv 4))) (pe_tup (pa_cons (pe_op op_sub pe_int (pe_ix ix_tup (pv 3) (pv 4) (fun _ _ => rfl))) pa_nil))) (pe_slice sl_tupA (pv 3) (po_some (pe_op op_add (pv 4) pe_int)) po_none)) pa_nil)))))) pss_nil) (pss_one (ps_ret (pe_tup (pa_cons (pv 3) (pa_cons (pe_call (ok_row T) (hr.mono (by decide)) (by rfl) T.g_row T.F_row.kp T.b_row .nil pass0 (pa_cons (pv 0) (pa_cons (pv 1) pa_nil))) pa_nil)))))))))), ?_⟩
    refine ⟨.ref d, rfl, d, l, 8, _, rfl, D, by omega, by decide, by decide, fun H1 x D1 fr1 x0 x1 => ?_⟩
    refine ⟨.ref d, rfl, .int m, rfl, d, l, _, m, rfl, D1, by omega, m6, fun p bs H2 D2 fr2 lb okb hp => ?_⟩
    have fr12 := fr1.trans fr2
    refine ⟨.int x, rfl, rfl, _, rfl, ite2 (fun _ => ?_) (fun _ => ?_)⟩
    · refine ⟨.ref p, rfl, .ref p, rfl, sl2, fun c nc => ?_⟩
      have s3 := same_upd (o := HO.tup [V.ref p, .ref p]) nc
      exact q c bs bs _ ((D2.same s3).mono (by omega)) (fr12.trans (Fr.of s3)) ⟨p, p, upd_same, s3 _ _ hp, s3 _ _ hp⟩ ⟨lb, lb, okb, okb, m6⟩
    refine ⟨.int x, rfl, rfl, _, rfl, ite2 (fun _ => ?_) (fun _ => ?_)⟩
    · refine ⟨.ref p, rfl, .ref p, rfl, p, rfl, ⟨_, SqT.of hp⟩, fun L nL => ?_⟩
      refine lc_tup (K := K) (a := p) (xs := bs.map V.int) (fun j H' => Same H2 (hd1 L H') ∧ H' L = some (.lst (((bs.take j).map fun b => 1 - b).map V.int))) ⟨hd1_of (same_upd nL) nL, upd_same⟩ (fun j H' _ z => SqT.of (hd1_le _ _ (z.1 _ _ hp))) ?_ ?_
      · rintro j v H3 hv ⟨s3, hL⟩
        obtain ⟨b, hb, rfl⟩ := int_at hv
        refine ⟨rfl, .int b, rfl, _, _, rfl, rfl, _, hL, ?_, s3.trans hd1_upd, ?_⟩
        · rw [List.length_map, List.length_map, List.length_take]
          exact Nat.lt_of_lt_of_le (show _ < 64 by omega) (by decide)
        · rw [upd_same, List.take_add_one, hb]
          simp
      · rintro H3 ⟨s3, hL⟩
        rw [List.length_map, List.take_length] at hL
        have s23 : Same H2 H3 := fun b o e => hd1_le _ _ (s3 _ _ e)
        refine ⟨L, _, rfl, .inl ⟨SqL.of hL, fun t nt => ⟨sl2, fun c nc => ?_⟩⟩⟩
        have s4 := same_upd (o := HO.tup ((bs.map fun b => 1 - b).map V.int)) nt
        have s5 := same_upd (o := HO.tup [V.ref p, .ref t]) nc
        have sa := (s23.trans s4).trans s5
        refine q c bs (bs.map fun b => 1 - b) _ ((D2.same sa).mono (by omega)) (fr12.trans (Fr.of sa)) ⟨p, t, upd_same, sa _ _ hp, s5 _ _ upd_same⟩ ⟨lb, by rw [List.length_map, lb], okb, fun y hy => ?_, m6⟩
        obtain ⟨b, hb, rfl⟩ := List.mem_map.mp hy
        have := okb b hb
        omega
    refine ⟨.int x, rfl, _, _, rfl, rfl, _, rfl, ite2 (fun _ => ?_) (fun _ => ?_)⟩
    · refine ⟨.ref d, rfl, .int m, rfl, d, l, m, _, rfl, D2, by omega, by omega, by omega, fun H3 y D3 fr3 y0 y1 => ?_⟩
      obtain ⟨k, rfl⟩ := Int.eq_ofNat_of_zero_le y0
      have hk : k < bs.length := by omega
      have hp3 := Ts.frD D2 fr3 _ _ hp
      have hat : atI (bs.map V.int) ((k : Nat) : Int) = some (.int bs[k]) := atI_nat (by rw [List.getElem?_map, List.getElem?_eq_getElem hk]; rfl)
      refine ⟨.ref p, rfl, .ref p, rfl, .int (k : Nat), rfl, (k : Int), rfl, slA hp3 fun q1 H4 s4 h4 => ?_⟩
      rw [cut_to] at h4
      refine ⟨.ref p, rfl, .int (k : Nat), rfl, p, _, _, _, rfl, rfl, SqT.of (s4 _ _ hp3), hat, _, _, rfl, rfl, sl1, fun t nt => ?_⟩
      have s5 := same_upd (o := HO.tup [V.int (1 - bs[k])]) nt
      refine catA (s5 _ _ h4) upd_same ?_ fun q2 H6 s6 h6 => ?_
      · rw [List.length_take, List.length_map]
        exact Nat.le_trans (show _ ≤ 64 by simp only [List.length_cons, List.length_nil]; omega) (by decide)
      have s46 := (s4.trans s5).trans s6
      refine ⟨.ref p, rfl, .int (k : Nat), rfl, _, _, rfl, rfl, ((k + 1 : Nat) : Int), rfl, ?_⟩
      refine slAn (s46 _ _ hp3) fun q3 H7 s7 h7 => ?_
      rw [cut_from] at h7
      refine catA (s7 _ _ h6) h7 ?_ fun oa H8 s8 h8 => ?_
      · rw [List.length_append, List.length_take, List.length_drop, List.length_map]
        exact Nat.le_trans (show _ ≤ 64 by simp only [List.length_cons, List.length_nil]; omega) (by decide)
      rw [set_put (by rw [List.length_map]; exact hk)] at h8
      refine ⟨sl2, fun c nc => ?_⟩
      have s9 := same_upd (o := HO.tup [V.ref p, .ref oa]) nc
      have sa := ((s46.trans s7).trans s8).trans s9
      have hset : (bs.map V.int).set k (V.int (1 - bs[k])) = (bs.set k (1 - bs[k])).map V.int := by rw [List.map_set]
      rw [hset] at h8
      refine q c bs (bs.set k (1 - bs[k])) _ ((D3.same sa).mono (by omega)) ((fr12.trans fr3).trans (Fr.of sa)) ⟨p, oa, upd_same, sa _ _ hp3, s9 _ _ h8⟩ ⟨lb, by rw [List.length_set, lb], okb, fun y hy => ?_, m6⟩
      rcases List.mem_or_eq_of_mem_set hy with z | z
      · exact okb y z
      · have := okb bs[k] (List.getElem_mem hk)
        omega
    · refine ⟨.ref p, rfl, .ref d, rfl, .int m, rfl, d, l, _, m, rfl, D2, by omega, m6, fun p2 bs2 H3 D3 fr3 lb2 okb2 hp2 => ⟨sl2, fun c nc => ?_⟩⟩
      have s4 := same_upd (o := HO.tup [V.ref p, .ref p2]) nc
      have hp3 := Ts.frD D2 fr3 _ _ hp
      exact q c bs bs2 _ ((D3.same s4).mono (by omega)) ((fr12.trans fr3).trans (Fr.of s4)) ⟨p, p2, upd_same, s4 _ _ hp3, s4 _ _ hp2⟩ ⟨lb, lb2, okb, okb2, m6⟩

end
end Gk

set_option Elab.async false
set_option linter.all false
set_option maxRecDepth 100000
set_option maxHeartbeats 1000000
set_option pp.maxSteps 1500
set_option pp.deepTerms false
namespace Gk
open PySem PySem.Spec PyProof.Rows L2

section
variable {P : Program} {w : World} {K : PySem.W.Frag} {mg : Str → Option Value} {base : Heap}
/-! ### covers: the law's own -/
def sgI (c : Nat) : Int := if c = 49 then 1 else 0
theorem int_sg {c : Nat} (h : c = 48 ∨ c = 49) : PySem.intText? (one c) = some (sgI c) := by
  rcases h with rfl | rfl <;> decide +kernel
theorem sg_wS {c : Nat} {x : Int} (h : c = 48 ∨ c = 49) (hx : x = 0 ∨ x = 1) : decide (sgI c = x) = decide (c = wS x) := by
  rcases h with rfl | rfl <;> rcases hx with rfl | rfl <;> decide
def sp_holds (K : PySem.W.Frag) : Sp := fun vs H Q _ => ∃ (m : Nat) (p : List Nat) (a : Addr) (r : List Int), vs = [.str (SX.S p), .ref a] ∧ ProdOk m p ∧ H a = some (.tup (r.map V.int)) ∧ Row01' r ∧ r.length = m ∧ ∀ H', Same H H' → Q (.bl (hrow p r)) H'
theorem ok_holds (T : Tx K mg) : FnOk P w K mg base CX0 1 T.f_holds T.fd_holds ["_law_product_here", "_law_row_here"] (sp_holds K) := by
  refine T.F_holds.ok sc_holds (fun vs H Q E h => ?_) (fun cdv A outer s H vs Q E hr h => ?_)
  · obtain ⟨m, p, a, r, rfl, _⟩ := h
    rfl
  · obtain ⟨m, p, a, r, rfl, okp, ha, ok, lr, q⟩ := h
    refine ⟨_, (pss_cons (ps_for PassesOwn.never rfl (ZpG.pi_zip2 (by rfl) T.m_zip (pa_cons (pv 0) (pa_cons (pv 1) pa_nil))) (pg_tup rfl (pgs_cons (pg_name (i := 2) sc_holds.nd rfl (by first | exact .inl rfl | exact .inr rfl)) (pgs_cons (pg_name (i := 3) sc_holds.nd rfl (by first | exact .inl rfl | exact .inr rfl)) pgs_nil))) (pss_one (ps_if (pt_cut (pw_and (pt_cmpR op_ne (pv 2) pe_str (nomark _)) (pw_and1 (pt_cmpR op_ne (pe_callTy call_int_str (by rfl) T.m_int (by decide +kernel) (pa_cons (pv 2) pa_nil)) (pv 3) (nomark _)))).pt) (pss_one (ps_ret pe_bl)) pss_nil))) (pss_one (ps_ret pe_bl))), ?_⟩
    have lp := okp.1
    refine ⟨.str (SX.S p), rfl, .ref a, rfl, .tx (SX.S p), .tu a, _, _, rfl, at_tx p, SqT.of ha, ?_⟩
    refine ZpG.for_zip2 (K := K) (n := m) (xs1 := p.map fun c => V.str (one c)) (xs2 := r.map V.int) (by rw [List.length_map, lp]) (by rw [List.length_map, lr]) (fun j σ H' => ∃ y2 y3, σ = [some (.str (SX.S p)), some (.ref a), y2, y3] ∧ Same H H' ∧ ((p.zip (rowS r)).take j).all (fun z => decide (z.1 = 45) || decide (z.1 = z.2)) = true) ⟨_, _, rfl, Same.refl H, rfl⟩ (fun j σ H' _ ⟨_, _, _, z, _⟩ => ⟨at_tx p, SqT.of (z _ _ ha)⟩) ?_ ?_
    · rintro j x y t σ H1 hx hy nt ⟨y2, y3, rfl, s1, ih⟩
      obtain ⟨c, hc, rfl⟩ := one_at hx
      obtain ⟨w', hw, rfl⟩ := int_at hy
      have hw2 : (rowS r)[j]? = some (wS w') := by unfold rowS; rw [List.getElem?_map, hw]; rfl
      have ez := zip_take_succ hc hw2
      have okc := okp.2 c (List.mem_of_getElem? hc)
      have okw := ok w' (List.mem_of_getElem? hw)
      have s2 := s1.trans (same_upd (o := HO.tup [V.str (one c), V.int w']) nt)
      refine ⟨t, _, rfl, SqT.of upd_same, rfl, _, _, rfl, _, _, rfl, rfl, ?_⟩
      revert s2
      generalize upd H1 t _ = H2
      intro s2
      refine ⟨fun b H' => H' = H2 ∧ b = !(decide (c = 45) || decide (c = wS w')), ?_, ?_⟩
      · refine ⟨.str (one c), rfl, rfl, _, rfl, ?_⟩
        rw [str_dec, dash_S, one_inj]
        refine ite2 (fun e => ?_) (fun e => ⟨rfl, ?_⟩)
        · have nc : ¬ c = 45 := by simpa using e
          have c2 : c = 48 ∨ c = 49 := by rcases okc with h | h; exact absurd h nc; exact h
          refine ⟨.str (one c), rfl, _, _, rfl, int_sg c2, (show 1 ≤ 640 by decide), .int w', rfl, rfl, _, rfl, rfl, ?_⟩
          rw [int_dec, sg_wS c2 okw, decide_eq_false nc]
          rfl
        · have ec : c = 45 := by simpa using e
          rw [decide_eq_true ec]
          rfl
      · rintro b H' ⟨rfl, rfl⟩
        refine ite2 (fun e => ?_) (fun e => ?_)
        · have e' : (decide (c = 45) || decide (c = wS w')) = false := by simpa using e
          have : hrow p r = false := all_stop (f := fun z : Nat × Nat => decide (z.1 = 45) || decide (z.1 = z.2)) ez e'
          have z := q _ s2
          rw [this] at z
          exact z
        · have e' : (decide (c = 45) || decide (c = wS w')) = true := by
            cases hh : (decide (c = 45) || decide (c = wS w')) with
            | true => rfl
            | false => rw [hh] at e; exact absurd rfl e
          refine ⟨_, _, rfl, s2, ?_⟩
          rw [ez, List.all_append, ih]
          simpa using e'
    · rintro σ H1 ⟨y2, y3, rfl, s1, ih⟩
      have : (p.zip (rowS r)).length ≤ m := by rw [List.length_zip]; omega
      rw [List.take_of_length_le this] at ih
      have z := q H1 s1
      unfold hrow hall at z
      rw [ih] at z
      exact z

/-! ### all rows, the law's own -/
def rowsL : Nat → List (List Int)
  | 0 => [[]]
  | k + 1 => (rowsL k).map (· ++ [0]) ++ (rowsL k).map (· ++ [1])
theorem rowsL_len : ∀ k, (rowsL k).length = 2 ^ k
  | 0 => rfl
  | k + 1 => by
    unfold rowsL
    rw [List.length_append, List.length_map, List.length_map, rowsL_len k, Nat.pow_succ]
    omega
theorem rowsL_ok : ∀ k, ∀ r ∈ rowsL k, r.length = k ∧ Row01' r
  | 0, r, h => by
    rw [List.mem_singleton.mp h]
    exact ⟨rfl, fun x hx => by cases hx⟩
  | k + 1, r, h => by
    unfold rowsL at h
    rcases List.mem_append.mp h with h | h
    · obtain ⟨q, hq, rfl⟩ := List.mem_map.mp h
      have ih := rowsL_ok k q hq
      refine ⟨by rw [List.length_append, ih.1]; rfl, fun x hx => ?_⟩
      rcases List.mem_append.mp hx with z | z
      · exact ih.2 x z
      · exact .inl (List.mem_singleton.mp z)
    · obtain ⟨q, hq, rfl⟩ := List.mem_map.mp h
      have ih := rowsL_ok k q hq
      refine ⟨by rw [List.length_append, ih.1]; rfl, fun x hx => ?_⟩
      rcases List.mem_append.mp hx with z | z
      · exact ih.2 x z
      · exact .inr (List.mem_singleton.mp z)
theorem rowD_snoc (r : List Int) (v : Int) : rowD (r ++ [v]) = .tuple (r.map PyData.int ++ [.int v]) := by
  unfold rowD
  rw [List.map_append]
  rfl
/-- the walk that puts one more worth behind each row -/
theorem more_step {H1 : Hp} {D : Addr} {rs : List (List Int)} {cs : List V} {ca : Addr} (v : Int) (hca : H1 ca = some (.lst cs)) (tcs : TkAll H1 cs (rs.map rowD)) (rl : ∀ r ∈ rs, r.length ≤ 8) (rs64 : rs.length ≤ 64) {k : Nat} {x : V} {H2 : Hp} (hx : cs[k]? = some x) (s2 : Same H1 (hd1 D H2)) {acc : List V} (hD : H2 D = some (.lst acc)) (ta : TkAll (hd1 D H2) acc ((rs.take k).map fun r => rowD (r ++ [v]))) (Q : VK)
    (q : ∀ (p : Addr) (H4 : Hp), H4 D = some (.lst acc) → Same H1 (hd1 D (upd H4 D (.lst (acc ++ [.ref p])))) → TkAll (hd1 D (upd H4 D (.lst (acc ++ [.ref p])))) (acc ++ [.ref p]) ((rs.take (k + 1)).map fun r => rowD (r ++ [v])) → Q (.ref p) H4) :
    ∀ t, H2 t = none → rCatA K x (.ref t) (upd H2 t (.tup [.int v])) Q := by
  intro t nt
  obtain ⟨r, hr, tx⟩ := tcs.at hx
  obtain ⟨xa, rfl, hxa⟩ := Tk.row_inv tx
  have rl' := rl r (List.mem_of_getElem? hr)
  have st := same_upd (o := HO.tup [V.int v]) nt
  have ntD : t ≠ D := (ne_of_none hD nt).symm
  have sD := hd1_same (p := D) st
  refine catA (st _ _ (hd1_le _ _ (s2 _ _ hxa))) upd_same ?_ fun p H4 s4 h4 => ?_
  · rw [List.length_map]
    exact Nat.le_trans (show _ ≤ 64 by simp only [List.length_cons, List.length_nil]; omega) (by decide)
  have hD4 := s4 _ _ (st _ _ hD)
  have npD : p ≠ D := ne_of h4 hD4 (by intro z; cases z)
  have s4D := hd1_same (p := D) s4
  refine q p H4 hD4 (((s2.trans sD).trans s4D).trans hd1_upd) ?_
  rw [List.take_add_one, hr]
  show TkAll _ _ ((rs.take k ++ [r]).map _)
  rw [List.map_append]
  refine (((ta.same sD).same s4D).same hd1_upd).append (.cons ?_ .nil)
  show Tk _ _ (rowD (r ++ [v]))
  rw [rowD_snoc]
  refine .tup (xs := r.map V.int ++ [.int v]) ?_ ((TkAll.ints _).append (.cons (.int _) .nil))
  rw [hd1_at npD, upd_ne npD]
  exact h4
def sp_rows (K : PySem.W.Frag) : Sp := fun vs H Q _ => ∃ m : Nat, vs = [.int m] ∧ m ≤ 6 ∧ ∀ r H', Same H H' → Tk H' (.ref r) (.list ((rowsL m).map rowD)) → Q (.ref r) H'
theorem ok_rows (T : Tx K mg) : FnOk P w K mg base CX0 1 T.f_rows T.fd_rows ["_law_many_here"] (sp_rows K) := by
  refine T.F_rows.ok sc_rows (fun vs H Q E h => ?_) (fun cdv A outer s H vs Q E hr h => ?_)
  · obtain ⟨m, rfl, _⟩ := h
    rfl
  · obtain ⟨m, rfl, m6, q⟩ := h
    refine ⟨_, (pss_cons (ps_set (i := 1) sc_rows.nd rfl (by first | exact .inl rfl | exact .inr rfl) (pe_lst (pa_cons (pe_tup pa_nil) pa_nil))) (pss_cons (ps_for PassesOwn.never rfl (pi_range1 (by rfl) T.m_range (pa_cons (pv 0) pa_nil)) (pg_name (i := 2) sc_rows.nd rfl (by first | exact .inl rfl | exact .inr rfl)) (pss_one (ps_set (i := 1) sc_rows.nd rfl (by first | exact .inl rfl | exact .inr rfl) (pe_op op_cat (pe_lc (own := [("_law_row_here", 3)]) (by rfl) sc_rows.nd (pi_list (pv 1)) (blkOk_by (own := [("_law_row_here", 3)]) (N := ["_law_many_here", "_law_found", "_law_place", "_law_row_here"]) (sc := defScope s_rows) (by decide +kernel)) (fun _ _ _ _ _ => (pg_name (i := 3) sc_rows.nd rfl (by first | exact .inl rfl | exact .inr rfl))) (fun _ _ _ _ _ => pts_nil) (fun _ _ _ _ _ => (pe_op (show OpR _ _ (rCatA K) from op_catA) (pv 3) (pe_tup (pa_cons pe_int pa_nil))))) (pe_lc (own := [("_law_row_here", 3)]) (by rfl) sc_rows.nd (pi_list (pv 1)) (blkOk_by (own := [("_law_row_here", 3)]) (N := ["_law_many_here", "_law_found", "_law_place", "_law_row_here"]) (sc := defScope s_rows) (by decide +kernel)) (fun _ _ _ _ _ => (pg_name (i := 3) sc_rows.nd rfl (by first | exact .inl rfl | exact .inr rfl))) (fun _ _ _ _ _ => pts_nil) (fun _ _ _ _ _ => (pe_op (show OpR _ _ (rCatA K) from op_catA) (pv 3) (pe_tup (pa_cons pe_int pa_nil))))))))) (pss_one (ps_ret (pv 1))))), ?_⟩
    refine ⟨Nat.zero_le _, fun t0 n0 => ⟨sl1, fun c0 nc0 => ?_⟩⟩
    refine ⟨.int m, rfl, (m : Int), rfl, by omega, by omega, ?_⟩
    refine for_range (lo := 0) (n := (m : Int).toNat) (fun i σ H' => ∃ ca y2 y3, σ = [some (.int m), some (.ref ca), y2, y3] ∧ Same H H' ∧ Tk H' (.ref ca) (.list ((rowsL i).map rowD)))
      ⟨c0, _, _, rfl, (same_upd n0).trans (same_upd nc0), .lst upd_same (.cons (.tup (same_upd nc0 _ _ upd_same) .nil) .nil)⟩ ?_ ?_
    · rintro i σ H1 hi ⟨ca, y2, y3, rfl, s1, tc⟩
      have hi' : i < m := by simpa using hi
      obtain ⟨ca', cs, e, hca, tcs⟩ := tc.lst_inv
      cases e
      have big : (rowsL i).length ≤ 64 := by
        rw [rowsL_len]
        exact Nat.pow_le_pow_right (by decide) (show i ≤ 6 by omega)
      have rl : ∀ r ∈ rowsL i, r.length ≤ 8 := fun r hr => by
        have := (rowsL_ok i r hr).1
        omega
      have lcs : cs.length = (rowsL i).length := by rw [tcs.length, List.length_map]
      refine ⟨.ref ca, rfl, ca, rfl, ⟨_, SqL.of hca⟩, fun D nD => ?_⟩
      refine lc_list (K := K) (a := ca) (xs := cs) (fun k H' => Same H1 (hd1 D H') ∧ ∃ acc, H' D = some (.lst acc) ∧ TkAll (hd1 D H') acc (((rowsL i).take k).map fun r => rowD (r ++ [0]))) ⟨hd1_of (same_upd nD) nD, [], upd_same, .nil⟩ (fun k H' _ z => SqL.of (hd1_le _ _ (z.1 _ _ hca))) ?_ ?_
      · rintro k x H2 hx ⟨s2, acc, hD, ta⟩
        refine ⟨rfl, x, rfl, sl1, more_step 0 hca tcs rl big hx s2 hD ta _ fun p H4 h4 sm tk => ⟨acc, h4, ?_, sm, _, upd_same, tk⟩⟩
        have := ta.length
        rw [List.length_map, List.length_take] at this
        exact Nat.lt_of_lt_of_le (show _ < 128 by omega) (by decide)
      · rintro H2 ⟨s2, acc, hD, ta⟩
        rw [lcs, List.take_length] at ta
        have s12 : Same H1 H2 := fun b o e => hd1_le _ _ (s2 _ _ e)
        have ta2 := ta.same hd1_le
        refine ⟨.ref ca, rfl, ca, rfl, ⟨_, SqL.of (s12 _ _ hca)⟩, fun E' nE => ?_⟩
        refine lc_list (K := K) (a := ca) (xs := cs) (fun k H' => Same H2 (hd1 E' H') ∧ ∃ acc, H' E' = some (.lst acc) ∧ TkAll (hd1 E' H') acc (((rowsL i).take k).map fun r => rowD (r ++ [1]))) ⟨hd1_of (same_upd nE) nE, [], upd_same, .nil⟩ (fun k H' _ z => SqL.of (hd1_le _ _ (z.1 _ _ (s12 _ _ hca)))) ?_ ?_
        · rintro k x H3 hx ⟨s3, acc3, hE, ta3⟩
          refine ⟨rfl, x, rfl, sl1, more_step 1 (s12 _ _ hca) (tcs.same s12) rl big hx s3 hE ta3 _ fun p H4 h4 sm tk => ⟨acc3, h4, ?_, sm, _, upd_same, tk⟩⟩
          have := ta3.length
          rw [List.length_map, List.length_take] at this
          exact Nat.lt_of_lt_of_le (show _ < 128 by omega) (by decide)
        · rintro H3 ⟨s3, acc3, hE, ta3⟩
          rw [lcs, List.take_length] at ta3
          have s23 : Same H2 H3 := fun b o e => hd1_le _ _ (s3 _ _ e)
          have ta4 := ta3.same hd1_le
          refine ⟨D, E', _, _, rfl, rfl, s23 _ _ hD, hE, ?_, fun F nF => ?_⟩
          · have := ta.length
            have := ta3.length
            rw [List.length_map] at *
            exact Nat.le_trans (show _ ≤ 256 by omega) (by decide)
          have s4 := same_upd (o := HO.lst (acc ++ acc3)) nF
          refine ⟨F, _, _, rfl, ((s1.trans s12).trans s23).trans s4, .lst upd_same ?_⟩
          show TkAll _ _ ((rowsL (i + 1)).map rowD)
          unfold rowsL
          rw [List.map_append, List.map_map, List.map_map]
          exact ((ta2.same s23).same s4).append (ta4.same s4)
    · rintro σ H1 ⟨ca, y2, y3, rfl, s1, tc⟩
      rw [show (m : Int).toNat = m by omega] at tc
      exact ⟨.ref ca, rfl, q ca H1 s1 tc⟩

end
end Gk

set_option Elab.async false
set_option linter.all false
set_option maxRecDepth 100000
set_option maxHeartbeats 1000000
set_option pp.maxSteps 1500
set_option pp.deepTerms false
namespace Gk
open PySem PySem.Spec PyProof.Rows L2
/-! ### comparing, cutting and joining data of tuples -/
mutual
theorem Tk.dp {K : PySem.W.Frag} {H : Hp} : ∀ {v : V} {d : PyData}, Tk H v d → Dp K H v d
  | _, _, .bl b => .bl b
  | _, _, .int i => .int i
  | _, _, .str x => .str x
  | _, _, .lst h t => .lst (SqL.of h) t.dp
  | _, _, .tup h t => .tup (SqT.of h) t.dp
theorem TkAll.dp {K : PySem.W.Frag} {H : Hp} : ∀ {vs : List V} {ds : List PyData}, TkAll H vs ds → DpAll K H vs ds
  | _, _, .nil => .nil
  | _, _, .cons h t => .cons h.dp t.dp
end
theorem ne_same {K : PySem.W.Frag} {H : Hp} {x y : V} {d : PyData} {Q : VK} (hx : Dp K H x d) (hy : Dp K H y d) (sh : SeqAt.shaped d = true) (q : Q (.bl false) H) : rNeD K x y H Q := by
  refine ⟨d, d, hx, hy, sh, sh, ?_⟩
  rw [SeqAt.eqv_refl d (SeqAt.canLay_of_shaped sh)]
  exact q
theorem eq_same {K : PySem.W.Frag} {H : Hp} {x y : V} {d : PyData} {Q : VK} (hx : Dp K H x d) (hy : Dp K H y d) (sh : SeqAt.shaped d = true) (q : Q (.bl true) H) : rEqD K x y H Q := by
  refine ⟨d, d, hx, hy, sh, sh, ?_⟩
  rw [SeqAt.eqv_refl d (SeqAt.canLay_of_shaped sh)]
  exact q

/-! ### rows and products -/
theorem rows_all : ∀ (m : Nat) (r : List Int), r.length = m → Row01' r → r ∈ rowsL m
  | 0, r, h, _ => by
    rw [List.eq_nil_of_length_eq_zero h]
    exact List.mem_singleton.mpr rfl
  | k + 1, r, h, ok => by
    have ne : r ≠ [] := fun z => by rw [z] at h; cases h
    have e := List.dropLast_concat_getLast ne
    have ih := rows_all k r.dropLast (by rw [List.length_dropLast]; omega) fun x hx => ok x (List.dropLast_subset _ hx)
    unfold rowsL
    rw [← e]
    rcases ok _ (List.getLast_mem ne) with z | z
    · rw [z]
      exact List.mem_append_left _ (List.mem_map.mpr ⟨_, ih, rfl⟩)
    · rw [z]
      exact List.mem_append_right _ (List.mem_map.mpr ⟨_, ih, rfl⟩)
theorem hall_iff {p q : List Nat} : hall p q = true ↔ ∀ (i a b : Nat), p[i]? = some a → q[i]? = some b → a = 45 ∨ a = b := by
  unfold hall
  rw [List.all_eq_true]
  constructor
  · intro h i a b ha hb
    have := h (a, b) (List.mem_of_getElem? (i := i) (by rw [List.getElem?_zip_eq_some]; exact ⟨ha, hb⟩))
    simpa using this
  · intro h z hz
    obtain ⟨i, hi⟩ := List.getElem?_of_mem hz
    rw [List.getElem?_zip_eq_some] at hi
    simpa using h i z.1 z.2 hi.1 hi.2
theorem meet_iff {p q : List Nat} : meetM p q = true ↔ ∀ (i a b : Nat), p[i]? = some a → q[i]? = some b → a = 45 ∨ b = 45 ∨ a = b := by
  unfold meetM
  rw [List.all_eq_true]
  constructor
  · intro h i a b ha hb
    have := h (a, b) (List.mem_of_getElem? (i := i) (by rw [List.getElem?_zip_eq_some]; exact ⟨ha, hb⟩))
    simpa [or_assoc] using this
  · intro h z hz
    obtain ⟨i, hi⟩ := List.getElem?_of_mem hz
    rw [List.getElem?_zip_eq_some] at hi
    simpa [or_assoc] using h i z.1 z.2 hi.1 hi.2
theorem hrow_iff {p : List Nat} {r : List Int} : hrow p r = true ↔ ∀ (i a : Nat) (x : Int), p[i]? = some a → r[i]? = some x → a = 45 ∨ a = wS x := by
  unfold hrow
  rw [hall_iff]
  constructor
  · intro h i a x ha hx
    exact h i a (wS x) ha (by unfold rowS; rw [List.getElem?_map, hx]; rfl)
  · intro h i a b ha hb
    unfold rowS at hb
    rw [List.getElem?_map] at hb
    obtain ⟨x, hx, e⟩ := Option.map_eq_some_iff.mp hb
    rw [← e]
    exact h i a x ha hx
def mkR (m : Nat) (f : Nat → Bool) : List Int := (List.range m).map fun j => if f j = true then 1 else 0
theorem mkR_len (m : Nat) (f : Nat → Bool) : (mkR m f).length = m := by unfold mkR; rw [List.length_map, List.length_range]
theorem mkR_ok (m : Nat) (f : Nat → Bool) : Row01' (mkR m f) := fun x hx => by
  obtain ⟨j, _, rfl⟩ := List.mem_map.mp hx
  by_cases z : f j = true
  · rw [if_pos z]; exact .inr rfl
  · rw [if_neg z]; exact .inl rfl
theorem mkR_at {m : Nat} {f : Nat → Bool} {j : Nat} {x : Int} (h : (mkR m f)[j]? = some x) : wS x = if f j = true then 49 else 48 := by
  unfold mkR at h
  rw [List.getElem?_map] at h
  obtain ⟨k, hk, e⟩ := Option.map_eq_some_iff.mp h
  have hl := (List.getElem?_eq_some_iff.mp hk).1
  rw [List.length_range] at hl
  rw [List.getElem?_range hl] at hk
  cases Option.some.inj hk
  rw [← e]
  by_cases z : f j = true
  · rw [if_pos z, if_pos z]; rfl
  · rw [if_neg z, if_neg z]; rfl
theorem sg_of {m : Nat} {p : List Nat} (ok : ProdOk m p) {i a : Nat} (h : p[i]? = some a) : a = 45 ∨ a = 48 ∨ a = 49 := ok.2 a (List.mem_of_getElem? h)
theorem hall_of_rows {m : Nat} {p q : List Nat} (op : ProdOk m p) (oq : ProdOk m q) (h : ∀ r ∈ rowsL m, hrow q r = true → hrow p r = true) : hall p q = true := by
  rw [hall_iff]
  intro i a b ha hb
  by_cases z : a = 45
  · exact .inl z
  right
  by_cases y : a = b
  · exact y
  exfalso
  have a2 : a = 48 ∨ a = 49 := by rcases sg_of op ha with k | k; exact absurd k z; exact k
  let f : Nat → Bool := fun j => if j = i then decide (a = 48) else decide (q[j]? = some 49)
  have hq : hrow q (mkR m f) = true := by
    rw [hrow_iff]
    intro j c x hc hx
    rw [mkR_at hx]
    by_cases e : j = i
    · subst e
      rw [hb] at hc
      cases Option.some.inj hc
      have fj : f j = decide (a = 48) := if_pos rfl
      rw [fj]
      rcases sg_of oq hb with k | k | k
      · exact .inl k
      · right
        rcases a2 with w | w
        · exact absurd (w.trans k.symm) y
        · rw [if_neg (by rw [w]; decide)]; exact k
      · right
        rcases a2 with w | w
        · rw [if_pos (by rw [w]; decide)]; exact k
        · exact absurd (w.trans k.symm) y
    · have fj : f j = decide (q[j]? = some 49) := if_neg e
      rw [fj, hc]
      rcases sg_of oq hc with k | k | k
      · exact .inl k
      · right
        rw [k, if_neg (by decide)]
      · right
        rw [k, if_pos (by decide)]
  have hp := h _ (rows_all m _ (mkR_len m f) (mkR_ok m f)) hq
  rw [hrow_iff] at hp
  have li := (List.getElem?_eq_some_iff.mp ha).1
  have hx : (mkR m f)[i]? = some ((mkR m f)[i]'(by rw [mkR_len, ← op.1]; exact li)) := List.getElem?_eq_getElem _
  rcases hp i a _ ha hx with k | k
  · exact z k
  · rw [mkR_at hx] at k
    have fj : f i = decide (a = 48) := if_pos rfl
    rw [fj] at k
    rcases a2 with w | w
    · rw [if_pos (by rw [w]; decide)] at k; omega
    · rw [if_neg (by rw [w]; decide)] at k; omega
theorem hall_row {p q : List Nat} {r : List Int} (hl : p.length = q.length) (h : hall p q = true) (hq : hrow q r = true) : hrow p r = true := by
  rw [hall_iff] at h
  rw [hrow_iff] at hq ⊢
  intro i a x ha hx
  have li := (List.getElem?_eq_some_iff.mp ha).1
  have hb : q[i]? = some (q[i]'(by omega)) := List.getElem?_eq_getElem _
  rcases h i a _ ha hb with k | k
  · exact .inl k
  · rcases hq i _ x hb hx with w | w
    · exact .inl (k.trans w)
    · exact .inr (k.trans w)
theorem meet_rows {m : Nat} {p q : List Nat} (op : ProdOk m p) (oq : ProdOk m q) : meetM p q = true ↔ ∃ r ∈ rowsL m, hrow q r = true ∧ hrow p r = true := by
  constructor
  · intro h
    rw [meet_iff] at h
    let f : Nat → Bool := fun j => decide (p[j]? = some 49) || decide (q[j]? = some 49)
    have pq : ∀ j : Nat, j < m → ∃ a b, p[j]? = some a ∧ q[j]? = some b := fun j hj => ⟨_, _, List.getElem?_eq_getElem (by rw [op.1]; exact hj), List.getElem?_eq_getElem (by rw [oq.1]; exact hj)⟩
    refine ⟨mkR m f, rows_all m _ (mkR_len m f) (mkR_ok m f), ?_, ?_⟩
    · rw [hrow_iff]
      intro j b x hb hx
      rw [mkR_at hx]
      have lj := (List.getElem?_eq_some_iff.mp hb).1
      obtain ⟨a, _, ha, _⟩ := pq j (by rw [← oq.1]; exact lj)
      have fj : f j = (decide (p[j]? = some 49) || decide (q[j]? = some 49)) := rfl
      rw [fj, ha, hb]
      rcases sg_of oq hb with k | k | k
      · exact .inl k
      · right
        rcases h j a b ha hb with w | w | w
        · rw [w, k]; rfl
        · omega
        · rw [w, k]; rfl
      · right
        rw [k, if_pos (by simp)]
    · rw [hrow_iff]
      intro j a x ha hx
      rw [mkR_at hx]
      have lj := (List.getElem?_eq_some_iff.mp ha).1
      obtain ⟨_, b, _, hb⟩ := pq j (by rw [← op.1]; exact lj)
      have fj : f j = (decide (p[j]? = some 49) || decide (q[j]? = some 49)) := rfl
      rw [fj, ha, hb]
      rcases sg_of op ha with k | k | k
      · exact .inl k
      · right
        rcases h j a b ha hb with w | w | w
        · omega
        · rw [w, k]; rfl
        · rw [← w, k]; rfl
      · right
        rw [k, if_pos (by simp)]
  · rintro ⟨r, hr, h1, h2⟩
    have lr := (rowsL_ok m r hr).1
    rw [hrow_iff] at h1 h2
    rw [meet_iff]
    intro i a b ha hb
    have li := (List.getElem?_eq_some_iff.mp ha).1
    have hx : r[i]? = some (r[i]'(by rw [lr, ← op.1]; exact li)) := List.getElem?_eq_getElem _
    rcases h1 i b _ hb hx with k | k
    · exact .inr (.inl k)
    · rcases h2 i a _ ha hx with w | w
      · exact .inl w
      · exact .inr (.inr (w.trans k.symm))
theorem eqv_ints : ∀ a b : List Int, PyData.eqvAll (a.map PyData.int) (b.map PyData.int) = decide (a = b)
  | [], [] => rfl
  | [], _ :: _ => rfl
  | _ :: _, [] => rfl
  | x :: a, y :: b => by
    show ((x == y) && PyData.eqvAll (a.map PyData.int) (b.map PyData.int)) = _
    rw [eqv_ints a b]
    by_cases h : x = y
    · subst h
      simp
    · have : (x == y) = false := beq_eq_false_iff_ne.mpr h
      rw [this, Bool.false_and]
      exact (decide_eq_false fun e => h (List.cons.inj e).1).symm
theorem eqv_rows : ∀ a b : List (List Int), PyData.eqvAll (a.map rowD) (b.map rowD) = decide (a = b)
  | [], [] => rfl
  | [], _ :: _ => rfl
  | _ :: _, [] => rfl
  | x :: a, y :: b => by
    show (PyData.eqvAll (x.map PyData.int) (y.map PyData.int) && PyData.eqvAll (a.map rowD) (b.map rowD)) = _
    rw [eqv_rows a b, eqv_ints x y]
    by_cases h : x = y
    · subst h
      simp
    · rw [decide_eq_false h, Bool.false_and]
      exact (decide_eq_false fun e => h (List.cons.inj e).1).symm
def fL (m : Nat) (p : List Nat) : List (List Int) := (rowsL m).filter fun r => hrow p r
theorem both_there {m : Nat} {p q : List Nat} (op : ProdOk m p) (oq : ProdOk m q) : decide ((fL m q).filter (fun r => hrow p r) = fL m q) = hall p q := by
  have hl : p.length = q.length := by rw [op.1, oq.1]
  by_cases h : hall p q = true
  · rw [h]
    exact decide_eq_true (List.filter_eq_self.mpr fun r hr => hall_row hl h (List.mem_filter.mp hr).2)
  · rw [Bool.eq_false_iff.mpr h]
    exact decide_eq_false fun e => h (hall_of_rows op oq fun r hr hq => List.filter_eq_self.mp e r (List.mem_filter.mpr ⟨hr, hq⟩))
theorem both_comm (m : Nat) (p q : List Nat) : (fL m q).filter (fun r => hrow p r) = (fL m p).filter (fun r => hrow q r) := by
  unfold fL
  rw [List.filter_filter, List.filter_filter]
  congr 1
  funext r
  exact Bool.and_comm _ _
theorem both_here {m : Nat} {p q : List Nat} (op : ProdOk m p) (oq : ProdOk m q) : decide ((fL m q).filter (fun r => hrow p r) = fL m p) = hall q p := by
  rw [both_comm]
  exact both_there oq op
theorem both_meet {m : Nat} {p q : List Nat} (op : ProdOk m p) (oq : ProdOk m q) : (!((fL m q).filter (fun r => hrow p r)).isEmpty) = meetM p q := by
  have key : ((fL m q).filter (fun r => hrow p r)) ≠ [] ↔ meetM p q = true := by
    rw [meet_rows op oq]
    constructor
    · intro h
      obtain ⟨r, hr⟩ := List.exists_mem_of_ne_nil _ h
      have h1 := List.mem_filter.mp hr
      have h2 := List.mem_filter.mp h1.1
      exact ⟨r, h2.1, h2.2, h1.2⟩
    · rintro ⟨r, hr, h1, h2⟩ z
      have : r ∈ (fL m q).filter (fun r => hrow p r) := List.mem_filter.mpr ⟨List.mem_filter.mpr ⟨hr, h1⟩, h2⟩
      rw [z] at this
      cases this
  by_cases h : meetM p q = true
  · rw [h]
    have := key.mpr h
    cases hc : (fL m q).filter (fun r => hrow p r) with
    | nil => exact absurd hc this
    | cons _ _ => rfl
  · rw [Bool.eq_false_iff.mpr h]
    cases hc : (fL m q).filter (fun r => hrow p r) with
    | nil => rfl
    | cons x y => exact absurd (key.mp (by rw [hc]; exact List.cons_ne_nil _ _)) h
theorem meet_comm (p q : List Nat) : meetM p q = meetM q p := by
  have key : ∀ a b : List Nat, meetM a b = true → meetM b a = true := fun a b h => by
    rw [meet_iff] at h ⊢
    intro i x y hx hy
    rcases h i y x hy hx with k | k | k
    · exact .inr (.inl k)
    · exact .inl k
    · exact .inr (.inr k.symm)
  by_cases h : meetM p q = true
  · rw [h, key p q h]
  · rw [Bool.eq_false_iff.mpr h, Bool.eq_false_iff.mpr fun z => h (key q p z)]
/-- the cube of a change holds a row where each worth is one of the two -/
theorem cube_row {m : Nat} {a b r : List Int} (ok : ChOk m a b) (lr : r.length = m) (o : Row01' r) : hrow (cubeM a b) r = (r.zip (a.zip b)).all fun z => decide (z.2.1 = z.1) || decide (z.2.2 = z.1) := by
  have key : hrow (cubeM a b) r = true ↔ ((r.zip (a.zip b)).all fun z => decide (z.2.1 = z.1) || decide (z.2.2 = z.1)) = true := by
    rw [hrow_iff, List.all_eq_true]
    have w01 : ∀ x y : Int, (x = 0 ∨ x = 1) → (y = 0 ∨ y = 1) → (wS x = wS y ↔ x = y) := fun x y hx hy => by
      rcases hx with rfl | rfl <;> rcases hy with rfl | rfl <;> decide
    have w45 : ∀ x : Int, (x = 0 ∨ x = 1) → wS x ≠ 45 := fun x hx => by
      rcases hx with rfl | rfl <;> decide
    constructor
    · intro h z hz
      obtain ⟨i, hi⟩ := List.getElem?_of_mem hz
      rw [List.getElem?_zip_eq_some, List.getElem?_zip_eq_some] at hi
      obtain ⟨h1, h2, h3⟩ := hi
      have oa := ok.oa _ (List.mem_of_getElem? h2)
      have ob := ok.ob _ (List.mem_of_getElem? h3)
      have orr := o _ (List.mem_of_getElem? h1)
      have hc : (cubeM a b)[i]? = some (if z.2.1 = z.2.2 then wS z.2.1 else 45) := by
        unfold cubeM
        rw [List.getElem?_map, List.getElem?_zip_eq_some.mpr (show a[i]? = some (z.2.1, z.2.2).1 ∧ b[i]? = some (z.2.1, z.2.2).2 from ⟨h2, h3⟩)]
        rfl
      by_cases e : z.2.1 = z.2.2
      · rw [if_pos e] at hc
        rcases h i _ _ hc h1 with k | k
        · exact absurd k (w45 _ oa)
        · rw [decide_eq_true ((w01 _ _ oa orr).mp k)]; rfl
      · have : z.2.1 = z.1 ∨ z.2.2 = z.1 := by omega
        rcases this with k | k
        · rw [decide_eq_true k]; rfl
        · rw [decide_eq_true k, Bool.or_true]
    · intro h i c x hc hx
      unfold cubeM at hc
      rw [List.getElem?_map] at hc
      obtain ⟨y, hy, e⟩ := Option.map_eq_some_iff.mp hc
      have hz : (r.zip (a.zip b))[i]? = some (x, y) := by
        rw [List.getElem?_zip_eq_some]
        exact ⟨hx, hy⟩
      have g := h (x, y) (List.mem_of_getElem? hz)
      rw [List.getElem?_zip_eq_some] at hy
      have oa := ok.oa _ (List.mem_of_getElem? hy.1)
      have orr := o _ (List.mem_of_getElem? hx)
      have g' : y.1 = x ∨ y.2 = x := by simpa using g
      by_cases e' : y.1 = y.2
      · rw [if_pos e'] at e
        right
        rw [← e]
        have : y.1 = x := by rcases g' with k | k; exact k; exact e'.trans k
        rw [this]
      · rw [if_neg e'] at e
        exact .inl e.symm
  cases h1 : hrow (cubeM a b) r with
  | true => exact (key.mp h1).symm
  | false =>
    symm
    exact Bool.eq_false_iff.mpr fun z => by rw [key.mpr z] at h1; cases h1

section
variable {P : Program} {w : World} {K : PySem.W.Frag} {mg : Str → Option Value} {base : Heap}

end
end Gk

set_option Elab.async false
set_option linter.all false
set_option maxRecDepth 100000
set_option maxHeartbeats 1000000
set_option pp.maxSteps 1500
set_option pp.deepTerms false
namespace Gk
open PySem PySem.Spec PyProof.Rows L2

section
variable {P : Program} {w : World} {K : PySem.W.Frag} {mg : Str → Option Value} {base : Heap}
/-! ### pairs of products -/
theorem filter_take {α : Type} {l : List α} {f : α → Bool} {i : Nat} {a : α} (h : l[i]? = some a) : (l.take (i + 1)).filter f = (l.take i).filter f ++ (if f a = true then [a] else []) := by
  rw [List.take_add_one, h, List.filter_append]
  congr 1
  show List.filter _ [a] = _
  rw [List.filter_cons, List.filter_nil]
theorem kBB : kitB "bool" "bool" = some true := by decide +kernel
theorem kSS : kitB "str" "str" = some true := by decide +kernel
theorem ne_rows (A : List (List Int)) : (!PyData.eqv (.list (A.map rowD)) (.list [])) = !A.isEmpty := by cases A <;> rfl
theorem lay_rows : ∀ rs : List (List Int), PyData.canLayAll0 (rs.map rowD) = true
  | [] => rfl
  | a :: r => by
    show (PyData.canLay0 (rowD a) && PyData.canLayAll0 (r.map rowD)) = true
    rw [lay_rows r, Bool.and_true]
    unfold rowD
    simp only [PyData.canLay0, canLayAll_ints]
theorem depth_rows : ∀ rs : List (List Int), PyData.depthAll (rs.map rowD) ≤ 2
  | [] => Nat.zero_le _
  | a :: r => by
    rw [List.map_cons]
    unfold PyData.depthAll
    have := depth_rows r
    have : (rowD a).depth ≤ 1 := by
      unfold rowD
      simp only [PyData.depth, depthAll_ints]
      omega
    omega
theorem sh_rowsL (rs : List (List Int)) : SeqAt.shaped (.list (rs.map rowD)) = true := by
  unfold SeqAt.shaped
  rw [Bool.and_eq_true]
  refine ⟨?_, decide_eq_true ?_⟩
  · simp only [PyData.canLay0, lay_rows]
  · have := depth_rows rs
    simp only [PyData.depth]
    omega
def sp_is (K : PySem.W.Frag) : Sp := fun vs H Q _ => ∃ (b k : Bool), vs = [.bl b, .bl k] ∧ b = k ∧ Q (.bl true) H
theorem ok_is (T : Tx K mg) : FnOk P w K mg base CX0 1 T.f_is T.fd_is ["_law_found", "_law_due"] (sp_is K) := by
  refine T.F_is.ok sc_is (fun vs H Q E h => ?_) (fun cdv A outer s H vs Q E hr h => ?_)
  · obtain ⟨b, k, rfl, _⟩ := h
    rfl
  · obtain ⟨b, k, rfl, rfl, q⟩ := h
    refine ⟨_, (pss_one (ps_ret (pe_and (pe_callB call_isi (by rfl) T.m_isinstance (by decide +kernel) (pa_cons (pv 0) (pa_cons (pe_bltn (v := .ty "bool") (u := .type "bool") (by rfl) T.m_bool (by decide +kernel) rfl) pa_nil))) (pe_one (pe_cmpR op_eq (pv 0) (pv 1) (nomark _)))))), ?_⟩
    refine ⟨.bl b, rfl, _, _, _, _, _, rfl, .ty _, .base (.bl b), kit_ty kBB, _, rfl, iteT ?_⟩
    refine ⟨.bl b, rfl, .bl b, rfl, rfl, ?_⟩
    rw [decide_eq_true (rfl : V.bl b = V.bl b)]
    exact q
def sp_pair_right (T : Tx K mg) : Sp := fun vs H Q _ => ∃ (m : Nat) (p q' : List Nat), vs = [.int m, .str (SX.S p), .str (SX.S q')] ∧ m ≤ 6 ∧ ProdOk m p ∧ ProdOk m q' ∧ Tabs H T.tabs ∧ ∀ H', Gr H H' → Q (.bl true) H'
theorem ok_pair_right (T : Tx K mg) (B : Tb base T) : FnOk P w K mg base CX0 3 T.f_pair_right T.fd_pair_right ["_law_many_here", "_law_one", "_law_other"] (sp_pair_right T) := by
  refine T.F_pair_right.ok sc_pair_right (fun vs H Q E h => ?_) (fun cdv A outer s H vs Q E hr h => ?_)
  · obtain ⟨m, p, q', rfl, _⟩ := h
    rfl
  · obtain ⟨m, p, q', rfl, m6, op, oq, tabs, q⟩ := h
    refine ⟨_, (pss_cons (ps_setLc (i := 3) (own := [("_law_row_here", 6)]) (by rfl) sc_pair_right.nd rfl rfl (sw_true rfl rfl rfl (by decide +kernel)) (pi_list (pe_call (ok_rows T) (hr.mono (by decide)) (by rfl) T.g_rows T.F_rows.kp T.b_rows .nil pass0 (pa_cons (pv 0) pa_nil))) (blkOk_by (own := [("_law_row_here", 6)]) (N := ["_law_many_here", "_law_one", "_law_other", "_law_here", "_law_there", "_law_both", "_law_row_here"]) (sc := defScope s_pair_right) (by decide +kernel)) (fun _ _ _ _ _ => (pg_name (i := 6) sc_pair_right.nd rfl (by first | exact .inl rfl | exact .inr rfl))) (fun _ _ _ _ _ => (pts_one (pt_val (pe_call (ok_holds T) (hr.mono (by decide)) (by rfl) T.g_holds T.F_holds.kp T.b_holds .nil pass0 (pa_cons (pv 1) (pa_cons (pv 6) pa_nil)))))) (fun _ _ _ _ _ => (pv 6))) (pss_cons (ps_setLc (i := 4) (own := [("_law_row_here", 6)]) (by rfl) sc_pair_right.nd rfl rfl (sw_true rfl rfl rfl (by decide +kernel)) (pi_list (pe_call (ok_rows T) (hr.mono (by decide)) (by rfl) T.g_rows T.F_rows.kp T.b_rows .nil pass0 (pa_cons (pv 0) pa_nil))) (blkOk_by (own := [("_law_row_here", 6)]) (N := ["_law_many_here", "_law_one", "_law_other", "_law_here", "_law_there", "_law_both", "_law_row_here"]) (sc := defScope s_pair_right) (by decide +kernel)) (fun _ _ _ _ _ => (pg_name (i := 6) sc_pair_right.nd rfl (by first | exact .inl rfl | exact .inr rfl))) (fun _ _ _ _ _ => (pts_one (pt_val (pe_call (ok_holds T) (hr.mono (by decide)) (by rfl) T.g_holds T.F_holds.kp T.b_holds .nil pass0 (pa_cons (pv 2) (pa_cons (pv 6) pa_nil)))))) (fun _ _ _ _ _ => (pv 6))) (pss_cons (ps_setLc (i := 5) (own := [("_law_row_here", 6)]) (by rfl) sc_pair_right.nd rfl rfl (sw_true rfl rfl rfl (by decide +kernel)) (pi_list (pv 4)) (blkOk_by (own := [("_law_row_here", 6)]) (N := ["_law_many_here", "_law_one", "_law_other", "_law_here", "_law_there", "_law_both", "_law_row_here"]) (sc := defScope s_pair_right) (by decide +kernel)) (fun _ _ _ _ _ => (pg_name (i := 6) sc_pair_right.nd rfl (by first | exact .inl rfl | exact .inr rfl))) (fun _ _ _ _ _ => (pts_one (pt_val (pe_call (ok_holds T) (hr.mono (by decide)) (by rfl) T.g_holds T.F_holds.kp T.b_holds .nil pass0 (pa_cons (pv 1) (pa_cons (pv 6) pa_nil)))))) (fun _ _ _ _ _ => (pv 6))) (pss_cons (ps_if (pw_or (pt_not (pt_val (pe_call (ok_is T) (hr.mono (by decide)) (by rfl) T.g_is T.F_is.kp T.b_is .nil pass0 (pa_cons (pe_call (ok_holds_all T B) (hr.mono (by decide)) (by rfl) T.g_holds_all T.F_holds_all.kp T.b_holds_all .nil pass0 (pa_cons (pv 1) (pa_cons (pv 2) pa_nil))) (pa_cons (pe_cmpR (op_eqD hr.units) (pv 5) (pv 4) (nomark _)) pa_nil))))) (pw_or1 (pt_not (pt_val (pe_call (ok_is T) (hr.mono (by decide)) (by rfl) T.g_is T.F_is.kp T.b_is .nil pass0 (pa_cons (pe_call (ok_meet T B) (hr.mono (by decide)) (by rfl) T.g_meet T.F_meet.kp T.b_meet .nil pass0 (pa_cons (pv 1) (pa_cons (pv 2) pa_nil))) (pa_cons (pe_cmpR (op_neD hr.units) (pv 5) (pe_lst pa_nil) (nomark _)) pa_nil))))))).pt (pss_one (ps_ret pe_bl)) pss_nil) (pss_one (ps_ret (pe_and (pe_call (ok_is T) (hr.mono (by decide)) (by rfl) T.g_is T.F_is.kp T.b_is .nil pass0 (pa_cons (pe_call (ok_holds_all T B) (hr.mono (by decide)) (by rfl) T.g_holds_all T.F_holds_all.kp T.b_holds_all .nil pass0 (pa_cons (pv 2) (pa_cons (pv 1) pa_nil))) (pa_cons (pe_cmpR (op_eqD hr.units) (pv 5) (pv 3) (nomark _)) pa_nil))) (pe_one (pe_call (ok_is T) (hr.mono (by decide)) (by rfl) T.g_is T.F_is.kp T.b_is .nil pass0 (pa_cons (pe_call (ok_meet T B) (hr.mono (by decide)) (by rfl) T.g_meet T.F_meet.kp T.b_meet .nil pass0 (pa_cons (pv 2) (pa_cons (pv 1) pa_nil))) (pa_cons (pe_cmpR (op_neD hr.units) (pv 5) (pe_lst pa_nil) (nomark _)) pa_nil))))))))))), ?_⟩
    have hl : p.length = q'.length := by rw [op.1, oq.1]
    have big : (rowsL m).length ≤ 64 := by
      rw [rowsL_len]
      exact Nat.pow_le_pow_right (by decide) m6
    refine ⟨.int m, rfl, m, rfl, m6, fun ca H1 s1 tc => ?_⟩
    obtain ⟨_, cs, e, hca, tcs⟩ := tc.lst_inv
    cases e
    refine ⟨ca, rfl, ⟨_, SqL.of hca⟩, fun L nL => ?_⟩
    refine lc_list (K := K) (a := ca) (xs := cs) (fun j H' => Same H1 (hd1 L H') ∧ ∃ acc, H' L = some (.lst acc) ∧ TkAll (hd1 L H') acc ((((rowsL m).take j).filter fun r => hrow p r).map rowD)) ⟨hd1_of (same_upd nL) nL, [], upd_same, .nil⟩ (fun j H' _ z => SqL.of (hd1_le _ _ (z.1 _ _ hca))) ?_ ?_
    · rintro j x H2 hx ⟨s2, acc, hL, ta⟩
      obtain ⟨r, hr', tx⟩ := tcs.at hx
      obtain ⟨ra, rfl, hra⟩ := Tk.row_inv tx
      have okr := rowsL_ok m r (List.mem_of_getElem? hr')
      refine ⟨rfl, .str (SX.S p), rfl, .ref ra, rfl, m, p, ra, r, rfl, op, hd1_le _ _ (s2 _ _ hra), okr.2, okr.1, fun H3 s3 => ⟨_, rfl, ?_⟩⟩
      have sL := s2.trans (hd1_same (p := L) s3)
      refine ite2 (fun e => ?_) (fun e => ?_)
      · refine ⟨.ref ra, rfl, acc, s3 _ _ hL, ?_, sL.trans hd1_upd, acc ++ [.ref ra], upd_same, ?_⟩
        · have l1 := ta.length
          rw [List.length_map] at l1
          have l2 := List.length_filter_le (fun r => hrow p r) ((rowsL m).take j)
          rw [List.length_take] at l2
          have l3 : (rowsL m).length ≤ 64 := big
          exact Nat.lt_of_lt_of_le (show _ < 128 by omega) (by decide)
        · rw [filter_take hr', if_pos e, List.map_append]
          exact ((ta.same (hd1_same s3)).same hd1_upd).append (.cons (tx.same (sL.trans hd1_upd)) .nil)
      · exact ⟨sL, acc, s3 _ _ hL, by rw [filter_take hr', if_neg e, List.append_nil]; exact ta.same (hd1_same s3)⟩
    rintro H2 ⟨s2', aL, hL, tL⟩
    have s2 : Same H1 H2 := fun b o e => hd1_le _ _ (s2' _ _ e)
    have lcs : cs.length = (rowsL m).length := by rw [tcs.length, List.length_map]
    rw [lcs, List.take_length] at tL
    replace tL := tL.same hd1_le
    refine ⟨.int m, rfl, m, rfl, m6, fun cb H3 s3 tc2 => ?_⟩
    obtain ⟨_, cs2, e, hcb, tcs2⟩ := tc2.lst_inv
    cases e
    refine ⟨cb, rfl, ⟨_, SqL.of hcb⟩, fun M nM => ?_⟩
    refine lc_list (K := K) (a := cb) (xs := cs2) (fun j H' => Same H3 (hd1 M H') ∧ ∃ acc, H' M = some (.lst acc) ∧ TkAll (hd1 M H') acc ((((rowsL m).take j).filter fun r => hrow q' r).map rowD)) ⟨hd1_of (same_upd nM) nM, [], upd_same, .nil⟩ (fun j H' _ z => SqL.of (hd1_le _ _ (z.1 _ _ hcb))) ?_ ?_
    · rintro j x H2 hx ⟨s2, acc, hL, ta⟩
      obtain ⟨r, hr', tx⟩ := tcs2.at hx
      obtain ⟨ra, rfl, hra⟩ := Tk.row_inv tx
      have okr := rowsL_ok m r (List.mem_of_getElem? hr')
      refine ⟨rfl, .str (SX.S q'), rfl, .ref ra, rfl, m, q', ra, r, rfl, oq, hd1_le _ _ (s2 _ _ hra), okr.2, okr.1, fun H3 s3 => ⟨_, rfl, ?_⟩⟩
      have sL := s2.trans (hd1_same (p := M) s3)
      refine ite2 (fun e => ?_) (fun e => ?_)
      · refine ⟨.ref ra, rfl, acc, s3 _ _ hL, ?_, sL.trans hd1_upd, acc ++ [.ref ra], upd_same, ?_⟩
        · have l1 := ta.length
          rw [List.length_map] at l1
          have l2 := List.length_filter_le (fun r => hrow q' r) ((rowsL m).take j)
          rw [List.length_take] at l2
          have l3 : (rowsL m).length ≤ 64 := big
          exact Nat.lt_of_lt_of_le (show _ < 128 by omega) (by decide)
        · rw [filter_take hr', if_pos e, List.map_append]
          exact ((ta.same (hd1_same s3)).same hd1_upd).append (.cons (tx.same (sL.trans hd1_upd)) .nil)
      · exact ⟨sL, acc, s3 _ _ hL, by rw [filter_take hr', if_neg e, List.append_nil]; exact ta.same (hd1_same s3)⟩
    rintro H4 ⟨s4', aM, hM, tM⟩
    have s4 : Same H3 H4 := fun b o e => hd1_le _ _ (s4' _ _ e)
    have lcs2 : cs2.length = (rowsL m).length := by rw [tcs2.length, List.length_map]
    rw [lcs2, List.take_length] at tM
    replace tM := tM.same hd1_le
    replace tM : TkAll H4 aM ((fL m q').map rowD) := tM
    have big2 : (fL m q').length ≤ 64 := Nat.le_trans (List.length_filter_le ..) big
    refine ⟨.ref M, rfl, M, rfl, ⟨_, SqL.of hM⟩, fun N nN => ?_⟩
    refine lc_list (K := K) (a := M) (xs := aM) (fun j H' => Same H4 (hd1 N H') ∧ ∃ acc, H' N = some (.lst acc) ∧ TkAll (hd1 N H') acc ((((fL m q').take j).filter fun r => hrow p r).map rowD)) ⟨hd1_of (same_upd nN) nN, [], upd_same, .nil⟩ (fun j H' _ z => SqL.of (hd1_le _ _ (z.1 _ _ hM))) ?_ ?_
    · rintro j x H2 hx ⟨s2, acc, hL, ta⟩
      obtain ⟨r, hr', tx⟩ := tM.at hx
      obtain ⟨ra, rfl, hra⟩ := Tk.row_inv tx
      have okr := rowsL_ok m r (List.mem_filter.mp (List.mem_of_getElem? hr')).1
      refine ⟨rfl, .str (SX.S p), rfl, .ref ra, rfl, m, p, ra, r, rfl, op, hd1_le _ _ (s2 _ _ hra), okr.2, okr.1, fun H3 s3 => ⟨_, rfl, ?_⟩⟩
      have sL := s2.trans (hd1_same (p := N) s3)
      refine ite2 (fun e => ?_) (fun e => ?_)
      · refine ⟨.ref ra, rfl, acc, s3 _ _ hL, ?_, sL.trans hd1_upd, acc ++ [.ref ra], upd_same, ?_⟩
        · have l1 := ta.length
          rw [List.length_map] at l1
          have l2 := List.length_filter_le (fun r => hrow p r) ((fL m q').take j)
          rw [List.length_take] at l2
          have l3 : (fL m q').length ≤ 64 := big2
          exact Nat.lt_of_lt_of_le (show _ < 128 by omega) (by decide)
        · rw [filter_take hr', if_pos e, List.map_append]
          exact ((ta.same (hd1_same s3)).same hd1_upd).append (.cons (tx.same (sL.trans hd1_upd)) .nil)
      · exact ⟨sL, acc, s3 _ _ hL, by rw [filter_take hr', if_neg e, List.append_nil]; exact ta.same (hd1_same s3)⟩
    rintro H5 ⟨s5', aN, hN, tN⟩
    have s5 : Same H4 H5 := fun b o e => hd1_le _ _ (s5' _ _ e)
    have laM : aM.length = (fL m q').length := by rw [tM.length, List.length_map]
    rw [laM, List.take_length] at tN
    replace tN := tN.same hd1_le
    have s35 := s4.trans s5
    have s25 := s3.trans s35
    have kL : Tk H5 (.ref L) (.list ((fL m p).map rowD)) := .lst (s25 _ _ hL) (tL.same s25)
    have kM : Tk H5 (.ref M) (.list ((fL m q').map rowD)) := .lst (s5 _ _ hM) (tM.same s5)
    have kN : Tk H5 (.ref N) (.list (((fL m q').filter fun r => hrow p r).map rowD)) := .lst hN tN
    have g5 : Gr H H5 := Gr.of ((s1.trans s2).trans s25)
    have eM : PyData.eqv (.list (((fL m q').filter fun r => hrow p r).map rowD)) (.list ((fL m q').map rowD)) = hall p q' := (eqv_rows _ _).trans (both_there op oq)
    have eL : PyData.eqv (.list (((fL m q').filter fun r => hrow p r).map rowD)) (.list ((fL m p).map rowD)) = hall q' p := (eqv_rows _ _).trans (both_here op oq)
    have eE : (!PyData.eqv (.list (((fL m q').filter fun r => hrow p r).map rowD)) (.list [])) = meetM p q' := (ne_rows _).trans (both_meet op oq)
    refine ⟨.str (SX.S p), rfl, .str (SX.S q'), rfl, p, q', rfl, hl, g5.tabs tabs, fun H6 g6 => ?_⟩
    refine ⟨.ref N, rfl, .ref M, rfl, _, _, (kN.gr g6).dp, (kM.gr g6).dp, sh_rowsL _, sh_rowsL _, _, _, rfl, eM.symm, _, rfl, iteF ?_⟩
    have g56 := g5.trans g6
    refine ⟨.str (SX.S p), rfl, .str (SX.S q'), rfl, p, q', rfl, hl, g56.tabs tabs, fun H7 g7 => ?_⟩
    have k7 := (kN.gr g6).gr g7
    refine ⟨.ref N, rfl, Nat.zero_le _, fun e8 ne8 => ?_⟩
    have s8 := same_upd (o := HO.lst []) ne8
    refine ⟨_, .list [], (k7.same s8).dp, .lst (SqL.of upd_same) .nil, sh_rowsL _, rfl, _, _, rfl, eE.symm, _, rfl, iteF ?_⟩
    have g8 := (g56.trans g7).trans (Gr.of s8)
    have k8 := k7.same s8
    have kL8 := ((kL.gr g6).gr g7).same s8
    refine ⟨.str (SX.S q'), rfl, .str (SX.S p), rfl, q', p, rfl, hl.symm, g8.tabs tabs, fun H9 g9 => ?_⟩
    refine ⟨.ref N, rfl, .ref L, rfl, _, _, (k8.gr g9).dp, (kL8.gr g9).dp, sh_rowsL _, sh_rowsL _, _, _, rfl, eL.symm, _, rfl, iteT ?_⟩
    have g89 := g8.trans g9
    refine ⟨.str (SX.S q'), rfl, .str (SX.S p), rfl, q', p, rfl, hl.symm, g89.tabs tabs, fun H10 g10 => ?_⟩
    have k10 := (k8.gr g9).gr g10
    refine ⟨.ref N, rfl, Nat.zero_le _, fun e11 ne11 => ?_⟩
    have s11 := same_upd (o := HO.lst []) ne11
    exact ⟨_, .list [], (k10.same s11).dp, .lst (SqL.of upd_same) .nil, sh_rowsL _, rfl, _, _, rfl, (meet_comm q' p).trans eE.symm, q _ ((g89.trans g10).trans (Gr.of s11))⟩

end
end Gk

set_option Elab.async false
set_option linter.all false
set_option maxRecDepth 100000
set_option maxHeartbeats 1000000
set_option pp.maxSteps 1500
set_option pp.deepTerms false
namespace Gk
open PySem PySem.Spec PyProof.Rows L2

section
variable {P : Program} {w : World} {K : PySem.W.Frag} {mg : Str → Option Value} {base : Heap}
/-! ### cubes of changes -/
theorem cubeM_comm : ∀ a b : List Int, cubeM a b = cubeM b a
  | [], [] => rfl
  | [], _ :: _ => rfl
  | _ :: _, [] => rfl
  | x :: a, y :: b => by
    show (if x = y then wS x else 45) :: cubeM a b = (if y = x then wS y else 45) :: cubeM b a
    rw [cubeM_comm a b]
    by_cases h : x = y
    · rw [h]
    · rw [if_neg h, if_neg fun z => h z.symm]
def inZ (z : Int × Int × Int) : Bool := decide (z.2.1 = z.1) || decide (z.2.2 = z.1)
theorem in_two (x u v : Int) : (if false = true then !inV (.int x) [V.int u, V.int v] else inV (.int x) [V.int u, V.int v]) = inZ (x, u, v) := by
  show ((u == x) || ((v == x) || false)) = (decide (u = x) || decide (v = x))
  rw [Bool.or_false]
  rfl
theorem cut_S (p : List Nat) : (SX.S p).length = p.length := SX.S_len p
def sp_cube_right (T : Tx K mg) : Sp := fun vs H Q _ => ∃ (c : Addr) (m : Nat) (a b : List Int), vs = [.int m, .ref c] ∧ ChAt H c a b ∧ ChOk m a b ∧ Tabs H T.tabs ∧ ∀ H', Gr H H' → Q (.bl true) H'
theorem ok_cube_right (T : Tx K mg) (B : Tb base T) : FnOk P w K mg base CX0 4 T.f_cube_right T.fd_cube_right ["_law_many_here", "_law_change_here"] (sp_cube_right T) := by
  refine T.F_cube_right.ok sc_cube_right (fun vs H Q E h => ?_) (fun cdv A outer s H vs Q E hr h => ?_)
  · obtain ⟨c, m, a, b, rfl, _⟩ := h
    rfl
  · obtain ⟨c, m, a, b, rfl, hch, ok, tabs, q⟩ := h
    refine ⟨_, (pss_cons (ps_set (i := 2) sc_cube_right.nd rfl (by first | exact .inl rfl | exact .inr rfl) (pe_call (ok_cube_of T B) (hr.mono (by decide)) (by rfl) T.g_cube_of T.F_cube_of.kp T.b_cube_of .nil pass0 (pa_cons (pv 1) pa_nil))) (pss_cons (ps_if (pw_or (pt_not (pt_val (pe_callB call_isi (by rfl) T.m_isinstance (by decide +kernel) (pa_cons (pv 2) (pa_cons (pe_bltn (v := .ty "str") (u := .type "str") (by rfl) T.m_str (by decide +kernel) rfl) pa_nil))))) (pw_or (pt_cmpR op_ne (pe_callB call_len_str (by rfl) T.m_len PySem.boot_len (pa_cons (pv 2) pa_nil)) (pv 0) (nomark _)) (pw_or1 (pt_cmpR op_ne (pv 2) (pe_call (ok_cube_of T B) (hr.mono (by decide)) (by rfl) T.g_cube_of T.F_cube_of.kp T.b_cube_of .nil pass0 (pa_cons (pe_tup (pa_cons (pe_ix ix_tup (pv 1) pe_int (fun _ _ => rfl)) (pa_cons (pe_ix ix_tup (pv 1) pe_int (fun _ _ => rfl)) pa_nil))) pa_nil)) (nomark _))))).pt (pss_one (ps_ret pe_bl)) pss_nil) (pss_cons (ps_for PassesOwn.never rfl (pi_list (pe_call (ok_rows T) (hr.mono (by decide)) (by rfl) T.g_rows T.F_rows.kp T.b_rows .nil pass0 (pa_cons (pv 0) pa_nil))) (pg_name (i := 3) sc_cube_right.nd rfl (by first | exact .inl rfl | exact .inr rfl)) (pss_cons (ps_set (i := 4) sc_cube_right.nd rfl (by first | exact .inl rfl | exact .inr rfl) (pe_callB (cr_all rfl) (by rfl) T.m_all (by decide +kernel) (pa_cons (pe_lc (own := [("_law_worth", 5), ("_law_pair", 6)]) (by rfl) sc_cube_right.nd (ZpZ.pi_zz (by rfl) T.m_zip (pv 3) (pa_cons (pe_ix ix_tup (pv 1) pe_int (fun _ _ => rfl)) (pa_cons (pe_ix ix_tup (pv 1) pe_int (fun _ _ => rfl)) pa_nil))) (blkOk_by (own := [("_law_worth", 5), ("_law_pair", 6)]) (N := ["_law_many_here", "_law_change_here", "_law_cube", "_law_row_here", "_law_inside", "_law_worth", "_law_pair"]) (sc := defScope s_cube_right) (by decide +kernel)) (fun _ _ _ _ _ => (show PG _ _ (gTup K 2 _) from pg_tup rfl (pgs_cons (pg_name (i := 5) sc_cube_right.nd rfl (by first | exact .inl rfl | exact .inr rfl)) (pgs_cons (pg_name (i := 6) sc_cube_right.nd rfl (by first | exact .inl rfl | exact .inr rfl)) pgs_nil)))) (fun _ _ _ _ _ => pts_nil) (fun _ _ _ _ _ => (pe_cmpR (show OpR _ _ (rIn K false) from op_in_seq) (pv 5) (pv 6) rfl))) pa_nil))) (pss_one (ps_if (pt_not (pt_val (pe_call (ok_is T) (hr.mono (by decide)) (by rfl) T.g_is T.F_is.kp T.b_is .nil pass0 (pa_cons (pe_call (ok_holds_row T B) (hr.mono (by decide)) (by rfl) T.g_holds_row T.F_holds_row.kp T.b_holds_row .nil pass0 (pa_cons (pv 2) (pa_cons (pv 3) pa_nil))) (pa_cons (pv 4) pa_nil))))) (pss_one (ps_ret pe_bl)) pss_nil)))) (pss_one (ps_ret pe_bl))))), ?_⟩
    have m6 := ok.m6
    refine ⟨.ref c, rfl, c, m, a, b, rfl, hch, ok, tabs, fun H1 g1 => ?_⟩
    refine ⟨.str (SX.S (cubeM a b)), rfl, _, _, _, _, _, rfl, .ty _, .base (.str _), kit_ty kSS, _, rfl, iteF ?_⟩
    refine ⟨.str (SX.S (cubeM a b)), rfl, _, rfl, ?_, .int (m : Nat), rfl, rfl, _, rfl, ?_⟩
    · rw [cut_S, cube_len ok]
      exact Nat.le_trans (show m ≤ 64 by omega) (by decide)
    rw [cut_S, cube_len ok, decide_eq_true (rfl : V.int (m : Nat) = V.int (m : Nat))]
    refine iteF ?_
    have hch1 := hch.gr g1
    obtain ⟨ra, rb, hc, ha, hb⟩ := id hch1
    refine ⟨.str (SX.S (cubeM a b)), rfl, .ref c, rfl, c, _, 1, .ref rb, rfl, rfl, SqT.of hc, rfl, .ref c, rfl, c, _, 0, .ref ra, rfl, rfl, SqT.of hc, rfl, sl2, fun t nt => ?_⟩
    have s2 := same_upd (o := HO.tup [V.ref rb, V.ref ra]) nt
    have g2 := g1.trans (Gr.of s2)
    refine ⟨t, m, b, a, rfl, ⟨rb, ra, upd_same, s2 _ _ hb, s2 _ _ ha⟩, ⟨ok.lb, ok.la, ok.ob, ok.oa, ok.m6⟩, g2.tabs tabs, fun H3 g3 => ⟨rfl, _, rfl, ?_⟩⟩
    rw [cubeM_comm b a, decide_eq_true (rfl : V.str (SX.S (cubeM a b)) = V.str (SX.S (cubeM a b)))]
    refine iteF ?_
    have g13 := g2.trans g3
    refine ⟨.int (m : Nat), rfl, m, rfl, m6, fun ca H4 s4 tc => ?_⟩
    have g4 := g13.trans (Gr.of s4)
    obtain ⟨_, cs, e, hca, tcs⟩ := tc.lst_inv
    cases e
    refine ⟨ca, rfl, ⟨_, SqL.of hca⟩, ?_⟩
    refine for_list (K := K) (a := ca) (xs := cs) (fun j σ H' => ∃ y3 y4, σ = [some (.int (m : Nat)), some (.ref c), some (.str (SX.S (cubeM a b))), y3, y4] ++ [none, none] ∧ Gr H4 H') ⟨_, _, rfl, Gr.refl⟩ (fun j σ H' _ ⟨_, _, _, g⟩ => SqL.of (g.lst hca)) ?_ ?_
    · rintro j x σ H5 hx ⟨y3, y4, rfl, g5⟩
      obtain ⟨r, hr', tx⟩ := tcs.at hx
      obtain ⟨rw', rfl, hrw⟩ := Tk.row_inv tx
      have okr := rowsL_ok m r (List.mem_of_getElem? hr')
      have g45 := g4.trans g5
      obtain ⟨ra, rb, hc5, ha5, hb5⟩ := hch.gr g45
      have hr5 := g5.tup hrw
      have la := ok.la
      have lb := ok.lb
      have lr := okr.1
      refine ⟨.ref rw', rfl, .ref c, rfl, c, _, 0, .ref ra, rfl, rfl, SqT.of hc5, rfl, .ref c, rfl, c, _, 1, .ref rb, rfl, rfl, SqT.of hc5, rfl, .tu rw', .tu ra, .tu rb, _, _, _, rfl, rfl, SqT.of hr5, SqT.of ha5, SqT.of hb5, fun D nD => ?_⟩
      refine ZpZ.lc_zz (K := K) (z0 := .tu rw') (z1 := .tu ra) (z2 := .tu rb) (xs0 := r.map V.int) (xs1 := a.map V.int) (xs2 := b.map V.int) (n := m) (by rw [List.length_map, lr]) (by rw [List.length_map, la]) (by rw [List.length_map, lb]) (fun j H' => Same H5 (hd1 D H') ∧ H' D = some (.lst ((((r.zip (a.zip b)).take j).map inZ).map V.bl))) ⟨hd1_of (same_upd nD) nD, upd_same⟩ (fun j H' _ z => ⟨SqT.of (hd1_le _ _ (z.1 _ _ hr5)), SqT.of (hd1_le _ _ (z.1 _ _ ha5)), SqT.of (hd1_le _ _ (z.1 _ _ hb5))⟩) ?_ ?_
      · rintro j x0 x1 x2 T1 T2 H6 h0 h1 h2 nT1 nT2 ⟨s6, hD⟩
        obtain ⟨x, hx, rfl⟩ := int_at h0
        obtain ⟨u, hu, rfl⟩ := int_at h1
        obtain ⟨v, hv, rfl⟩ := int_at h2
        have sT1 := same_upd (o := HO.tup [V.int u, V.int v]) nT1
        have hT1 : (upd H6 T1 (.tup [V.int u, V.int v])) T1 = some (.tup [V.int u, V.int v]) := upd_same
        have sT2 := same_upd (o := HO.tup [V.int x, V.ref T1]) nT2
        have s67 := sT1.trans sT2
        refine ⟨T2, _, rfl, SqT.of upd_same, rfl, _, _, rfl, _, _, rfl, rfl, rfl, ?_⟩
        refine ⟨.int x, rfl, .ref T1, rfl, T1, _, rfl, .inr (SqT.of (sT2 _ _ hT1)), rfl, rfl, _, s67 _ _ hD, ?_, (s6.trans (hd1_same s67)).trans hd1_upd, ?_⟩
        · rw [List.length_map, List.length_map, List.length_take, List.length_zip]
          exact Nat.lt_of_lt_of_le (show _ < 64 by omega) (by decide)
        · rw [upd_same, in_two]
          have ez : (r.zip (a.zip b)).take (j + 1) = (r.zip (a.zip b)).take j ++ [(x, u, v)] := zip_take_succ hx (by rw [List.getElem?_zip_eq_some]; exact ⟨hu, hv⟩)
          rw [ez, List.map_append, List.map_append]
          rfl
      · rintro H6 ⟨s6, hD⟩
        have s56 : Same H5 H6 := fun b o e => hd1_le _ _ (s6 _ _ e)
        have ll : (r.zip (a.zip b)).length ≤ m := by rw [List.length_zip]; omega
        rw [List.take_of_length_le ll] at hD
        refine ⟨D, _, rfl, SqL.of hD, ?_⟩
        have val : (((r.zip (a.zip b)).map inZ).all id) = hrow (cubeM a b) r := by
          rw [cube_row ok lr okr.2, List.all_map]
          rfl
        rw [val]
        have g6 := g45.trans (Gr.of s56)
        refine ⟨.str (SX.S (cubeM a b)), rfl, .ref rw', rfl, cubeM a b, rw', r, rfl, s56 _ _ hr5, okr.2, by rw [cube_len ok, lr], by omega, g6.tabs tabs, fun H7 g7 => ?_⟩
        refine ⟨.bl (hrow (cubeM a b) r), rfl, _, _, rfl, rfl, _, rfl, iteF ?_⟩
        exact ⟨_, _, rfl, (g5.trans (Gr.of s56)).trans g7⟩
    · rintro σ H5 ⟨y3, y4, rfl, g5⟩
      exact q H5 (g4.trans g5)

end
end Gk

set_option Elab.async false
set_option linter.all false
set_option maxRecDepth 100000
set_option maxHeartbeats 2000000
set_option pp.maxSteps 900
set_option pp.deepTerms false
namespace Gk
open PySem PySem.Spec PyProof.Rows L2
section
variable {P : Program} {w : World} {K : PySem.W.Frag} {mg : Str → Option Value} {base : Heap}
theorem S_app (a b : List Nat) : SX.S a ++ SX.S b = SX.S (a ++ b) := by
  show (⟨a.toArray ++ b.toArray⟩ : Str) = ⟨(a ++ b).toArray⟩
  congr 1
  simp
theorem cut_S1 {cs : List Nat} {h : Nat} (hl : h ≤ cs.length) : cutS (SX.S cs) none (some (h : Int)) = SX.S (cs.take h) := by
  unfold cutS
  rw [SX.S_len, HT.sIx_none, HT.sIx_nat, Nat.min_eq_left hl]
  show (⟨(((SX.S cs).cps.toList.drop 0).take (h - 0)).toArray⟩ : Str) = _
  rw [List.drop_zero, Nat.sub_zero]
theorem cut_S2 {cs : List Nat} {h : Nat} (hl : h ≤ cs.length) : cutS (SX.S cs) (some (h : Int)) none = SX.S (cs.drop h) := by
  unfold cutS
  rw [SX.S_len, HT.sIx_none, HT.sIx_nat, Nat.min_eq_left hl]
  show (⟨((cs.drop h).take (cs.length - h)).toArray⟩ : Str) = _
  rw [List.take_of_length_le (by rw [List.length_drop]; exact Nat.le_refl _)]
theorem s3c_S : Str.ofString "01-" = SX.S [48, 49, 45] := by decide +kernel
theorem it3 : ∀ k : Nat, k < 3 → ∃ c, (SX.S [48, 49, 45]).cps[k]? = some c ∧ SgOk c := by
  intro k h
  rcases k with _ | _ | _ | k
  · exact ⟨48, rfl, .inr (.inl rfl)⟩
  · exact ⟨49, rfl, .inr (.inr rfl)⟩
  · exact ⟨45, rfl, .inl rfl⟩
  · omega
theorem dpStrs {H : Hp} : ∀ ps : List (List Nat), DpAll K H (pVs ps) (ps.map fun p => PyData.str (SX.S p))
  | [] => .nil
  | p :: r => .cons (.str _) (dpStrs r)
theorem strOk_S {p : List Nat} (h : ∀ c ∈ p, SgOk c) : PyData.canLay0 (.str (SX.S p)) = true := by
  simp only [PyData.canLay0, PyData.strOk]
  rw [Array.all_eq_true_iff_forall_mem]
  intro c hc
  have : c ∈ p := by
    simpa using hc
  refine decide_eq_true ?_
  rcases h c this with rfl | rfl | rfl <;> decide
theorem lay_strs {m : Nat} : ∀ ps : List (List Nat), CovOk m ps → PyData.canLayAll0 (ps.map fun p => PyData.str (SX.S p)) = true
  | [], _ => rfl
  | p :: r, h => by
    have := lay_strs r fun q hq => h q (List.mem_cons_of_mem _ hq)
    show (PyData.canLay0 (.str (SX.S p)) && PyData.canLayAll0 (r.map fun p => PyData.str (SX.S p))) = true
    rw [this, Bool.and_true]
    exact strOk_S (h p (List.mem_cons_self ..)).2
theorem depth_strs : ∀ ps : List (List Nat), PyData.depthAll (ps.map fun p => PyData.str (SX.S p)) ≤ 1
  | [] => Nat.zero_le _
  | p :: r => by
    rw [List.map_cons]
    unfold PyData.depthAll
    have := depth_strs r
    have e : (PyData.str (SX.S p)).depth = 0 := rfl
    rw [e]
    omega
theorem sh_strsL {m : Nat} {ps : List (List Nat)} (h : CovOk m ps) : SeqAt.shaped (.list (ps.map fun p => PyData.str (SX.S p))) = true := by
  unfold SeqAt.shaped
  rw [Bool.and_eq_true]
  refine ⟨?_, decide_eq_true ?_⟩
  · simp only [PyData.canLay0, lay_strs ps h]
  · have := depth_strs ps
    simp only [PyData.depth]
    omega
theorem ne_strs (ps : List (List Nat)) : (!PyData.eqv (.list (ps.map fun p => PyData.str (SX.S p))) (.list [])) = !ps.isEmpty := by cases ps <;> rfl

theorem Tabs.fr {H H' : Hp} {Ps : List Addr} {d l : Addr} {n : Int} (t : Tabs H Ps) (D : DeckD H d l n) (f : Fr d l H H') : Tabs H' Ps := fun P hP => tab_frD D f (t P hP)
theorem last_of {ps : List (List Nat)} (h : ps.length < 4) (ne : (!ps.isEmpty) = true) : ∃ p ∈ ps, atI (pVs ps) (-1) = some (.str (SX.S p)) := by
  match ps, h, ne with
  | [a], _, _ => exact ⟨a, by simp, rfl⟩
  | [a, b], _, _ => exact ⟨b, by simp, rfl⟩
  | [a, b, c], _, _ => exact ⟨c, by simp, rfl⟩
theorem four_of {ps : List (List Nat)} (h : ps.length = 4) {i : Int} (h0 : -4 ≤ i) (h1 : i < 4) : ∃ p ∈ ps, atI (pVs ps) i = some (.str (SX.S p)) := by
  match ps, h with
  | [a, b, c, e], _ =>
    have : i = -4 ∨ i = -3 ∨ i = -2 ∨ i = -1 ∨ i = 0 ∨ i = 1 ∨ i = 2 ∨ i = 3 := by omega
    rcases this with rfl | rfl | rfl | rfl | rfl | rfl | rfl | rfl
    · exact ⟨a, by simp, rfl⟩
    · exact ⟨b, by simp, rfl⟩
    · exact ⟨c, by simp, rfl⟩
    · exact ⟨e, by simp, rfl⟩
    · exact ⟨a, by simp, rfl⟩
    · exact ⟨b, by simp, rfl⟩
    · exact ⟨c, by simp, rfl⟩
    · exact ⟨e, by simp, rfl⟩
abbrev Ch3 := Addr × List Int × List Int
def cV (cs : List Ch3) : List V := cs.map fun z => V.ref z.1
def ChsOk (H : Hp) (m : Nat) (cs : List Ch3) : Prop := ∀ z ∈ cs, ChAt H z.1 z.2.1 z.2.2 ∧ ChOk m z.2.1 z.2.2
def sp_law (K : PySem.W.Frag) (Ps : List Addr) : Sp := fun vs H Q _ => ∃ (a : Addr) (ns : List Int), vs = [.ref a] ∧ SqL K H a (ns.map V.int) ∧ ns.length ≤ 63 ∧ Tabs H Ps ∧ ∀ H', Q (.bl true) H'
theorem ok_law (T : Tx K mg) (B : Tb base T) : FnOk P w K mg base CX0 5 T.f_law T.fd_law ["_law_script"] (sp_law K T.tabs) := by
  refine T.F_law.ok sc_law (fun vs H Q E h => ?_) (fun cdv A outer s H vs Q E hr h => ?_)
  · obtain ⟨a, ns, rfl, _⟩ := h
    rfl
  · obtain ⟨a, ns, rfl, hS, hlen, tabs, q⟩ := h
    refine ⟨_, (pss_cons (ps_set (i := 1) sc_law.nd rfl (by first | exact .inl rfl | exact .inr rfl) (pe_call (ok_deck T) (hr.mono (by decide)) (by rfl) T.g_deck T.F_deck.kp T.b_deck .nil pass0 (pa_cons (pv 0) pa_nil))) (pss_cons (ps_for PassesOwn.never rfl (pi_range1 (by rfl) T.m_range (pa_cons pe_int pa_nil)) (pg_name (i := 2) sc_law.nd rfl (by first | exact .inl rfl | exact .inr rfl)) (pss_cons (ps_set (i := 3) sc_law.nd rfl (by first | exact .inl rfl | exact .inr rfl) (pe_call (ok_many T) (hr.mono (by decide)) (by rfl) T.g_many T.F_many.kp T.b_many .nil pass0 (pa_cons (pv 1) pa_nil))) (pss_cons (ps_set (i := 4) sc_law.nd rfl (by first | exact .inl rfl | exact .inr rfl) (pe_lst pa_nil)) (pss_cons (ps_for PassesOwn.never rfl (pi_range1 (by rfl) T.m_range (pa_cons pe_int pa_nil)) (pg_name (i := 5) sc_law.nd rfl (by first | exact .inl rfl | exact .inr rfl)) (pss_cons (ps_set (i := 6) sc_law.nd rfl (by first | exact .inl rfl | exact .inr rfl) (pe_call (ok_draw T) (hr.mono (by decide)) (by rfl) T.g_draw T.F_draw.kp T.b_draw .nil pass0 (pa_cons (pv 1) (pa_cons pe_int pa_nil)))) (pss_cons (ps_set (i := 7) sc_law.nd rfl (by first | exact .inl rfl | exact .inr rfl) (pe_call (ok_product T) (hr.mono (by decide)) (by rfl) T.g_product T.F_product.kp T.b_product .nil pass0 (pa_cons (pv 1) (pa_cons (pv 3) pa_nil)))) (C8.pss_cut (ps_if (pw_and (pt_cmpR op_eq (pv 6) pe_int (nomark _)) (pw_and1 (pt_cmpR (op_neD hr.units) (pv 4) (pe_lst pa_nil) (nomark _)))).pt (pss_cons (ps_set (i := 8) sc_law.nd rfl (by first | exact .inl rfl | exact .inr rfl) (pe_call (ok_draw T) (hr.mono (by decide)) (by rfl) T.g_draw T.F_draw.kp T.b_draw .nil pass0 (pa_cons (pv 1) (pa_cons (pv 3) pa_nil)))) (pss_one (ps_set (i := 7) sc_law.nd rfl (by first | exact .inl rfl | exact .inr rfl) (pe_op op_add_str (pe_op op_add_str (pe_slice sl_str (pe_ix ix_list (pv 4) (pe_un un_neg pe_int) (fun _ _ => rfl)) po_none (po_some (pv 8))) (pe_item_str pe_str (pe_call (ok_draw T) (hr.mono (by decide)) (by rfl) T.g_draw T.F_draw.kp T.b_draw .nil pass0 (pa_cons (pv 1) (pa_cons pe_int pa_nil))) (fun _ _ => rfl))) (pe_slice sl_str (pe_ix ix_list (pv 4) (pe_un un_neg pe_int) (fun _ _ => rfl)) (po_some (pe_op op_add (pv 8) pe_int)) po_none))))) pss_nil) (pss_one (ps_expr (pe_bm PySem.F.plainAttrs_list PySem.F.slot_list_append PySem.F.type_list_append mt_append (pv 4) (pa_cons (pv 7) pa_nil)))))))) (pss_cons (ps_for PassesOwn.never rfl (pi_list (pv 4)) (pg_name (i := 7) sc_law.nd rfl (by first | exact .inl rfl | exact .inr rfl)) (pss_one (ps_for PassesOwn.never rfl (pi_list (pe_call (ok_rows T) (hr.mono (by decide)) (by rfl) T.g_rows T.F_rows.kp T.b_rows .nil pass0 (pa_cons (pv 3) pa_nil))) (pg_name (i := 9) sc_law.nd rfl (by first | exact .inl rfl | exact .inr rfl)) (pss_one (ps_if (pt_not (pt_val (pe_call (ok_is T) (hr.mono (by decide)) (by rfl) T.g_is T.F_is.kp T.b_is .nil pass0 (pa_cons (pe_call (ok_holds_row T B) (hr.mono (by decide)) (by rfl) T.g_holds_row T.F_holds_row.kp T.b_holds_row .nil pass0 (pa_cons (pv 7) (pa_cons (pv 9) pa_nil))) (pa_cons (pe_call (ok_holds T) (hr.mono (by decide)) (by rfl) T.g_holds T.F_holds.kp T.b_holds .nil pass0 (pa_cons (pv 7) (pa_cons (pv 9) pa_nil))) pa_nil))))) (pss_one (ps_ret pe_bl)) pss_nil))))) (pss_cons (ps_for PassesOwn.never rfl (pi_range1 (by rfl) T.m_range (pa_cons pe_int pa_nil)) (pg_name (i := 5) sc_law.nd rfl (by first | exact .inl rfl | exact .inr rfl)) (pss_cons (ps_if (pw_or (pt_not (pt_val (pe_call (ok_pair_right T B) (hr.mono (by decide)) (by rfl) T.g_pair_right T.F_pair_right.kp T.b_pair_right .nil pass0 (pa_cons (pv 3) (pa_cons (pe_ix ix_list (pv 4) (pv 5) (fun _ _ => rfl)) (pa_cons (pe_ix ix_list (pv 4) (pe_op op_sub (pv 5) pe_int) (fun _ _ => rfl)) pa_nil)))))) (pw_or1 (pt_not (pt_val (pe_call (ok_pair_right T B) (hr.mono (by decide)) (by rfl) T.g_pair_right T.F_pair_right.kp T.b_pair_right .nil pass0 (pa_cons (pv 3) (pa_cons (pe_ix ix_list (pv 4) (pv 5) (fun _ _ => rfl)) (pa_cons (pe_ix ix_list (pv 4) (pe_op op_sub (pv 5) pe_int) (fun _ _ => rfl)) pa_nil)))))))).pt (pss_one (ps_ret pe_bl)) pss_nil) (pss_one (ps_if (pt_not (pt_val (pe_call (ok_pair_right T B) (hr.mono (by decide)) (by rfl) T.g_pair_right T.F_pair_right.kp T.b_pair_right .nil pass0 (pa_cons (pv 3) (pa_cons (pe_ix ix_list (pv 4) (pv 5) (fun _ _ => rfl)) (pa_cons (pe_ix ix_list (pv 4) (pv 5) (fun _ _ => rfl)) pa_nil)))))) (pss_one (ps_ret pe_bl)) pss_nil)))) (pss_one (ps_for PassesOwn.never rfl (pi_list (pe_lc (own := [("_law_k", 5)]) (by rfl) sc_law.nd (pi_range1 (by rfl) T.m_range (pa_cons pe_int pa_nil)) (blkOk_by (own := [("_law_k", 5)]) (N := ["_law_script", "_law_deck_here", "_law_turn", "_law_many_here", "_law_some", "_law_k", "_law_way", "_law_product_here", "_law_place", "_law_row_here", "_law_change_here"]) (sc := defScope s_law) (by decide +kernel)) (fun _ _ _ _ _ => (pg_name (i := 5) sc_law.nd rfl (by first | exact .inl rfl | exact .inr rfl))) (fun _ _ _ _ _ => pts_nil) (fun _ _ _ _ _ => (pe_call (ok_change T) (hr.mono (by decide)) (by rfl) T.g_change T.F_change.kp T.b_change .nil pass0 (pa_cons (pv 1) (pa_cons (pv 3) pa_nil)))))) (pg_name (i := 10) sc_law.nd rfl (by first | exact .inl rfl | exact .inr rfl)) (pss_one (ps_if (pt_not (pt_val (pe_call (ok_cube_right T B) (hr.mono (by decide)) (by rfl) T.g_cube_right T.F_cube_right.kp T.b_cube_right .nil pass0 (pa_cons (pv 3) (pa_cons (pv 10) pa_nil))))) (pss_one (ps_ret pe_bl)) pss_nil)))))))))) (pss_one (ps_ret pe_bl)))), ?_⟩
    refine ⟨.ref a, rfl, a, ns, rfl, hS, hlen, fun H1 d l s1 D1 => ?_⟩
    have t1 := (Gr.of s1).tabs tabs
    refine ⟨3, rfl, by decide, by decide, ?_⟩
    refine for_range (lo := 0) (n := (3 : Int).toNat) (fun i σ H' => ∃ y2 y3 y4 y5 y6 y7 y8 y9 y10, σ = [some (.ref a), some (.ref d), y2, y3, y4, y5, y6, y7, y8, y9, y10] ∧ DeckD H' d l (500 * i) ∧ Tabs H' T.tabs)
      ⟨_, _, _, _, _, _, _, _, _, rfl, D1.mono (by omega), t1⟩ ?_ ?_
    · rintro i σ H2 hi ⟨y2, y3, y4, y5, y6, y7, y8, y9, y10, rfl, D2, t2⟩
      have hi' : i < 3 := hi
      refine ⟨.ref d, rfl, d, l, _, rfl, D2, by omega, fun m H3 D3 fr3 m1 m6 => ?_⟩
      have t3 := t2.fr D2 fr3
      refine ⟨Nat.zero_le _, fun F nF => ?_⟩
      have oF := D3.off nF
      have sF := same_upd (o := HO.lst []) nF
      refine ⟨4, rfl, by decide, by decide, ?_⟩
      refine for_range (lo := 0) (n := (4 : Int).toNat) (fun k σ H' => ∃ y5 y6 y7 y8 y9 y10, σ = [some (.ref a), some (.ref d), some (.int (0 + (i : Int))), some (.int m), some (.ref F), y5, y6, y7, y8, y9, y10] ∧ DeckD H' d l (500 * i + 10 + 30 * k) ∧ Tabs H' T.tabs ∧ ∃ ps, H' F = some (.lst (pVs ps)) ∧ ps.length = k ∧ CovOk m ps)
        ⟨_, _, _, _, _, _, rfl, (D3.same sF).mono (by omega), (Gr.of sF).tabs t3, [], upd_same, rfl, fun p hp => by cases hp⟩ ?_ ?_
      · rintro k σ H4 hk ⟨y5, y6, y7, y8, y9, y10, rfl, D4, t4, ps, hF4, lps, okp⟩
        have hk' : k < 4 := hk
        refine ⟨.ref d, rfl, d, l, 4, _, rfl, D4, by omega, by decide, by decide, fun H5 z D5 fr5 z0 z1 => ?_⟩
        have t5 := t4.fr D4 fr5
        refine ⟨.ref d, rfl, .int m, rfl, d, l, _, m, rfl, D5, by omega, m1, m6, fun p H6 D6 fr6 okp6 => ?_⟩
        have t6 := t5.fr D5 fr6
        have hF6 := fr6 _ _ oF.1 oF.2 (fr5 _ _ oF.1 oF.2 hF4)
        refine ⟨fun σ H' => ∃ p'' y8', σ = [some (.ref a), some (.ref d), some (.int (0 + (i : Int))), some (.int m), some (.ref F), some (.int (0 + (k : Int))), some (.int z), some (.str (SX.S p'')), y8', y9, y10] ∧ DeckD H' d l (500 * i + 10 + 30 * k + 20) ∧ Tabs H' T.tabs ∧ H' F = some (.lst (pVs ps)) ∧ ProdOk m p'', ?_, ?_⟩
        · refine ⟨.int z, rfl, rfl, _, rfl, ite2 (fun _ => ?_) (fun _ => ⟨p, y8, rfl, D6.mono (by omega), t6, hF6, okp6⟩)⟩
          refine ⟨.ref F, rfl, Nat.zero_le _, fun e ne => ?_⟩
          have s7 := same_upd (o := HO.lst []) ne
          have hF7 := s7 _ _ hF6
          refine ⟨.list (ps.map fun p => .str (SX.S p)), .list [], .lst (SqL.of hF7) (dpStrs ps), .lst (SqL.of upd_same) .nil, sh_strsL okp, rfl, _, rfl, ?_⟩
          rw [ne_strs]
          refine ite2 (fun e => ?_) (fun e => ⟨p, y8, rfl, (D6.same s7).mono (by omega), (Gr.of s7).tabs t6, hF7, okp6⟩)
          have D7 := D6.same s7
          have t7 := (Gr.of s7).tabs t6
          revert hF7 D7 t7
          generalize upd H6 _ _ = H7
          intro hF7 D7 t7
          obtain ⟨p', hp', hat⟩ := last_of (by omega) e
          have okp' := okp p' hp'
          have lp' := okp'.1
          refine ⟨.ref d, rfl, .int m, rfl, d, l, m, _, rfl, D7, by omega, by omega, by omega, fun H8 u D8 fr8 u0 u1 => ?_⟩
          have t8 := t7.fr D7 fr8
          have hF8 := fr8 _ _ oF.1 oF.2 hF7
          obtain ⟨j, rfl⟩ := Int.eq_ofNat_of_zero_le u0
          have hj : j < p'.length := by omega
          have okl : (SX.S p').length ≤ sizeLine := by
            rw [SX.S_len]
            exact Nat.le_trans (show p'.length ≤ 64 by omega) (by decide)
          refine ⟨.ref F, rfl, 1, rfl, F, _, (-1), _, rfl, rfl, SqL.of hF8, hat, .int (j : Nat), rfl, (j : Int), rfl, SX.S p', rfl, okl, ?_⟩
          rw [cut_S1 (Nat.le_of_lt hj)]
          refine ⟨.ref d, rfl, d, l, 3, _, rfl, D8, by omega, by decide, by decide, fun H9 v D9 fr9 v0 v1 => ?_⟩
          have t9 := t8.fr D8 fr9
          have hF9 := fr9 _ _ oF.1 oF.2 hF8
          obtain ⟨c, hc, okc⟩ := it3 v.toNat (by omega)
          refine ⟨Str.ofString "01-", v, c, rfl, rfl, v0, by omega, by rw [s3c_S, SX.S_len]; show v < 3; omega, by rw [s3c_S]; exact hc, ?_⟩
          refine ⟨_, _, rfl, rfl, ?_, ?_⟩
          · rw [SX.S_len, List.length_take]
            exact Nat.le_trans (show _ ≤ 64 by show min j p'.length + 1 ≤ 64; omega) (by decide)
          have e1 : SX.S (p'.take j) ++ (⟨#[c]⟩ : Str) = SX.S (p'.take j ++ [c]) := S_app _ [c]
          rw [e1]
          refine ⟨.ref F, rfl, 1, rfl, F, _, (-1), _, rfl, rfl, SqL.of hF9, hat, .int (j : Nat), rfl, _, _, rfl, rfl, ((j + 1 : Nat) : Int), rfl, ?_⟩
          refine ⟨SX.S p', rfl, okl, ?_⟩
          rw [cut_S2 hj]
          refine ⟨_, _, rfl, rfl, ?_, ?_⟩
          · rw [SX.S_len, SX.S_len, List.length_append, List.length_take, List.length_drop]
            exact Nat.le_trans (show _ ≤ 64 by simp only [List.length_cons, List.length_nil]; omega) (by decide)
          rw [S_app, set_put hj]
          refine ⟨p'.set j c, _, rfl, D9.mono (by omega), t9, hF9, by rw [List.length_set, lp'], fun z hz => ?_⟩
          rcases List.mem_or_eq_of_mem_set hz with h | h
          · exact okp'.2 z h
          · rw [h]; exact okc
        · rintro σ H7 ⟨p'', y8', rfl, D7, t7, hF7, okp''⟩
          refine ⟨.ref F, rfl, .inl ⟨rfl, _, SqL.of hF7⟩, .str (SX.S p''), rfl, F, _, _, rfl, rfl, hF7, ?_, ?_⟩
          · unfold pVs
            rw [List.length_map]
            exact Nat.lt_of_lt_of_le (show _ < 64 by omega) (by decide)
          · refine ⟨_, _, _, _, _, _, rfl, (D7.upd oF.1 oF.2).mono (by push_cast; omega), ?_, ps ++ [p''], ?_, by rw [List.length_append, lps]; rfl, fun r hr => ?_⟩
            · exact fun P hP => by
                obtain ⟨xs, e, tr⟩ := t7 P hP
                exact ⟨xs, by rw [upd_ne (ne_of e hF7 (by intro z; cases z))]; exact e, tr⟩
            · rw [upd_same]
              unfold pVs
              rw [List.map_append]
              rfl
            · rcases List.mem_append.mp hr with h | h
              · exact okp r h
              · rw [List.mem_singleton.mp h]; exact okp''
      rintro σ H4 ⟨y5, y6, y7, y8, y9, y10, rfl, D4, t4, ps, hF4, lps, okp⟩
      have lps' : ps.length = 4 := lps
      replace D4 : DeckD H4 d l (500 * i + 130) := D4.mono (by show (500 * i + 10 + 30 * ((4 : Nat) : Int) : Int) ≤ _; omega)
      -- each of them at each row
      refine ⟨.ref F, rfl, F, rfl, ⟨_, SqL.of hF4⟩, ?_⟩
      refine for_list (K := K) (a := F) (xs := pVs ps) (fun j σ H' => ∃ y5 y6 y7 y8 y9 y10, σ = [some (.ref a), some (.ref d), some (.int (0 + (i : Int))), some (.int m), some (.ref F), y5, y6, y7, y8, y9, y10] ∧ Gr H4 H') ⟨_, _, _, _, _, _, rfl, Gr.refl⟩ (fun j σ H' _ ⟨_, _, _, _, _, _, _, g⟩ => SqL.of (g.lst hF4)) ?_ ?_
      · rintro j x σ H5 hx ⟨y5, y6, y7, y8, y9, y10, rfl, g5⟩
        obtain ⟨p, hp, rfl⟩ := pV_at hx
        have op := okp p (List.mem_of_getElem? hp)
        refine ⟨.int m, rfl, m, rfl, m6, fun ca H6 s6 tc => ?_⟩
        obtain ⟨_, cs, e, hca, tcs⟩ := tc.lst_inv
        cases e
        have g6 := g5.trans (Gr.of s6)
        refine ⟨ca, rfl, ⟨_, SqL.of hca⟩, ?_⟩
        refine for_list (K := K) (a := ca) (xs := cs) (fun j σ H' => ∃ y9, σ = [some (.ref a), some (.ref d), some (.int (0 + (i : Int))), some (.int m), some (.ref F), y5, y6, some (.str (SX.S p)), y8, y9, y10] ∧ Gr H6 H') ⟨_, rfl, Gr.refl⟩ (fun j σ H' _ ⟨_, _, g⟩ => SqL.of (g.lst hca)) ?_ ?_
        · rintro j x σ H7 hx ⟨y9, rfl, g7⟩
          obtain ⟨r, hr', tx⟩ := tcs.at hx
          obtain ⟨ra, rfl, hra⟩ := Tk.row_inv tx
          have okr := rowsL_ok m r (List.mem_of_getElem? hr')
          have g67 := g6.trans g7
          have hra7 := g7.tup hra
          refine ⟨.str (SX.S p), rfl, .ref ra, rfl, p, ra, r, rfl, hra7, okr.2, by rw [op.1, okr.1], by have := okr.1; omega, g67.tabs t4, fun H8 g8 => ?_⟩
          refine ⟨.str (SX.S p), rfl, .ref ra, rfl, m, p, ra, r, rfl, op, g8.tup hra7, okr.2, okr.1, fun H9 s9 => ?_⟩
          refine ⟨_, _, rfl, rfl, _, rfl, iteF ?_⟩
          exact ⟨_, rfl, (g7.trans g8).trans (Gr.of s9)⟩
        · rintro σ H7 ⟨y9, rfl, g7⟩
          exact ⟨_, _, _, _, _, _, rfl, g6.trans g7⟩
      rintro σ H5 ⟨y5, y6, y7, y8, y9, y10, rfl, g5⟩
      -- two by two
      refine ⟨4, rfl, by decide, by decide, ?_⟩
      refine for_range (lo := 0) (n := (4 : Int).toNat) (fun k σ H' => ∃ y5, σ = [some (.ref a), some (.ref d), some (.int (0 + (i : Int))), some (.int m), some (.ref F), y5, y6, y7, y8, y9, y10] ∧ Gr H4 H') ⟨_, rfl, g5⟩ ?_ ?_
      · rintro k σ H6 hk ⟨y5, rfl, g6⟩
        have hk' : k < 4 := hk
        obtain ⟨p0, hp0, at0⟩ := four_of lps' (i := 0 + (k : Int)) (by omega) (by omega)
        obtain ⟨p1, hp1, at1⟩ := four_of lps' (i := 0 + (k : Int) - 1) (by omega) (by omega)
        obtain ⟨p2, hp2, at2⟩ := four_of lps' (i := 0 + (k : Int) - 2) (by omega) (by omega)
        have o0 := okp _ hp0
        have hF6 := g6.lst hF4
        refine ⟨.int m, rfl, .ref F, rfl, .int (0 + (k : Int)), rfl, F, _, _, _, rfl, rfl, SqL.of hF6, at0, .ref F, rfl, .int (0 + (k : Int)), rfl, _, _, rfl, rfl, F, _, _, _, rfl, rfl, SqL.of hF6, at1, m, p0, p1, rfl, m6, o0, okp _ hp1, g6.tabs t4, fun H7 g7 => ⟨_, rfl, iteF ?_⟩⟩
        have g67 := g6.trans g7
        have hF7 := g7.lst hF6
        refine ⟨.int m, rfl, .ref F, rfl, .int (0 + (k : Int)), rfl, F, _, _, _, rfl, rfl, SqL.of hF7, at0, .ref F, rfl, .int (0 + (k : Int)), rfl, _, _, rfl, rfl, F, _, _, _, rfl, rfl, SqL.of hF7, at2, m, p0, p2, rfl, m6, o0, okp _ hp2, g67.tabs t4, fun H8 g8 => ⟨_, rfl, iteF ?_⟩⟩
        have g68 := g67.trans g8
        have hF8 := g8.lst hF7
        refine ⟨.int m, rfl, .ref F, rfl, .int (0 + (k : Int)), rfl, F, _, _, _, rfl, rfl, SqL.of hF8, at0, .ref F, rfl, .int (0 + (k : Int)), rfl, F, _, _, _, rfl, rfl, SqL.of hF8, at0, m, p0, p0, rfl, m6, o0, o0, g68.tabs t4, fun H9 g9 => ⟨_, rfl, iteF ?_⟩⟩
        exact ⟨_, rfl, g68.trans g9⟩
      rintro σ H6 ⟨y5', rfl, g6⟩
      have D6 := D4.gr g6
      have t6 := g6.tabs t4
      -- changes
      refine ⟨2, rfl, by decide, by decide, fun D nD => ?_⟩
      have oD := D6.off nD
      have sD := same_upd (o := HO.lst []) nD
      refine lc_range (lo := 0) (n := (2 : Int).toNat) (fun j H' => DeckD H' d l (500 * i + 130 + 20 * j) ∧ Tabs H' T.tabs ∧ ∃ cs : List Ch3, H' D = some (.lst (cV cs)) ∧ cs.length = j ∧ ChsOk H' m cs) ⟨(D6.same sD).mono (by omega), (Gr.of sD).tabs t6, [], upd_same, rfl, fun z hz => by cases hz⟩ ?_ ?_
      · rintro j H7 hj ⟨D7, t7, cs, hD7, lcs, okc⟩
        have hj' : j < 2 := hj
        refine ⟨rfl, .ref d, rfl, .int m, rfl, d, l, _, m, rfl, D7, by omega, m1, m6, fun c a' b' H8 D8 fr8 hch ok => ?_⟩
        have hD8 := fr8 _ _ oD.1 oD.2 hD7
        have t8 := t7.fr D7 fr8
        have tsU : Ts H8 (upd H8 D (.lst (cV cs ++ [.ref c]))) := Ts.set hD8
        refine ⟨cV cs, hD8, ?_, (D8.upd oD.1 oD.2).mono (by push_cast; omega), ?_, cs ++ [(c, a', b')], ?_, by rw [List.length_append, lcs]; rfl, fun z hz => ?_⟩
        · unfold cV
          rw [List.length_map]
          exact Nat.lt_of_lt_of_le (show _ < 64 by omega) (by decide)
        · exact fun P hP => by
            obtain ⟨xs, e, tr⟩ := t8 P hP
            exact ⟨xs, by rw [upd_ne (ne_of e hD8 (by intro z; cases z))]; exact e, tr⟩
        · rw [upd_same]
          unfold cV
          rw [List.map_append]
          rfl
        · rcases List.mem_append.mp hz with h | h
          · obtain ⟨h1, h2⟩ := okc z h
            exact ⟨(h1.ts (Ts.frD D7 fr8)).ts tsU, h2⟩
          · rw [List.mem_singleton.mp h]
            exact ⟨hch.ts tsU, ok⟩
      · rintro H7 ⟨D7, t7, cs, hD7, lcs, okc⟩
        refine ⟨D, rfl, ⟨_, SqL.of hD7⟩, ?_⟩
        refine for_list (K := K) (a := D) (xs := cV cs) (fun j σ H' => ∃ y10, σ = [some (.ref a), some (.ref d), some (.int (0 + (i : Int))), some (.int m), some (.ref F), y5', y6, y7, y8, y9, y10] ∧ Gr H7 H') ⟨_, rfl, Gr.refl⟩ (fun j σ H' _ ⟨_, _, g⟩ => SqL.of (g.lst hD7)) ?_ ?_
        · rintro j x σ H8 hx ⟨y10, rfl, g8⟩
          unfold cV at hx
          rw [List.getElem?_map] at hx
          obtain ⟨z, hz, rfl⟩ := Option.map_eq_some_iff.mp hx
          obtain ⟨h1, h2⟩ := okc z (List.mem_of_getElem? hz)
          refine ⟨.int m, rfl, .ref z.1, rfl, z.1, m, z.2.1, z.2.2, rfl, h1.gr g8, h2, g8.tabs t7, fun H9 g9 => ⟨_, rfl, iteF ?_⟩⟩
          exact ⟨_, rfl, g8.trans g9⟩
        · rintro σ H8 ⟨y10, rfl, g8⟩
          exact ⟨_, _, _, _, _, _, _, _, _, rfl, (D7.gr g8).mono (by show (500 * i + 130 + 20 * (((2 : Int).toNat : Nat) : Int) : Int) ≤ 500 * ((i + 1 : Nat) : Int); have : (((2 : Int).toNat : Nat) : Int) = 2 := rfl; rw [this]; push_cast; omega), g8.tabs t7⟩
    · rintro σ H2 ⟨y2, y3, y4, y5, y6, y7, y8, y9, y10, rfl, _, _⟩
      exact q H2

end
def d_show_row : He.DefD := ⟨("show_row", none), "show_row", "show_row", defArgs s_show_row, defBody s_show_row, defScope s_show_row, [], []⟩
def d_holds_row : He.DefD := ⟨("holds_row", none), "holds_row", "holds_row", defArgs s_holds_row, defBody s_holds_row, defScope s_holds_row, [], []⟩
def d_holds_all : He.DefD := ⟨("holds_all", none), "holds_all", "holds_all", defArgs s_holds_all, defBody s_holds_all, defScope s_holds_all, [], []⟩
def d_meet : He.DefD := ⟨("meet", none), "meet", "meet", defArgs s_meet, defBody s_meet, defScope s_meet, [], []⟩
def d_cube_of : He.DefD := ⟨("cube_of", none), "cube_of", "cube_of", defArgs s_cube_of, defBody s_cube_of, defScope s_cube_of, [], []⟩
def d_deck : He.DefD := ⟨("_law_deck", none), "_law_deck", "_law_deck", defArgs s_deck, defBody s_deck, defScope s_deck, [], []⟩
def d_draw : He.DefD := ⟨("_law_draw", none), "_law_draw", "_law_draw", defArgs s_draw, defBody s_draw, defScope s_draw, [], []⟩
def d_many : He.DefD := ⟨("_law_many", none), "_law_many", "_law_many", defArgs s_many, defBody s_many, defScope s_many, [], []⟩
def d_row : He.DefD := ⟨("_law_row", none), "_law_row", "_law_row", defArgs s_row, defBody s_row, defScope s_row, [], []⟩
def d_change : He.DefD := ⟨("_law_change", none), "_law_change", "_law_change", defArgs s_change, defBody s_change, defScope s_change, [], []⟩
def d_product : He.DefD := ⟨("_law_product", none), "_law_product", "_law_product", defArgs s_product, defBody s_product, defScope s_product, [], []⟩
def d_holds : He.DefD := ⟨("_law_holds", none), "_law_holds", "_law_holds", defArgs s_holds, defBody s_holds, defScope s_holds, [], []⟩
def d_rows : He.DefD := ⟨("_law_rows", none), "_law_rows", "_law_rows", defArgs s_rows, defBody s_rows, defScope s_rows, [], []⟩
def d_is : He.DefD := ⟨("_law_is", none), "_law_is", "_law_is", defArgs s_is, defBody s_is, defScope s_is, [], []⟩
def d_pair_right : He.DefD := ⟨("_law_pair_right", none), "_law_pair_right", "_law_pair_right", defArgs s_pair_right, defBody s_pair_right, defScope s_pair_right, [], []⟩
def d_cube_right : He.DefD := ⟨("_law_cube_right", none), "_law_cube_right", "_law_cube_right", defArgs s_cube_right, defBody s_cube_right, defScope s_cube_right, [], []⟩
def d_law : He.DefD := ⟨("law", none), "law", "law", defArgs s_law, defBody s_law, defScope s_law, [], []⟩
def fn : List He.DefD := [d_show_row, d_holds_row, d_holds_all, d_meet, d_cube_of, d_deck, d_draw, d_many, d_row, d_change, d_product, d_holds, d_rows, d_is, d_pair_right, d_cube_right, d_law]
def fa : List He.Fa := [.glo "show_row", .glo "holds_row", .glo "holds_all", .glo "meet", .glo "cube_of", .glo "_law_deck", .glo "_law_draw", .glo "_law_many", .glo "_law_row", .glo "_law_change", .glo "_law_product", .glo "_law_holds", .glo "_law_rows", .glo "_law_is", .glo "_law_pair_right", .glo "_law_cube_right", .glo "law", .free "all", .free "bool", .free "int", .free "isinstance", .free "len", .free "list", .free "range", .free "str", .free "sum", .free "tuple", .free "zip"]
def tf : List He.Defn := [("show_row", none), ("holds_all", none), ("meet", none), ("cube_of", none)]
abbrev RR : PySem.W.OpenRow := PySem.W.OpenLaw.row PySem.Challenge.rw_glitchnet_k34_what_products_hold
def yes : PySem.W.Frag → Bool := fun _ => true
abbrev hk : PySem.W.Hook := He.hookX 4 fa fn [] tf yes
def ob (s : PySem.W.SharedT) : He.AlX := He.obsX 4 fa fn [] tf yes (HandSHeadRun.getT s)
theorem ob_eq (s : PySem.W.SharedT) : ob s = hk.obs s.abs := He.obsX_eq (HandSHeadRun.getT_eq s)
theorem run (w : World) : HandSHeadRun.RunEq RR (PySem.W.view RR.prog [19]) hk ob 3000 [("show_row" : PySem.Str), ("holds_row" : PySem.Str), ("holds_all" : PySem.Str), ("meet" : PySem.Str), ("cube_of" : PySem.Str), ("_law_deck" : PySem.Str), ("_law_draw" : PySem.Str), ("_law_many" : PySem.Str), ("_law_row" : PySem.Str), ("_law_change" : PySem.Str), ("_law_product" : PySem.Str), ("_law_holds" : PySem.Str), ("_law_rows" : PySem.Str), ("_law_is" : PySem.Str), ("_law_pair_right" : PySem.Str), ("_law_cube_right" : PySem.Str)] w := by
  intro os
  kernel_rfl
theorem facts {w : World} {K : PySem.W.Frag} {h : Heap} {mg : Str → Option Value} {f : Addr} (X : K.In h) (G : h.Ns mainGlobals mg) (hfa : mg ("law" : Str) = some (.ref f)) (c : He.SaysX fa fn [] tf yes w h K) : LamX.LawAtS PySem.Challenge.rw_glitchnet_k34_what_products_hold w K CX0 5 63 "_law_script" mg f h := by
  obtain ⟨fd0, D0⟩ := c.t.d.def_ 0 (d := d_show_row) rfl
  have F0 : Fun K "show_row" "show_row" s_show_row (He.fAd K ("show_row", none)) fd0 := fun_of D0
  have b0 := F0.binds (ps := ["row"]) fun _ _ _ _ _ _ us hl => match us, hl with | [_], _ => rfl
  obtain ⟨fd1, D1⟩ := c.t.d.def_ 1 (d := d_holds_row) rfl
  have F1 : Fun K "holds_row" "holds_row" s_holds_row (He.fAd K ("holds_row", none)) fd1 := fun_of D1
  have b1 := F1.binds (ps := ["product", "row"]) fun _ _ _ _ _ _ us hl => match us, hl with | [_, _], _ => rfl
  obtain ⟨fd2, D2⟩ := c.t.d.def_ 2 (d := d_holds_all) rfl
  have F2 : Fun K "holds_all" "holds_all" s_holds_all (He.fAd K ("holds_all", none)) fd2 := fun_of D2
  have b2 := F2.binds (ps := ["product", "other"]) fun _ _ _ _ _ _ us hl => match us, hl with | [_, _], _ => rfl
  obtain ⟨fd3, D3⟩ := c.t.d.def_ 3 (d := d_meet) rfl
  have F3 : Fun K "meet" "meet" s_meet (He.fAd K ("meet", none)) fd3 := fun_of D3
  have b3 := F3.binds (ps := ["product", "other"]) fun _ _ _ _ _ _ us hl => match us, hl with | [_, _], _ => rfl
  obtain ⟨fd4, D4⟩ := c.t.d.def_ 4 (d := d_cube_of) rfl
  have F4 : Fun K "cube_of" "cube_of" s_cube_of (He.fAd K ("cube_of", none)) fd4 := fun_of D4
  have b4 := F4.binds (ps := ["change"]) fun _ _ _ _ _ _ us hl => match us, hl with | [_], _ => rfl
  obtain ⟨fd5, D5⟩ := c.t.d.def_ 5 (d := d_deck) rfl
  have F5 : Fun K "_law_deck" "_law_deck" s_deck (He.fAd K ("_law_deck", none)) fd5 := fun_of D5
  have b5 := F5.binds (ps := ["_law_script"]) fun _ _ _ _ _ _ us hl => match us, hl with | [_], _ => rfl
  obtain ⟨fd6, D6⟩ := c.t.d.def_ 6 (d := d_draw) rfl
  have F6 : Fun K "_law_draw" "_law_draw" s_draw (He.fAd K ("_law_draw", none)) fd6 := fun_of D6
  have b6 := F6.binds (ps := ["_law_deck_here", "_law_most"]) fun _ _ _ _ _ _ us hl => match us, hl with | [_, _], _ => rfl
  obtain ⟨fd7, D7⟩ := c.t.d.def_ 7 (d := d_many) rfl
  have F7 : Fun K "_law_many" "_law_many" s_many (He.fAd K ("_law_many", none)) fd7 := fun_of D7
  have b7 := F7.binds (ps := ["_law_deck_here"]) fun _ _ _ _ _ _ us hl => match us, hl with | [_], _ => rfl
  obtain ⟨fd8, D8⟩ := c.t.d.def_ 8 (d := d_row) rfl
  have F8 : Fun K "_law_row" "_law_row" s_row (He.fAd K ("_law_row", none)) fd8 := fun_of D8
  have b8 := F8.binds (ps := ["_law_deck_here", "_law_many_here"]) fun _ _ _ _ _ _ us hl => match us, hl with | [_, _], _ => rfl
  obtain ⟨fd9, D9⟩ := c.t.d.def_ 9 (d := d_change) rfl
  have F9 : Fun K "_law_change" "_law_change" s_change (He.fAd K ("_law_change", none)) fd9 := fun_of D9
  have b9 := F9.binds (ps := ["_law_deck_here", "_law_many_here"]) fun _ _ _ _ _ _ us hl => match us, hl with | [_, _], _ => rfl
  obtain ⟨fd10, D10⟩ := c.t.d.def_ 10 (d := d_product) rfl
  have F10 : Fun K "_law_product" "_law_product" s_product (He.fAd K ("_law_product", none)) fd10 := fun_of D10
  have b10 := F10.binds (ps := ["_law_deck_here", "_law_many_here"]) fun _ _ _ _ _ _ us hl => match us, hl with | [_, _], _ => rfl
  obtain ⟨fd11, D11⟩ := c.t.d.def_ 11 (d := d_holds) rfl
  have F11 : Fun K "_law_holds" "_law_holds" s_holds (He.fAd K ("_law_holds", none)) fd11 := fun_of D11
  have b11 := F11.binds (ps := ["_law_product_here", "_law_row_here"]) fun _ _ _ _ _ _ us hl => match us, hl with | [_, _], _ => rfl
  obtain ⟨fd12, D12⟩ := c.t.d.def_ 12 (d := d_rows) rfl
  have F12 : Fun K "_law_rows" "_law_rows" s_rows (He.fAd K ("_law_rows", none)) fd12 := fun_of D12
  have b12 := F12.binds (ps := ["_law_many_here"]) fun _ _ _ _ _ _ us hl => match us, hl with | [_], _ => rfl
  obtain ⟨fd13, D13⟩ := c.t.d.def_ 13 (d := d_is) rfl
  have F13 : Fun K "_law_is" "_law_is" s_is (He.fAd K ("_law_is", none)) fd13 := fun_of D13
  have b13 := F13.binds (ps := ["_law_found", "_law_due"]) fun _ _ _ _ _ _ us hl => match us, hl with | [_, _], _ => rfl
  obtain ⟨fd14, D14⟩ := c.t.d.def_ 14 (d := d_pair_right) rfl
  have F14 : Fun K "_law_pair_right" "_law_pair_right" s_pair_right (He.fAd K ("_law_pair_right", none)) fd14 := fun_of D14
  have b14 := F14.binds (ps := ["_law_many_here", "_law_one", "_law_other"]) fun _ _ _ _ _ _ us hl => match us, hl with | [_, _, _], _ => rfl
  obtain ⟨fd15, D15⟩ := c.t.d.def_ 15 (d := d_cube_right) rfl
  have F15 : Fun K "_law_cube_right" "_law_cube_right" s_cube_right (He.fAd K ("_law_cube_right", none)) fd15 := fun_of D15
  have b15 := F15.binds (ps := ["_law_many_here", "_law_change_here"]) fun _ _ _ _ _ _ us hl => match us, hl with | [_, _], _ => rfl
  obtain ⟨fd16, D16⟩ := c.t.d.def_ 16 (d := d_law) rfl
  have F16 : Fun K "law" "law" s_law (He.fAd K ("law", none)) fd16 := fun_of D16
  have b16 := F16.binds (ps := ["_law_script"]) fun _ _ _ _ _ _ us hl => match us, hl with | [_], _ => rfl
  have e := hfa.symm.trans (He.glo_ok X G (c.t.d.fact 16 (f := .glo "law") rfl))
  cases e
  let T : Tx K mg := { f_show_row := _, fd_show_row := _, F_show_row := F0, g_show_row := He.glo_ok X G (c.t.d.fact 0 (f := .glo "show_row") rfl), b_show_row := b0, c_show_row := (He.cT K ("show_row", none)).1, P_show_row := (He.cT K ("show_row", none)).2, cd_show_row := code_of F0, f_holds_row := _, fd_holds_row := _, F_holds_row := F1, g_holds_row := He.glo_ok X G (c.t.d.fact 1 (f := .glo "holds_row") rfl), b_holds_row := b1, f_holds_all := _, fd_holds_all := _, F_holds_all := F2, g_holds_all := He.glo_ok X G (c.t.d.fact 2 (f := .glo "holds_all") rfl), b_holds_all := b2, c_holds_all := (He.cT K ("holds_all", none)).1, P_holds_all := (He.cT K ("holds_all", none)).2, cd_holds_all := code_of F2, f_meet := _, fd_meet := _, F_meet := F3, g_meet := He.glo_ok X G (c.t.d.fact 3 (f := .glo "meet") rfl), b_meet := b3, c_meet := (He.cT K ("meet", none)).1, P_meet := (He.cT K ("meet", none)).2, cd_meet := code_of F3, f_cube_of := _, fd_cube_of := _, F_cube_of := F4, g_cube_of := He.glo_ok X G (c.t.d.fact 4 (f := .glo "cube_of") rfl), b_cube_of := b4, c_cube_of := (He.cT K ("cube_of", none)).1, P_cube_of := (He.cT K ("cube_of", none)).2, cd_cube_of := code_of F4, f_deck := _, fd_deck := _, F_deck := F5, g_deck := He.glo_ok X G (c.t.d.fact 5 (f := .glo "_law_deck") rfl), b_deck := b5, f_draw := _, fd_draw := _, F_draw := F6, g_draw := He.glo_ok X G (c.t.d.fact 6 (f := .glo "_law_draw") rfl), b_draw := b6, f_many := _, fd_many := _, F_many := F7, g_many := He.glo_ok X G (c.t.d.fact 7 (f := .glo "_law_many") rfl), b_many := b7, f_row := _, fd_row := _, F_row := F8, g_row := He.glo_ok X G (c.t.d.fact 8 (f := .glo "_law_row") rfl), b_row := b8, f_change := _, fd_change := _, F_change := F9, g_change := He.glo_ok X G (c.t.d.fact 9 (f := .glo "_law_change") rfl), b_change := b9, f_product := _, fd_product := _, F_product := F10, g_product := He.glo_ok X G (c.t.d.fact 10 (f := .glo "_law_product") rfl), b_product := b10, f_holds := _, fd_holds := _, F_holds := F11, g_holds := He.glo_ok X G (c.t.d.fact 11 (f := .glo "_law_holds") rfl), b_holds := b11, f_rows := _, fd_rows := _, F_rows := F12, g_rows := He.glo_ok X G (c.t.d.fact 12 (f := .glo "_law_rows") rfl), b_rows := b12, f_is := _, fd_is := _, F_is := F13, g_is := He.glo_ok X G (c.t.d.fact 13 (f := .glo "_law_is") rfl), b_is := b13, f_pair_right := _, fd_pair_right := _, F_pair_right := F14, g_pair_right := He.glo_ok X G (c.t.d.fact 14 (f := .glo "_law_pair_right") rfl), b_pair_right := b14, f_cube_right := _, fd_cube_right := _, F_cube_right := F15, g_cube_right := He.glo_ok X G (c.t.d.fact 15 (f := .glo "_law_cube_right") rfl), b_cube_right := b15, f_law := _, fd_law := _, F_law := F16, g_law := He.glo_ok X G (c.t.d.fact 16 (f := .glo "law") rfl), b_law := b16, m_all := He.free_ok X G (c.t.d.fact 17 (f := .free "all") rfl), m_bool := He.free_ok X G (c.t.d.fact 18 (f := .free "bool") rfl), m_int := He.free_ok X G (c.t.d.fact 19 (f := .free "int") rfl), m_isinstance := He.free_ok X G (c.t.d.fact 20 (f := .free "isinstance") rfl), m_len := He.free_ok X G (c.t.d.fact 21 (f := .free "len") rfl), m_list := He.free_ok X G (c.t.d.fact 22 (f := .free "list") rfl), m_range := He.free_ok X G (c.t.d.fact 23 (f := .free "range") rfl), m_str := He.free_ok X G (c.t.d.fact 24 (f := .free "str") rfl), m_sum := He.free_ok X G (c.t.d.fact 25 (f := .free "sum") rfl), m_tuple := He.free_ok X G (c.t.d.fact 26 (f := .free "tuple") rfl), m_zip := He.free_ok X G (c.t.d.fact 27 (f := .free "zip") rfl) }
  refine ⟨fd16, tf.map (He.cT K), sp_law K T.tabs, ?_, ?_, ?_, ?_, ?_, ?_⟩
  · rintro p hp
    obtain ⟨d, hd, rfl⟩ := List.mem_map.mp hp
    exact c.empty d hd
  · rintro p hp
    obtain ⟨d, hd, rfl⟩ := List.mem_map.mp hp
    exact c.out d hd
  · rintro p hp
    obtain ⟨d, hd, rfl⟩ := List.mem_map.mp hp
    exact PySem.W.codeHd_of_K X (c.hd d hd)
  · obtain ⟨oc, od, kV, doc, pm, an, cdv, ct, osl, rfl, lk, hcd⟩ := F16.ex
    exact fun s v => .of_eq rfl
  · intro H a ns hl hbits hT hS
    refine ⟨a, ns, rfl, hS, hl, fun P hP => ?_, fun _ => rfl⟩
    have hP : P ∈ (tf.map (He.cT K)).map (·.2) := hP
    obtain ⟨p, hp, rfl⟩ := List.mem_map.mp hP
    exact ⟨#[], hT p hp, by trivial⟩
  · intro base KB GB hTB
    have B : Tb base T := ⟨tab_of (hTB (He.cT K ("show_row", none)) (List.mem_map.mpr ⟨_, (show (("show_row", none) : He.Defn) ∈ tf by decide), rfl⟩)), tab_of (hTB (He.cT K ("holds_all", none)) (List.mem_map.mpr ⟨_, (show (("holds_all", none) : He.Defn) ∈ tf by decide), rfl⟩)), tab_of (hTB (He.cT K ("meet", none)) (List.mem_map.mpr ⟨_, (show (("meet", none) : He.Defn) ∈ tf by decide), rfl⟩)), tab_of (hTB (He.cT K ("cube_of", none)) (List.mem_map.mpr ⟨_, (show (("cube_of", none) : He.Defn) ∈ tf by decide), rfl⟩))⟩
    exact ok_law T B
end Gk
open PySem PySem.W PyProof.Rows
set_option maxRecDepth 100000 in
set_option maxHeartbeats 0 in
theorem PySem.Challenge.cw_glitchnet_k34_what_products_hold_holds : PySem.Challenge.rw_glitchnet_k34_what_products_hold.Holds := by
  w_on; o_law
  refine HandSHeadRun.head_any (r := OpenLaw.row PySem.Challenge.rw_glitchnet_k34_what_products_hold) (q := view (OpenLaw.row PySem.Challenge.rw_glitchnet_k34_what_products_hold).prog [19]) (H := Gk.hk) (ob := Gk.ob) (M := 3000) (loose := [("show_row" : PySem.Str), ("holds_row" : PySem.Str), ("holds_all" : PySem.Str), ("meet" : PySem.Str), ("cube_of" : PySem.Str), ("_law_deck" : PySem.Str), ("_law_draw" : PySem.Str), ("_law_many" : PySem.Str), ("_law_row" : PySem.Str), ("_law_change" : PySem.Str), ("_law_product" : PySem.Str), ("_law_holds" : PySem.Str), ("_law_rows" : PySem.Str), ("_law_is" : PySem.Str), ("_law_pair_right" : PySem.Str), ("_law_cube_right" : PySem.Str)]) (d := HandSHeadRun.topDef (OpenLaw.row PySem.Challenge.rw_glitchnet_k34_what_products_hold).prog 19) (kwd := []) Gk.ob_eq
    (by kernel_rfl) (fun s => by kernel_rfl) Gk.run (by kernel_rfl) (by kernel_rfl) (by kernel_rfl) (by rfl) (by first | assumption | decide +kernel) (by decide +kernel) ⟨rfl, rfl, rfl, rfl, rfl, by decide +kernel⟩ ?hw ?hc
  case hw => w_witness2
  case hc =>
    refine LamX.walk_ofTsE (l := PySem.Challenge.rw_glitchnet_k34_what_products_hold) (n := 63) (k := 5) (x := "_law_script") (CX := fun _ => L2.CX0) rfl (by decide) (by kernel_rfl) ⟨rfl, by decide, by decide⟩ ?F (fun _ _ _ _ _ z => z)
    intro w mg fa h Y G hmg0
    obtain ⟨K, KX, c⟩ := Y
    have hmg : mg ("law" : PySem.Str) = some (.ref fa) := by
      have e : (HandSHeadRun.topDef (OpenLaw.row PySem.Challenge.rw_glitchnet_k34_what_products_hold).prog 19).name = ("law" : PySem.Str) := by kernel_rfl
      rw [← e]
      exact hmg0
    exact ⟨K, KX, Gk.facts KX G hmg c⟩
