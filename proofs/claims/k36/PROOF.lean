import PyProof.Rows.All
import Wide.All
import OpenK.AllK
import Wide.FinOn
import HandS.ForMost
import HandS.IsInst
import HandS.TupLe
import HandS.TupAny
import HandS.TupMul
import HandS.More
import HandS.Codes
import HandS.Conv
import HandS.Deep
import HandS.TupSets
import HandS.Style
import HandS.Strs
import HandS.AnyAll
import HandS.GenList
import HandS.JoinGen
import HandS.Zip
import HandS.Rev
import HandS.FStr
import HandS.RevTup
import HandS.Head0
import HandS.Head1
import HandS.Head2
import HandS.HeadEnd
import HandS.HeadHook1
import HandS.HeadHook2
import HandS.HeadHook3
import HandS.HeadHook4
import HandS.HeadWalk
import HandS.Defaults
import HandS.ReplaceLit
import KE.KUnpackStar
import PyProof.ReprLen
import PyProof.ReprRoads
import PyProof.TupleOfStr
import PyProof.ListStr
import PySem.Challenge.RW_glitchnet_k36_what_is_a_cover
set_option Elab.async false
set_option linter.all false
set_option maxRecDepth 100000
set_option maxHeartbeats 1000000
namespace Gk
open PySem PySem.Spec PyProof.Rows L2
/-! ### the text -/
def topS (i : Nat) : Stmt := PySem.Challenge.pw_glitchnet_k36_what_is_a_cover.main.body.getD i (.Pass ⟨0, 0, 0, 0⟩)
abbrev s_is_whole : Stmt := topS 1
abbrev s_is_product : Stmt := topS 4
abbrev s_is_cover : Stmt := topS 6
abbrev s_deck : Stmt := topS 8
abbrev s_draw : Stmt := topS 9
abbrev s_many : Stmt := topS 10
abbrev s_row : Stmt := topS 11
abbrev s_change : Stmt := topS 12
abbrev s_product : Stmt := topS 13
abbrev s_cover : Stmt := topS 14
abbrev s_l_is_product : Stmt := topS 15
abbrev s_l_is_cover : Stmt := topS 16
abbrev s_odd_product : Stmt := topS 17
abbrev s_otherwise : Stmt := topS 18
abbrev s_right : Stmt := topS 19
abbrev s_law : Stmt := topS 20
theorem sc_is_whole : FnScope ["thing"] ["thing"] (defScope s_is_whole) := ⟨rfl, rfl, rfl, by decide +kernel, rfl, by decide +kernel, by decide +kernel⟩
theorem sc_is_product : FnScope ["many", "thing", "sign"] ["many", "thing"] (defScope s_is_product) := ⟨rfl, rfl, rfl, by decide +kernel, rfl, by decide +kernel, by decide +kernel⟩
theorem sc_is_cover : FnScope ["thing", "many", "products", "product"] ["thing"] (defScope s_is_cover) := ⟨rfl, rfl, rfl, by decide +kernel, rfl, by decide +kernel, by decide +kernel⟩
theorem sc_deck : FnScope ["_law_script"] ["_law_script"] (defScope s_deck) := ⟨rfl, rfl, rfl, by decide +kernel, rfl, by decide +kernel, by decide +kernel⟩
theorem sc_draw : FnScope ["_law_deck_here", "_law_most", "_law_cells", "_law_digit", "_law_cell", "_law_number"] ["_law_deck_here", "_law_most"] (defScope s_draw) := ⟨rfl, rfl, rfl, by decide +kernel, rfl, by decide +kernel, by decide +kernel⟩
theorem sc_many : FnScope ["_law_deck_here", "_law_way"] ["_law_deck_here"] (defScope s_many) := ⟨rfl, rfl, rfl, by decide +kernel, rfl, by decide +kernel, by decide +kernel⟩
theorem sc_row : FnScope ["_law_deck_here", "_law_many_here", "_law_k"] ["_law_deck_here", "_law_many_here"] (defScope s_row) := ⟨rfl, rfl, rfl, by decide +kernel, rfl, by decide +kernel, by decide +kernel⟩
theorem sc_change : FnScope ["_law_deck_here", "_law_many_here", "_law_way", "_law_row_here", "_law_place", "_law_worth"] ["_law_deck_here", "_law_many_here"] (defScope s_change) := ⟨rfl, rfl, rfl, by decide +kernel, rfl, by decide +kernel, by decide +kernel⟩
theorem sc_product : FnScope ["_law_deck_here", "_law_many_here", "_law_way", "_law_k", "_law_worth"] ["_law_deck_here", "_law_many_here"] (defScope s_product) := ⟨rfl, rfl, rfl, by decide +kernel, rfl, by decide +kernel, by decide +kernel⟩
theorem sc_cover : FnScope ["_law_deck_here", "_law_many_here", "_law_way", "_law_found", "_law_k", "_law_sort", "_law_product_here", "_law_place"] ["_law_deck_here", "_law_many_here"] (defScope s_cover) := ⟨rfl, rfl, rfl, by decide +kernel, rfl, by decide +kernel, by decide +kernel⟩
theorem sc_l_is_product : FnScope ["_law_many_here", "_law_thing", "_law_sign"] ["_law_many_here", "_law_thing"] (defScope s_l_is_product) := ⟨rfl, rfl, rfl, by decide +kernel, rfl, by decide +kernel, by decide +kernel⟩
theorem sc_l_is_cover : FnScope ["_law_thing", "_law_product_here"] ["_law_thing"] (defScope s_l_is_cover) := ⟨rfl, rfl, rfl, by decide +kernel, rfl, by decide +kernel, by decide +kernel⟩
theorem sc_odd_product : FnScope ["_law_deck_here", "_law_product_here", "_law_way", "_law_at", "_law_sign", "_law_odd"] ["_law_deck_here", "_law_product_here"] (defScope s_odd_product) := ⟨rfl, rfl, rfl, by decide +kernel, rfl, by decide +kernel, by decide +kernel⟩
theorem sc_otherwise : FnScope ["_law_deck_here", "_law_cover_here", "_law_way", "_law_many_here", "_law_some", "_law_at", "_law_other", "_law_odd"] ["_law_deck_here", "_law_cover_here"] (defScope s_otherwise) := ⟨rfl, rfl, rfl, by decide +kernel, rfl, by decide +kernel, by decide +kernel⟩
theorem sc_right : FnScope ["_law_thing", "_law_kept", "_law_found"] ["_law_thing"] (defScope s_right) := ⟨rfl, rfl, rfl, by decide +kernel, rfl, by decide +kernel, by decide +kernel⟩
theorem sc_law : FnScope ["_law_script", "_law_deck_here", "_law_more", "_law_many_here", "_law_cover_here", "_law_k", "_law_thing", "_law_size", "_law_kept", "_law_found", "_law_deep"] ["_law_script"] (defScope s_law) := ⟨rfl, rfl, rfl, by decide +kernel, rfl, by decide +kernel, by decide +kernel⟩
structure Tx (K : PySem.W.Frag) (mg : Str → Option Value) where
  f_is_whole : Addr
  fd_is_whole : FuncData
  F_is_whole : Fun K "is_whole" "is_whole" s_is_whole f_is_whole fd_is_whole
  g_is_whole : mg "is_whole" = some (.ref f_is_whole)
  b_is_whole : Binds K fd_is_whole ["thing"] []
  f_is_product : Addr
  fd_is_product : FuncData
  F_is_product : Fun K "is_product" "is_product" s_is_product f_is_product fd_is_product
  g_is_product : mg "is_product" = some (.ref f_is_product)
  b_is_product : Binds K fd_is_product ["many", "thing"] []
  c_is_product : Addr
  P_is_product : Addr
  cd_is_product : fd_is_product.code = .ref c_is_product
  f_is_cover : Addr
  fd_is_cover : FuncData
  F_is_cover : Fun K "is_cover" "is_cover" s_is_cover f_is_cover fd_is_cover
  g_is_cover : mg "is_cover" = some (.ref f_is_cover)
  b_is_cover : Binds K fd_is_cover ["thing"] []
  c_is_cover : Addr
  P_is_cover : Addr
  cd_is_cover : fd_is_cover.code = .ref c_is_cover
  f_deck : Addr
  fd_deck : FuncData
  F_deck : Fun K "_law_deck" "_law_deck" s_deck f_deck fd_deck
  g_deck : mg "_law_deck" = some (.ref f_deck)
  b_deck : Binds K fd_deck ["_law_script"] []
  f_draw : Addr
  fd_draw : FuncData
  F_draw : Fun K "_law_draw" "_law_draw" s_draw f_draw fd_draw
  g_draw : mg "_law_draw" = some (.ref f_draw)
  b_draw : Binds K fd_draw ["_law_deck_here", "_law_most"] []
  f_many : Addr
  fd_many : FuncData
  F_many : Fun K "_law_many" "_law_many" s_many f_many fd_many
  g_many : mg "_law_many" = some (.ref f_many)
  b_many : Binds K fd_many ["_law_deck_here"] []
  f_row : Addr
  fd_row : FuncData
  F_row : Fun K "_law_row" "_law_row" s_row f_row fd_row
  g_row : mg "_law_row" = some (.ref f_row)
  b_row : Binds K fd_row ["_law_deck_here", "_law_many_here"] []
  f_change : Addr
  fd_change : FuncData
  F_change : Fun K "_law_change" "_law_change" s_change f_change fd_change
  g_change : mg "_law_change" = some (.ref f_change)
  b_change : Binds K fd_change ["_law_deck_here", "_law_many_here"] []
  f_product : Addr
  fd_product : FuncData
  F_product : Fun K "_law_product" "_law_product" s_product f_product fd_product
  g_product : mg "_law_product" = some (.ref f_product)
  b_product : Binds K fd_product ["_law_deck_here", "_law_many_here"] []
  f_cover : Addr
  fd_cover : FuncData
  F_cover : Fun K "_law_cover" "_law_cover" s_cover f_cover fd_cover
  g_cover : mg "_law_cover" = some (.ref f_cover)
  b_cover : Binds K fd_cover ["_law_deck_here", "_law_many_here"] []
  f_l_is_product : Addr
  fd_l_is_product : FuncData
  F_l_is_product : Fun K "_law_is_product" "_law_is_product" s_l_is_product f_l_is_product fd_l_is_product
  g_l_is_product : mg "_law_is_product" = some (.ref f_l_is_product)
  b_l_is_product : Binds K fd_l_is_product ["_law_many_here", "_law_thing"] []
  f_l_is_cover : Addr
  fd_l_is_cover : FuncData
  F_l_is_cover : Fun K "_law_is_cover" "_law_is_cover" s_l_is_cover f_l_is_cover fd_l_is_cover
  g_l_is_cover : mg "_law_is_cover" = some (.ref f_l_is_cover)
  b_l_is_cover : Binds K fd_l_is_cover ["_law_thing"] []
  f_odd_product : Addr
  fd_odd_product : FuncData
  F_odd_product : Fun K "_law_odd_product" "_law_odd_product" s_odd_product f_odd_product fd_odd_product
  g_odd_product : mg "_law_odd_product" = some (.ref f_odd_product)
  b_odd_product : Binds K fd_odd_product ["_law_deck_here", "_law_product_here"] []
  f_otherwise : Addr
  fd_otherwise : FuncData
  F_otherwise : Fun K "_law_otherwise" "_law_otherwise" s_otherwise f_otherwise fd_otherwise
  g_otherwise : mg "_law_otherwise" = some (.ref f_otherwise)
  b_otherwise : Binds K fd_otherwise ["_law_deck_here", "_law_cover_here"] []
  f_right : Addr
  fd_right : FuncData
  F_right : Fun K "_law_right" "_law_right" s_right f_right fd_right
  g_right : mg "_law_right" = some (.ref f_right)
  b_right : Binds K fd_right ["_law_thing"] []
  f_law : Addr
  fd_law : FuncData
  F_law : Fun K "law" "law" s_law f_law fd_law
  g_law : mg "law" = some (.ref f_law)
  b_law : Binds K fd_law ["_law_script"] []
  m_all : mg "all" = none
  m_bool : mg "bool" = none
  m_int : mg "int" = none
  m_isinstance : mg "isinstance" = none
  m_len : mg "len" = none
  m_list : mg "list" = none
  m_range : mg "range" = none
  m_repr : mg "repr" = none
  m_str : mg "str" = none
  m_sum : mg "sum" = none
  m_tuple : mg "tuple" = none
  k_MOST_INPUTS : ∃ t, mg "MOST_INPUTS" = some (.int 6 t)
structure Tb (base : Heap) {K : PySem.W.Frag} {mg : Str → Option Value} (T : Tx K mg) : Prop where
  TB_is_product : GxR.TabB base mg T.c_is_product T.P_is_product
  TB_is_cover : GxR.TabB base mg T.c_is_cover T.P_is_cover
def Tx.tabs {K : PySem.W.Frag} {mg : Str → Option Value} (T : Tx K mg) : List Addr := [T.P_is_product, T.P_is_cover]
/-! ### generator expressions whose elements may call -/
theorem inv_moved {X : Cx} {cp : List (Addr × Obj)} {σ : L2.St} {H : Hp} {s s' : Shared} (I : Inv X cp σ H s) (os : s'.os = s.os) (bare : AllBare s'.gens) (k : ∀ b o, s.heap.get? b = some o → s'.heap.get? b = some o) : Inv X cp σ H s' :=
  I.call' (ch := []) os (Un.kept k) (I.hok.kept k) bare fun b hb => absurd hb (by simp)
/-- the context of a generator expression's frame: C its frame, s, H the entry, fp its iterator's objects -/
abbrev gblk (X : Cx) (A : Around) (s : Shared) (H : Hp) (cenv : Env) (fp : List Addr) : Cx :=
  { X with A := A, s_0 := s, H_0 := H, env := cenv, outer := X.stack, stack := cenv :: X.stack, ex := fp, fn := fun _ => false, pn := [], xe := fun _ _ => False }
section
variable {X : Cx} {pins : List (Addr × Obj)} {σ : L2.St} {H : Hp} {s : Shared}
theorem gen_start {scope : Scope} {own : List (Str × Nat)} {fp : List Addr} {A : Around} {code it : Value} {s5 : Shared} {cp : List (Addr × Obj)}
    (I : Inv X pins σ H s) (ok : BlkOk X.N X.env.scope scope own) (nocell : ∀ y ∈ scope.names, y.2 ≠ .cell) (hN : X.N.Nodup) (hfp : ∀ b ∈ fp, FpOk X pins H b ∧ b < s.heap.objs.size)
    (hh : A.handled = none) (hfr : A.frames = some (genEnv scope (cloFrom X.env.cells scope.names []) s.heap.objs.size code builtinsNs X.env :: X.stack))
    (os : s5.os = s.os) (bare : AllBare s5.gens) (kp : ∀ b o, s.heap.get? b = some o → s5.heap.get? b = some o)
    (hns : s5.heap.Ns s.heap.objs.size fun y => if y = ".0" then some it else none)
    (hcp : ∀ p ∈ cp, s.heap.objs.size < p.1 ∧ s5.heap.get? p.1 = some p.2 ∧ ∀ v, p.2.data ≠ .cell v) :
    Inv (gblk X A s H (genEnv scope (cloFrom X.env.cells scope.names []) s.heap.objs.size code builtinsNs X.env) fp) cp (wipe σ (own.map (·.2))) H s5 := by
  have hfree : ∀ y ∈ scope.names, y.2 = .free → ∃ c, X.env.cells.lookup y.1 = some c := fun y hy e => by
    rcases ok.free y hy e with k | k
    · exact I.ok.has _ (.inl k)
    · exact I.ok.has _ (.inr k)
  generalize hcenv : genEnv scope (cloFrom X.env.cells scope.names []) s.heap.objs.size code builtinsNs X.env = cenv at hfr ⊢
  have hL : cenv.locals = s.heap.objs.size := by rw [← hcenv]; rfl
  have hcl : cenv.cells = cloFrom X.env.cells scope.names [] := by rw [← hcenv]; rfl
  have hsc : cenv.scope = scope := by rw [← hcenv]; rfl
  have cm : ∀ {y c}, (y, c) ∈ cloFrom X.env.cells scope.names [] → X.env.cells.lookup y = some c ∧ c < s.heap.objs.size := fun {y c} hm => by
    rcases cloFrom_mem hm with hm | ⟨h1, rfl⟩
    · cases hm
    · obtain ⟨c, hc⟩ := hfree _ h1 rfl
      rw [hc]
      obtain ⟨w, z⟩ := I.cell _ _ hc
      exact ⟨rfl, z.lt⟩
  have mem : ∀ {y c}, cenv.cells.lookup y = some c → X.env.cells.lookup y = some c ∧ c < s.heap.objs.size := fun {y c} e => by
    rw [hcl] at e
    exact cm (PySem.mem_of_lookup e)
  have look : ∀ {y}, scope.names.lookup y = some .free → ∃ c, cenv.cells.lookup y = some c ∧ X.env.cells.lookup y = some c := fun {y} hl => by
    have hy : (y, NameKind.free) ∈ scope.names := PySem.mem_of_lookup hl
    obtain ⟨c', e'⟩ := mem_lookup (cloFrom_has (cells := X.env.cells) (acc := []) hy)
    rw [← hcl] at e'
    exact ⟨c', e', (mem e').1⟩
  have okB : (gblk X A s H cenv fp).Ok := by
    refine ⟨I.ok.mod, by show cenv.scope.kind = _; rw [hsc]; exact ok.kind, by show cenv.globals = _; rw [← hcenv]; exact I.ok.glob, by show cenv.builtins = _; rw [← hcenv]; rfl, by show s.heap.objs.size ≤ cenv.locals; rw [hL]; exact Nat.le_refl _,
      fun y z c e1 e2 => I.ok.inj y z c (mem e1).1 (mem e2).1, fun y hy => ?_, fun y c z e => (by cases z), fun _ => hh, hfr, .inr ⟨rfl, by show cenv.frame = some cenv.locals; rw [← hcenv]; rfl⟩, fun b hb => ⟨?_, fun y c e z => ?_⟩, I.bs, Nat.le_trans I.ok.bsz I.sz, fun b o e hb => ?_, fun b hb z => ?_, I.stack, I.stkFree⟩
    · have hy' : scope.names.lookup y = some .cell ∨ scope.names.lookup y = some .free := by
        rw [← hsc]
        exact hy
      rcases hy' with e | e
      · exact absurd rfl (nocell _ (PySem.mem_of_lookup e))
      · obtain ⟨c, h1, _⟩ := look e
        exact ⟨c, h1⟩
    · show b ≠ cenv.locals
      rw [hL]; exact Nat.ne_of_lt (hfp b hb).2
    · exact (hfp b hb).1.2.2.2.2.1 y c (mem e).1 z
    · rcases (hfp b hb).1.2.2.2.1 with z | z
      · exact I.ok.noex b o e z
      · exact absurd (Nat.lt_of_lt_of_le (Heap.lt_size e) (Nat.le_trans I.ok.bsz z)) (Nat.lt_irrefl _)
    · rcases List.mem_cons.mp (I.stkSub b z) with z | z
      · exact (hfp b hb).1.2.1 z
      · exact (hfp b hb).1.2.2.1 z
  refine ⟨okB, os, bare, Un.kept kp, ⟨_, (by show s5.heap.Ns cenv.locals _; rw [hL]; exact hns), fun i y av e1 e2 e3 => ?_⟩, fun y c e => ?_, ?_, fun y c e => I.freeC y c (mem e).1, fun p hp => ?_, I.hok.kept kp, by rw [wipe_length]; exact I.len⟩
  · obtain ⟨e2, hne⟩ := wipe_some e2
    have e3 : Vis scope y := by rw [← hsc]; exact e3
    have no : ∀ k, scope.names.lookup y = some k → ¬ (k = .local ∨ k = .cell) := fun k e hh => by
      rcases ok.own _ (PySem.mem_of_lookup e) hh with e' | e'
      · obtain ⟨p, hp, hpy⟩ := List.mem_map.mp e'
        have e3 := ok.ix p hp
        have : p.1 = y := hpy
        rw [this] at e3
        exact hne (List.mem_map.mpr ⟨p, hp, nodup_ix hN e3 e1⟩)
      · exact e' (List.mem_of_getElem? e1)
    have hfr2 : scope.names.lookup y = some .free := by
      rcases e3 with e | e | e
      · exact absurd (.inl rfl) (no _ e)
      · exact absurd (.inr rfl) (no _ e)
      · exact e
    obtain ⟨m, hn, hl⟩ := I.loc
    have hvis : Vis X.env.scope y := (ok.free _ (PySem.mem_of_lookup hfr2) rfl).elim (fun k => .inr (.inl k)) (fun k => .inr (.inr k))
    obtain ⟨w, r, q⟩ := hl i y av e1 e2 hvis
    refine ⟨w, r, .inr ⟨.inr (by show cenv.scope.names.lookup y = some .free; rw [hsc]; exact hfr2), ?_⟩⟩
    obtain ⟨c, h1, h2⟩ := look hfr2
    rcases q with ⟨k, _⟩ | ⟨_, c', e', z⟩
    · have k : X.env.scope.names.lookup y = some .local := k
      rcases ok.free _ (PySem.mem_of_lookup hfr2) rfl with k' | k' <;> rw [show X.env.scope.names.lookup y = _ from k'] at k <;> cases k
    · rw [h2] at e'; cases e'
      exact ⟨c, h1, z.keeps kp⟩
  · obtain ⟨w, z⟩ := I.cell y c (mem e).1
    exact ⟨w, z.keeps kp⟩
  · show H cenv.locals = none
    rw [hL]; exact I.hok.fresh (Nat.le_refl _)
  · have hp : p ∈ cp := by simpa using hp
    obtain ⟨h1, h2, h3⟩ := hcp p hp
    refine ⟨h2, I.hok.fresh (Nat.le_of_lt h1), by show p.1 ≠ cenv.locals; rw [hL]; exact Nat.ne_of_gt h1, fun z => ?_, h3⟩
    rcases List.mem_cons.mp (I.stkSub _ z) with z | z
    · exact absurd (Nat.lt_trans I.lt h1) (by rw [z]; exact Nat.lt_irrefl _)
    · exact I.nofs (Nat.le_of_lt h1) z
end
/-! ### the talk of a generator and who asks it -/
section
variable {α : Type}
/-- handed out: x; the asker's state a (laid down in the pins cp) goes to one with Nx -/
def YG (Xg : Cx) (fp : List Addr) (tn : Nat → Heap → Prop) (AC : α → List (Addr × Obj) → Prop) (Yd : α → V → Hp → (α → Hp → Prop) → Prop) : Protocol := fun _ s0 v s kap =>
  ∃ (a : α) (x : V) (σ : L2.St) (H : Hp) (i : Nat) (cp : List (Addr × Obj)) (Nx : α → Hp → Prop), RelV x v ∧ AC a cp ∧ (∀ p ∈ cp, s0.heap.get? p.1 = some p.2) ∧ Inv Xg cp σ H s ∧ tn i s.heap ∧ (∀ b ∈ fp, H b = none) ∧ Yd a x H Nx ∧
    ∀ a' cp' s', Nx a' H → AC a' cp' → Inv Xg cp' σ H s' → tn i s'.heap → kap (.send .none) s'
def RG (Xg : Cx) (AC : α → List (Addr × Obj) → Prop) (End : α → Hp → Prop) : GenEnd := fun _ s0 r s =>
  ((r = .ok (.ret .none) ∨ r = .ok .next) ∧ ∃ (a : α) (σ : L2.St) (H : Hp) (cp : List (Addr × Obj)), AC a cp ∧ (∀ p ∈ cp, s0.heap.get? p.1 = some p.2) ∧ Inv Xg cp σ H s ∧ End a H) ∨ ∃ e, r = .error e ∧ False
/-- a generator's turns -/
def tGx (J : It) (g : TG) (tt : TT) (te : TE) (σ0 : L2.St) (vs : List Nat) (End : α → Hp → Prop) (Yd : α → V → Hp → (α → Hp → Prop) → Prop) (W : Nat → Nat → α → Hp → Prop) : Prop :=
  ∀ i m a H, W i m a H → (J.stop i H ∧ End a H) ∨ (J.go i H ∧ ∃ Nx : α → Hp → Prop, (∀ a' H', Nx a' H' → ∃ m', m' < m ∧ W (i + 1) m' a' H') ∧
    ∀ x H', J.yld i H x H' → g x σ0 H' fun σ2 H2 => wipe σ2 vs = σ0 ∧ tt σ2 H2 fun b H3 => if b = true then te σ2 H3 fun y H4 => Yd a y H4 Nx else Nx a H3)
theorem wipe_wipe_some {σ σ2 : L2.St} {vs : List Nat} (h : wipe σ2 vs = σ) : ∀ (j : Nat) v, σ[j]? = some (some v) → σ2[j]? = some (some v) := fun j v e => by
  rw [← h] at e
  exact (wipe_some e).1
theorem seg_gx {X : Cx} {A A' : Around} {s_0 : Shared} {H_0 : Hp} {elt tg iter : Expr} {ifs : List Expr} {scope : Scope} {pos : Pos} {it : Addr} {fp : List Addr} {tn : Nat → Heap → Prop} {J : It} {cenv : Env} {g : TG} {tt : TT} {te : TE} {σ0 : L2.St} {vs : List Nat}
    {AC : α → List (Addr × Obj) → Prop} {End : α → Hp → Prop} {Yd : α → V → Hp → (α → Hp → Prop) → Prop} {W : Nat → Nat → α → Hp → Prop}
    (hA : A.over (.compLoop (.GeneratorExp elt [⟨tg, iter, ifs, 0⟩] scope pos) 0 (.ref it) .none cenv) [] = A') (hc : X.calm = true) (hco : cenv.scope.isCoroutine = false)
    (T : Turn X.prog X.w X.K tg J fp it tn) (pg : PG (gblk X A' s_0 H_0 cenv fp) tg g) (pt : PTs (gblk X A' s_0 H_0 cenv fp) ifs tt) (pe : PE (gblk X A' s_0 H_0 cenv fp) elt te)
    (hAC : ∀ a cp, AC a cp → ∀ p ∈ cp, ∀ b ∈ fp, p.1 ≠ b) (turn : tGx J g tt te σ0 vs End Yd W) :
    ∀ (m n i : Nat) (a : α) (H : Hp) (s₀ s : Shared) (cp : List (Addr × Obj)), m < n → W i m a H → AC a cp → (∀ p ∈ cp, s₀.heap.get? p.1 = some p.2) → Inv (gblk X A' s_0 H_0 cenv fp) cp σ0 H s → tn i s.heap → (∀ b ∈ fp, H b = none) →
      Seg (model X.prog X.w) A (RG (gblk X A' s_0 H_0 cenv fp) AC End) (YG (gblk X A' s_0 H_0 cenv fp) fp tn AC Yd) n s₀
        (.compLoop (.GeneratorExp elt [⟨tg, iter, ifs, 0⟩] scope pos) 0 (.ref it) .none cenv)
        ((model X.prog X.w).den (.compLoop (.GeneratorExp elt [⟨tg, iter, ifs, 0⟩] scope pos) 0 (.ref it) .none cenv)) [] s := by
  have stat : ∀ {a : α} {cp : List (Addr × Obj)} {σ' : L2.St} {H' : Hp} {s' : Shared}, AC a cp → Inv (gblk X A' s_0 H_0 cenv fp) cp σ' H' s' → (∀ b ∈ fp, H' b = none) → ∀ b ∈ fp, FpOk (gblk X A' s_0 H_0 cenv fp) cp H' b := fun {a cp σ' H' s'} hac I' hn b hb =>
    ⟨hn b hb, (I'.ok.exf b hb).1, I'.ok.exfs b hb, .inl hb, fun x c e => (I'.ok.exf b hb).2 x c e, fun p hp => hAC a cp hac p (by simpa using hp) b hb⟩
  intro m
  induction m using Nat.strongRecOn with
  | ind m ih =>
    intro n i a H s₀ s cp hmn w hac tie I st nf
    show Seg _ A _ _ _ s₀ _ ((compTurn (.GeneratorExp elt [⟨tg, iter, ifs, 0⟩] scope pos) 0 (.ref it) .none cenv).onRaise (leaving cenv)) [] s
    rw [compTurn_gen, Sem.onRaise_eq_wrap]
    refine seg_bind_wrap (wpAny_standAt ?_)
    rcases turn i m a H w with ⟨stop, hend⟩ | ⟨go, Nx, hNx, step⟩
    · refine seg_bind_wrap ?_
      rw [hA]
      refine thnF (T.done (gblk X A' s_0 H_0 cenv fp) rfl rfl rfl hc i cp s σ0 H (fun _ _ => False) I (stat hac I nf) st stop) fun r s1 ⟨hr, I1⟩ => ?_
      subst hr
      exact seg_end (.ok .next) (.inl ⟨.inr rfl, a, _, H, cp, hac, tie, I1, hend⟩)
    · refine seg_bind_wrap ?_
      rw [hA]
      refine thnF (T.item (gblk X A' s_0 H_0 cenv fp) rfl rfl rfl hc i cp s σ0 H (fun _ _ => False) I (stat hac I nf) st go) fun r s1 ⟨u, hr, h1⟩ => ?_
      subst hr
      refine seg_bind_wrap ?_
      rw [hA]
      refine thnF h1 fun _ s2 ⟨x, H2, I2, r2, y2, st2, n2⟩ => ?_
      have I2' := I2.pinned (stat hac I2 n2) (T.obj _ _ st2)
      refine seg_bind_wrap ?_
      rw [hA]
      refine thnF (pg.run _ s2 _ H2 x u _ I2' r2 (step x H2 y2)) fun _ s3 ⟨σ3, H3, I3, hw3, q3⟩ => ?_
      refine seg_bind_wrap ?_
      rw [hA]
      refine thnF (pt.run _ s3 σ3 H3 _ I3 q3) fun b s4 ⟨H4, I4, q4⟩ => ?_
      have hl : σ0.length = σ3.length := by rw [← hw3, wipe_length]
      have fin : ∀ {s' : Shared} {H' : Hp}, Inv (gblk X A' s_0 H_0 cenv fp) (cp ++ pinsAt fp s2.heap) σ3 H' s' → Inv (gblk X A' s_0 H_0 cenv fp) cp σ0 H' s' ∧ tn (i + 1) s'.heap ∧ ∀ b ∈ fp, H' b = none := fun {s' H'} I' => by
        have pin' : ∀ b ∈ fp, ∀ o, s2.heap.get? b = some o → s'.heap.get? b = some o ∧ H' b = none := fun b hb o e =>
          let z := I'.pin (b, o) (List.mem_append_right _ (List.mem_append_right _ (mem_pinsAt hb e)))
          ⟨z.1, z.2.1⟩
        refine ⟨(I'.unpinned (pins := cp)).weak hl (wipe_wipe_some hw3), T.keep _ _ _ st2 fun b hb o e => (pin' b hb o e).1, fun b hb => ?_⟩
        obtain ⟨o, e, _⟩ := T.obj _ _ st2 b hb
        exact (pin' b hb o e).2
      cases b with
      | false =>
        simp only [Bool.false_eq_true, if_false] at q4 ⊢
        obtain ⟨m', hm, w'⟩ := hNx a H4 q4
        obtain ⟨J1, J2, J3⟩ := fin I4
        exact seg_again rfl (ih m' hm n (i + 1) a H4 s₀ s4 cp (by omega) w' hac tie J1 J2 J3)
      | true =>
        simp only [if_true] at q4 ⊢
        have hy : ∀ v, yieldOut cenv v = yieldValue v := fun v => by simp only [yieldOut, hco, Bool.false_eq_true, if_false]
        simp only [hy]
        rw [Sem.bind_eq_wrap', Sem.bind_eq_wrap', Sem.wrap_wrap, Sem.wrap_wrap]
        refine seg_wrap ?_
        rw [hA]
        refine thnF (pe.run _ s4 σ3 H4 _ I4 q4) fun yv s5 ⟨y, H5, I5, r5, q5⟩ => ?_
        obtain ⟨J1, J2, J3⟩ := fin I5
        -- at least one more
        cases n with
        | zero => exact absurd hmn (Nat.not_lt_zero _)
        | succ n =>
          refine seg_at (seg_yield rfl rfl rfl ⟨a, y, σ0, H5, i + 1, cp, Nx, r5, hac, tie, J1, J2, J3, q5, fun a' cp' s' nx hac' I' st' => ?_⟩)
          obtain ⟨m', hm, w'⟩ := hNx a' H5 nx
          exact seg_again rfl (ih m' hm n (i + 1) a' H5 s' s' cp' (by omega) w' hac' (fun p hp => (I'.pin p (List.mem_append_right _ hp)).1) I' st' J3)
end
/-! ### a generator that is made -/
section
variable {X : Cx} {pins : List (Addr × Obj)} {σ : L2.St} {H : Hp} {s : Shared}
def GenObj (o : Obj) (g : Nat) : Prop := ∃ nm qn, o.cls = .type "generator" ∧ o.data = .fields #[.int g 0, nm, qn] ∧ o.slots = #[]
theorem GenObj.isGen {o : Obj} {g : Nat} (h : GenObj o g) {a : Addr} {hp : Heap} (e : hp.get? a = some o) : hp.IsGen a g := by
  obtain ⟨nm, qn, h1, h2, h3⟩ := h
  exact ⟨o, nm, qn, e, h1, h2, h3⟩
/-- the generator u, made and not begun, in the state s5 -/
def Gx (X : Cx) (pins : List (Addr × Obj)) (σ : L2.St) (A : Around) (J : It) (g : TG) (tt : TT) (te : TE) (vs : List Nat) (H4 : Hp) (u : Value) (s5 : Shared) : Prop :=
  ∃ (A' : Around) (s_0 : Shared) (H_0 : Hp) (cenv : Env) (fp : List Addr) (ga : Addr) (gn : Nat) (go : Obj) (tn : Nat → Heap → Prop) (gs : GenState),
    u = .ref ga ∧ GenObj go gn ∧ s5.gens[gn]? = some gs ∧ gs.bare = true ∧ Inv (gblk X A' s_0 H_0 cenv fp) [(ga, go)] (wipe σ vs) H4 s5 ∧ tn 0 s5.heap ∧ (∀ b ∈ fp, H4 b = none) ∧ (∀ b ∈ fp, b < ga) ∧
    (∀ i h h', tn i h → (∀ b ∈ fp, ∀ o, h.get? b = some o → h'.get? b = some o) → tn i h') ∧ (∀ cp σ' H' s', Inv (gblk X A' s_0 H_0 cenv fp) cp σ' H' s' → Inv X pins σ H' s') ∧
    ∀ (α : Type) (AC : α → List (Addr × Obj) → Prop) (End : α → Hp → Prop) (Yd : α → V → Hp → (α → Hp → Prop) → Prop) (W : Nat → Nat → α → Hp → Prop) (m n : Nat) (a : α) (cp : List (Addr × Obj)) (s' : Shared),
      tGx J g tt te (wipe σ vs) vs End Yd W → W 0 m a H4 → m < n → (∀ a cp, AC a cp → ∀ p ∈ cp, ∀ b ∈ fp, p.1 ≠ b) → AC a cp → Inv (gblk X A' s_0 H_0 cenv fp) cp (wipe σ vs) H4 s' → tn 0 s'.heap →
      gs.Goes (model X.prog X.w) A (RG (gblk X A' s_0 H_0 cenv fp) AC End) (YG (gblk X A' s_0 H_0 cenv fp) fp tn AC Yd) n (.send .none) s'
/-- what stands about an asker -/
structure Near (A B : Around) : Prop where
  hd : B.handled = A.handled
  fr : B.frames = A.frames
  gd : B.guards = A.guards
  dp : B.depth = A.depth
  un : B.units ≤ A.units + 8
theorem gx_make {c P : Addr} {elt tg iter : Expr} {ifs : List Expr} {gpos : Pos} {scope : Scope} {own : List (Str × Nat)} {wi : TI} {g : TG} {tt : TT} {te : TE} {k : Nat} {Q' : Value → Shared → Prop} {R : It → Hp → Prop} {A : Around}
    (hr : Room (k + 1) X.A) (near : Near X.A A) (hc : X.calm = true) (hN : X.N.Nodup) (TB : GxR.TabB X.base X.mg c P) (hcode : X.env.code = .ref c) (hco : scope.isCoroutine = false) (hdot : scope.names.lookup (".0" : Str) = some NameKind.local)
    (nocell : ∀ y ∈ scope.names, y.2 ≠ .cell) (ok : BlkOk X.N X.env.scope scope own) (hi : PI X tg iter wi)
    (hg : ∀ (A' : Around) (s : Shared) (H : Hp) (C : Addr) (cl : List (Str × Addr)) (code : Value) (fp : List Addr), Room k A' → A'.guards = X.A.guards → PG (gblk X A' s H (genEnv scope cl C code builtinsNs X.env) fp) tg g)
    (ht : ∀ (A' : Around) (s : Shared) (H : Hp) (C : Addr) (cl : List (Str × Addr)) (code : Value) (fp : List Addr), Room k A' → A'.guards = X.A.guards → PTs (gblk X A' s H (genEnv scope cl C code builtinsNs X.env) fp) ifs tt)
    (he : ∀ (A' : Around) (s : Shared) (H : Hp) (C : Addr) (cl : List (Str × Addr)) (code : Value) (fp : List Addr), Room k A' → A'.guards = X.A.guards → PE (gblk X A' s H (genEnv scope cl C code builtinsNs X.env) fp) elt te)
    (hs : ∀ v, genFold iter X.env v = pure v) (I : Inv X pins σ H s) (h : wi σ H fun J H1 => GxR.TabG H1 P ∧ R J H1)
    (hQ : ∀ J H1 H2 u s5, R J H1 → GxR.Tabbed P H1 H2 → Gx X pins σ A J g tt te (own.map (·.2)) H2 u s5 → Q' u s5) :
    wpAny (model X.prog X.w) X.A (eval (.GeneratorExp elt [⟨tg, iter, ifs, 0⟩] scope gpos) X.env) Q' X.xe s := by
  have hfree : ∀ y ∈ scope.names, y.2 = .free → ∃ c, X.env.cells.lookup y.1 = some c := fun y hy e => by
    rcases ok.free y hy e with k | k
    · exact I.ok.has _ (.inl k)
    · exact I.ok.has _ (.inr k)
  refine wpAny_GeneratorExp_make hco (closure_ok hfree) nocell hdot ok.kind (by have := hr.dp; omega) ?_ hs
  refine thn (hi.run pins s σ H _ I h) fun xv s1 hx => thn hx fun itv s2 h2 => ?_
  obtain ⟨it, fp, tn, J, H2, rfl, I2, T, st2, f2, ⟨ps, hP, ht3⟩, q⟩ := h2
  refine ⟨I2.nolimit, ?_⟩
  have hPs : s2.heap.get? P = some { cls := .none, data := .fields ps } := I2.hok P _ hP
  have cd : PySem.W.CodeHd s2.heap c P := TB.code.keeps fun b u e => I2.bk b u e
  have nP : ∀ b, H2 b = none → b ≠ P := fun b e z => by
    rw [z, hP] at e
    cases e
  have cont : ∀ (code : Value) (h3 : Heap) (tk : Nat) (ps' : Array Value), Heap.ExtBut P s2.heap h3 → s2.heap.objs.size ≤ h3.objs.size → h3.get? P = some { cls := .none, data := .fields ps' } → (∃ more, ps' = ps ++ more) → TriplesOk ps'.toList →
      wpAny (model X.prog X.w) X.A (builtinsFor X.env.globals X.env.builtins) (fun bi s₄ =>
        ∀ h', h'.Ns s₄.heap.objs.size (fun y => if y = ".0" then some (Value.ref it) else none) → Heap.SameBut s₄.heap.objs.size (s₄.heap.push { cls := .type "frame", data := .dict #[] }) h' →
          Q' (.ref h'.objs.size) { s₄ with
            gens := s₄.gens.push (.fresh (.compStart (.GeneratorExp elt [⟨tg, iter, ifs, 0⟩] scope gpos) 0 (.ref it) .none (genEnv scope (cloFrom X.env.cells scope.names []) s₄.heap.objs.size code bi X.env))),
            toks := s₄.toks + 1 + 1 + 1,
            heap := h'.push { cls := .type "generator", data := .fields #[.int s₄.gens.size 0, .str "<genexpr>" (s₄.toks + 1), .str (X.env.qual ++ "<genexpr>") (s₄.toks + 1 + 1)] } }) X.xe { s2 with heap := h3, toks := tk } := by
    rintro code h3 tk ps' hx hsz hP3 ⟨more, rfl⟩ ht4
    obtain ⟨bm, ob, e1, e2, e3, e4, e5, e6, e7, e8⟩ := TB.bm
    refine wpAny_builtinsFor (m := X.mg) (by rw [I2.ok.glob]; exact (I2.mod.glob.keeps I2.bk).extBut hx TB.gP) e1 e2 (hx _ _ e4 (I2.bk _ _ e5)) e6 e7 e8 ?_
    intro h' hns hsb
    have I3 : Inv X pins σ (upd H2 P (.tbl (ps ++ more))) { s2 with heap := h3, toks := tk } := GxR.inv_tab (g' := s2.gens) (d' := s2.drawn) I2 hP (fun b o hb e => hx b o hb e) hP3 I2.bare
    have lt2 : ∀ b ∈ fp, b < s2.heap.objs.size := fun b hb => by
      obtain ⟨o, e, _⟩ := T.obj _ _ st2 b hb
      exact Heap.lt_size e
    have f3 : ∀ b ∈ fp, FpOk X pins (upd H2 P (.tbl (ps ++ more))) b ∧ b < ({ s2 with heap := h3, toks := tk } : Shared).heap.objs.size := fun b hb => by
      refine ⟨⟨?_, (f2 b hb).2⟩, Nat.lt_of_lt_of_le (lt2 b hb) hsz⟩
      rw [upd_ne (nP b (f2 b hb).1)]
      exact (f2 b hb).1
    have st3 : tn 0 h3 := T.keep _ _ _ st2 fun b hb o e => hx b o (nP b (f2 b hb).1) e
    generalize hs4 : ({ s2 with heap := h3, toks := tk } : Shared) = s4 at I3 f3 hns hsb ⊢
    have h4 : s4.heap = h3 := by rw [← hs4]
    have hsz4 : h'.objs.size = s4.heap.objs.size + 1 := by rw [hsb.1, Heap.size_push]
    have keep' : ∀ b o, s4.heap.get? b = some o → h'.get? b = some o := fun b o e => hsb.extBut b o (Nat.ne_of_lt (Heap.lt_size e)) (Heap.get?_push_of_some _ e)
    generalize hgo : ({ cls := .type "generator", data := .fields #[.int s4.gens.size 0, .str "<genexpr>" (s4.toks + 1), .str (X.env.qual ++ "<genexpr>") (s4.toks + 1 + 1)] } : Obj) = go
    have hGO : GenObj go s4.gens.size := by rw [← hgo]; exact ⟨_, _, rfl, rfl, rfl⟩
    have k5 : ∀ b o, s4.heap.get? b = some o → (h'.push go).get? b = some o := fun b o e => Heap.get?_push_of_some _ (keep' b o e)
    have pg := fun A' => hg A' s4 (upd H2 P (.tbl (ps ++ more))) s4.heap.objs.size (cloFrom X.env.cells scope.names []) code fp
    have pt := fun A' => ht A' s4 (upd H2 P (.tbl (ps ++ more))) s4.heap.objs.size (cloFrom X.env.cells scope.names []) code fp
    have pe := fun A' => he A' s4 (upd H2 P (.tbl (ps ++ more))) s4.heap.objs.size (cloFrom X.env.cells scope.names []) code fp
    generalize hce : genEnv scope (cloFrom X.env.cells scope.names []) s4.heap.objs.size code builtinsNs X.env = cenv at pg pt pe ⊢
    have hscn : cenv.scope = scope := by rw [← hce]; rfl
    generalize hA' : A.over (.compLoop (.GeneratorExp elt [⟨tg, iter, ifs, 0⟩] scope gpos) 0 (.ref it) .none cenv) [] = A'
    have hfrA : A'.frames = some (cenv :: X.stack) := by
      rw [← hA']
      show pushEnvs [cenv] A.frames = _
      rw [near.fr, I2.ok.frames]
      rfl
    have hhd : A'.handled = none := by
      rw [← hA']
      show A.handled = none
      rw [near.hd]
      exact hr.hd
    have rm : Room k A' := by
      refine ⟨hhd, ?_, ?_⟩
      · have := hr.dp
        have := near.dp
        rw [← hA']
        show A.depth + 0 + 1 + 3 * k + 5 < _
        omega
      · have := hr.un
        have := near.un
        rw [← hA']
        show A.units + 0 + 3 + 16 * k + 200 < _
        omega
    have gdA : A'.guards = X.A.guards := by
      rw [← hA']
      show pushGuards [] A.guards = _
      rw [near.gd]
      rfl
    have I5 : Inv (gblk X A' s4 (upd H2 P (.tbl (ps ++ more))) cenv fp) [(h'.objs.size, go)] (wipe σ (own.map (·.2))) (upd H2 P (.tbl (ps ++ more)))
        { s4 with gens := s4.gens.push (.fresh (.compStart (.GeneratorExp elt [⟨tg, iter, ifs, 0⟩] scope gpos) 0 (.ref it) .none cenv)), toks := s4.toks + 1 + 1 + 1, heap := h'.push go } := by
      subst hce
      refine gen_start (it := .ref it) I3 ok nocell hN f3 hhd hfrA rfl (I3.bare.push rfl) k5 (hns.push _) fun p hp => ?_
      have e : p = (h'.objs.size, go) := by simpa using hp
      subst e
      refine ⟨by show s4.heap.objs.size < h'.objs.size; omega, Heap.get?_push_size _ (by rw [← hgo]; rfl), fun v z => ?_⟩
      rw [← hgo] at z
      cases z
    refine hQ J H2 _ _ _ q ⟨⟨_, upd_same, ht4⟩, fun b hb => upd_ne hb⟩ ⟨A', s4, _, cenv, fp, h'.objs.size, s4.gens.size, go, tn, _, rfl, hGO, Array.getElem?_push_size .., rfl, I5, ?_, fun b hb => (f3 b hb).1.1, fun b hb => ?_, T.keep, fun cp σ' H' s' I' => ?_, ?_⟩
    · exact T.keep _ _ _ st3 fun b _ o e => k5 b o (by rw [h4]; exact e)
    · have := (f3 b hb).2
      rw [hsz4]
      exact Nat.lt_succ_of_lt this
    · exact I3.call' (ch := fp) I'.os I'.base I'.hok I'.bare fun b hb => ⟨(f3 b hb).1.2.2.2.1, (f3 b hb).1.2.1, (f3 b hb).1.2.2.2.2.1, (f3 b hb).1.2.2.2.2.2⟩
    · intro α AC End Yd W m n a cp s' turn w hmn hAC hac I' st'
      refine ⟨rfl, ?_⟩
      have loop := seg_gx (A := A) (pos := gpos) (iter := iter) (scope := scope) hA' hc (by rw [hscn]; exact hco) T (pg A' rm gdA) (pt A' rm gdA) (pe A' rm gdA) hAC turn m n 0 a _ s' s' cp hmn w hac (fun p hp => (I'.pin p (List.mem_append_right _ hp)).1) I' st' fun b hb => (f3 b hb).1.1
      show Seg _ A _ _ _ s' _ ((compStart (.GeneratorExp elt [⟨tg, iter, ifs, 0⟩] scope gpos) 0 (.ref it) .none cenv).onRaise (leaving cenv)) [] s'
      unfold compStart
      rw [Sem.onRaise_eq_wrap]
      show Seg _ A _ _ _ s' _ ((ask >>= _).wrap _ _ _ _) [] s'
      refine seg_bind_wrap (wpAny_askSetting ?_)
      split
      · exact seg_again rfl loop
      · first
          | exact seg_bind_wrap (wpAny_rule (seg_bind_wrap (wpAny_standAt (seg_bind_wrap (T.self _ 0 s' _ _ st' (seg_again rfl loop))))))
          | (refine seg_bind_wrap (wpAny_rule ?_); show Seg _ A _ _ _ s' _ ((standAt iter.pos >>= _).wrap _ _ _ _) [] s'; exact seg_bind_wrap (wpAny_standAt (seg_bind_wrap (T.self _ 0 s' _ _ st' (seg_again rfl loop)))))
  cases hf : codeAmong gpos ps.toList with
  | none =>
    refine wpAny_genexprCodeX hcode (cd.code hPs ht3) (cd.tab hPs) hf fun c' h' tk hx hge hlt hco' _ htab' _ => ?_
    obtain ⟨o1, vs, f1, tf, fl, tg, inF, tx, tt, op, _, _, _, _, _, _, _, _, _, htr, _⟩ := hco'
    exact cont _ h' tk _ hx (Nat.le_trans hge (Nat.le_of_lt hlt)) htab'.2 ⟨_, rfl⟩ htr
  | some cv =>
    refine wpAny_genexprCode_hit hcode (cd.code hPs ht3) hf ?_
    exact cont cv s2.heap s2.toks ps (Heap.ExtBut.refl _ _) (Nat.le_refl _) hPs ⟨#[], by simp⟩ ht3
end
/-! ### asking -/
section
variable {α : Type} {X : Cx} {A A' : Around} {s_0 : Shared} {H_0 : Hp} {cenv : Env} {fp : List Addr} {tn : Nat → Heap → Prop} {AC : α → List (Addr × Obj) → Prop} {End : α → Hp → Prop} {Yd : α → V → Hp → (α → Hp → Prop) → Prop} {ga : Addr} {gn n : Nat} {go : Obj}
theorem next_gx2 {gs : GenState} {s : Shared} {Q : Option Value → Shared → Prop} {E : Value → Shared → Prop} (hh : A.handled = none) (hroom : A.depth < recursionLimit) (hl : s.heap.NoLimit) (hG : GenObj go gn) (e : s.heap.get? ga = some go) (hgs : s.gens[gn]? = some gs)
    (hgo : gs.Goes (model X.prog X.w) A.in1 (RG (gblk X A' s_0 H_0 cenv fp) AC End) (YG (gblk X A' s_0 H_0 cenv fp) fp tn AC Yd) n (.send .none) (s.setGen gn .running))
    (item : ∀ (a : α) (x : V) (σ : L2.St) (H : Hp) (i : Nat) (cp : List (Addr × Obj)) (Nx : α → Hp → Prop) (v : Value) (s1 : Shared) (gs' : GenState), RelV x v → AC a cp → (∀ p ∈ cp, s.heap.get? p.1 = some p.2) → Inv (gblk X A' s_0 H_0 cenv fp) cp σ H s1 → tn i s1.heap → Yd a x H Nx → s1.gens[gn]? = some gs' →
      (∀ a' cp' s', Nx a' H → AC a' cp' → Inv (gblk X A' s_0 H_0 cenv fp) cp' σ H s' → tn i s'.heap → ∃ m, n = m + 1 ∧ gs'.Goes (model X.prog X.w) A.in1 (RG (gblk X A' s_0 H_0 cenv fp) AC End) (YG (gblk X A' s_0 H_0 cenv fp) fp tn AC Yd) m (.send .none) s') → Q (some v) s1)
    (done : ∀ (a : α) (σ : L2.St) (H : Hp) (cp : List (Addr × Obj)) (s1 : Shared), AC a cp → (∀ p ∈ cp, s.heap.get? p.1 = some p.2) → Inv (gblk X A' s_0 H_0 cenv fp) cp σ H s1 → End a H → Q none s1) :
    wpAny (model X.prog X.w) A (pyNext (.ref ga)) Q E s := by
  have hgl : gn < s.gens.size := (Array.getElem?_eq_some_iff.mp hgs).1
  refine GenW.wpAny_gsz (n := gn + 1) hgl (next_genG (Er := fun _ _ => False) hh hl hroom (hG.isGen e) hgs hgo (fun v s₁ gs' hbare hv => ?_) (fun s₁ hp h' hk => ?_) fun e s₁ he => he.elim)
  · intro hsz
    obtain ⟨a, x, σ, H, i, cp, Nx, r, hac, tie, I, st, nf, hy, kap⟩ := hv
    have hsz1 : gn < s₁.gens.size := by
      have q : (s₁.setGen gn gs').gens.size = s₁.gens.size := GenW.setGen_size _ _ _
      have hsz' : gn + 1 ≤ (s₁.setGen gn gs').gens.size := hsz
      omega
    refine item a x σ H i cp Nx v (s₁.setGen gn gs') gs' r hac tie (inv_moved I rfl (allBare_setGen I.bare hbare) fun _ _ q => q) st hy (setGen_at hsz1) fun a' cp' s' nx hac' I' st' => ?_
    have z := kap a' cp' s' nx hac' I' st'
    cases n with
    | zero => exact z.elim
    | succ m => exact ⟨m, rfl, z⟩
  · intro _
    obtain ⟨a, σ, H, cp, hac, tie, I, q⟩ := hp
    exact done a σ H cp _ hac tie (inv_moved I rfl (allBare_setGen I.bare rfl) hk) q
theorem next_gx {gs : GenState} {s : Shared} {Q : Option Value → Shared → Prop} {E : Value → Shared → Prop} (hh : A.handled = none) (hroom : A.depth < recursionLimit) (hl : s.heap.NoLimit) (hG : GenObj go gn) (e : s.heap.get? ga = some go) (hgs : s.gens[gn]? = some gs)
    (hgo : gs.Goes (model X.prog X.w) A.in1 (RG (gblk X A' s_0 H_0 cenv fp) AC End) (YG (gblk X A' s_0 H_0 cenv fp) fp tn AC Yd) n (.send .none) (s.setGen gn .running))
    (item : ∀ (a : α) (x : V) (σ : L2.St) (H : Hp) (i : Nat) (cp : List (Addr × Obj)) (Nx : α → Hp → Prop) (v : Value) (s1 : Shared) (gs' : GenState), RelV x v → AC a cp → Inv (gblk X A' s_0 H_0 cenv fp) cp σ H s1 → tn i s1.heap → Yd a x H Nx → s1.gens[gn]? = some gs' →
      (∀ a' cp' s', Nx a' H → AC a' cp' → Inv (gblk X A' s_0 H_0 cenv fp) cp' σ H s' → tn i s'.heap → ∃ m, n = m + 1 ∧ gs'.Goes (model X.prog X.w) A.in1 (RG (gblk X A' s_0 H_0 cenv fp) AC End) (YG (gblk X A' s_0 H_0 cenv fp) fp tn AC Yd) m (.send .none) s') → Q (some v) s1)
    (done : ∀ (a : α) (σ : L2.St) (H : Hp) (cp : List (Addr × Obj)) (s1 : Shared), AC a cp → Inv (gblk X A' s_0 H_0 cenv fp) cp σ H s1 → End a H → Q none s1) :
    wpAny (model X.prog X.w) A (pyNext (.ref ga)) Q E s :=
  next_gx2 hh hroom hl hG e hgs hgo (fun a x σ H i cp Nx v s1 gs' r hac _ I st hy at_ kap => item a x σ H i cp Nx v s1 gs' r hac I st hy at_ kap) fun a σ H cp s1 hac _ I q => done a σ H cp s1 hac I q
/-- all(..) asks on -/
theorem all_gx {R : Result → Shared → Prop} {Stop : Hp → Prop} {End : Unit → Hp → Prop} (hh : A.handled = none) (hroom : A.depth < recursionLimit) (hG : GenObj go gn)
    (yes : ∀ (σ : L2.St) (H : Hp) (cp : List (Addr × Obj)) (s1 : Shared), Inv (gblk X A' s_0 H_0 cenv fp) cp σ H s1 → End () H → R (.ok (.ret (.bool true))) s1)
    (no : ∀ (σ : L2.St) (H : Hp) (cp : List (Addr × Obj)) (s1 : Shared), Inv (gblk X A' s_0 H_0 cenv fp) cp σ H s1 → Stop H → R (.ok (.ret (.bool false))) s1) :
    ∀ (n : Nat) (s : Shared), s.heap.NoLimit → s.heap.get? ga = some go → (∃ gs, s.gens[gn]? = some gs ∧ gs.Goes (model X.prog X.w) A.in1.in1 (RG (gblk X A' s_0 H_0 cenv fp) (fun _ cp => cp = [(ga, go)]) End)
      (YG (gblk X A' s_0 H_0 cenv fp) fp tn (fun _ cp => cp = [(ga, go)]) (fun _ y H Nx => ∃ b : Bool, y = .bl b ∧ if b = true then Nx () H else Stop H)) n (.send .none) (s.setGen gn .running)) →
      codeAny (model X.prog X.w) A (.builtin "all.loop" ⟨[.ref ga], []⟩) R s := by
  intro n
  induction n with
  | zero =>
    rintro s hl e ⟨gs, hgs, hgo⟩
    refine codeAny_builtin F.entry_all_loop ?_
    rw [Around.under_plainId F.plain_all_loop _]
    show wpAny _ A.in1 (pyNext (.ref ga) >>= _) _ _ s
    refine wpAny_bind (next_gx (A := A.in1) hh hroom hl hG e hgs hgo (fun a x σ H i cp Nx v s1 gs' r hac I st hy at_ kap => ?_) fun a σ H cp s1 hac I q => ?_)
    · obtain ⟨b, rfl, hb⟩ := hy
      cases (show v = Value.bool b from r)
      refine wpAny_bind (wpAny_holding (wpAny_truthy_bool ?_))
      refine wpAny_bind (wpAny_letGo ?_)
      cases b with
      | true =>
        obtain ⟨m, hm, _⟩ := kap () cp s1 hb hac I st
        cases hm
      | false =>
        simp only [Bool.false_eq_true, if_false] at hb ⊢
        exact wpAny_bind (wpAny_rule (wpAny_pure (no σ H cp s1 I hb)))
    · exact wpAny_bind (wpAny_rule (wpAny_pure (yes σ H cp s1 I q)))
  | succ n ih =>
    rintro s hl e ⟨gs, hgs, hgo⟩
    refine codeAny_builtin F.entry_all_loop ?_
    rw [Around.under_plainId F.plain_all_loop _]
    show wpAny _ A.in1 (pyNext (.ref ga) >>= _) _ _ s
    refine wpAny_bind (next_gx (A := A.in1) hh hroom hl hG e hgs hgo (fun a x σ H i cp Nx v s1 gs' r hac I st hy at_ kap => ?_) fun a σ H cp s1 hac I q => ?_)
    · obtain ⟨b, rfl, hb⟩ := hy
      cases (show v = Value.bool b from r)
      refine wpAny_bind (wpAny_holding (wpAny_truthy_bool ?_))
      refine wpAny_bind (wpAny_letGo ?_)
      cases b with
      | true =>
        simp only [if_true] at hb ⊢
        subst hac
        refine wpAny_pure ⟨plainId_quiet F.plain_all_loop _, ih s1 I.nolimit (I.pin (ga, go) (List.mem_append_right _ List.mem_cons_self)).1 ⟨gs', at_, ?_⟩⟩
        obtain ⟨m, hm, z⟩ := kap () [(ga, go)] (s1.setGen gn .running) hb rfl (inv_moved I rfl (allBare_setGen I.bare rfl) fun _ _ q => q) st
        cases hm
        exact z
      | false =>
        simp only [Bool.false_eq_true, if_false] at hb ⊢
        exact wpAny_bind (wpAny_rule (wpAny_pure (no σ H cp s1 I hb)))
    · exact wpAny_bind (wpAny_rule (wpAny_pure (yes σ H cp s1 I q)))
end
section
variable {X : Cx}
/-- all(elt for tg in iter ..) -/
def tAllX (P : Addr) (wi : TI) (g : TG) (tt : TT) (te : TE) (vs : List Nat) : TE := fun σ H Q => wi σ H fun J H1 => GxR.TabG H1 P ∧ ∀ H2, GxR.Tabbed P H1 H2 → ∃ W : Nat → Nat → Unit → Hp → Prop, (∃ m, W 0 m () H2) ∧
  tGx J g tt te (wipe σ vs) vs (fun _ H => Q (.bl true) H) (fun _ y H Nx => ∃ b : Bool, y = .bl b ∧ if b = true then Nx () H else Q (.bl false) H) W
theorem pe_allX {c P : Addr} {elt tg iter : Expr} {ifs : List Expr} {p pos gpos : Pos} {scope : Scope} {own : List (Str × Nat)} {wi : TI} {g : TG} {tt : TT} {te : TE} {k : Nat}
    (hr : Room (k + 1) X.A) (hc : X.calm = true) (hN : X.N.Nodup) (hgl : Gl X "all") (hm : X.mg "all" = none) (hb : bootBuiltins "all" = some (.builtin "all")) (TB : GxR.TabB X.base X.mg c P) (hcode : X.env.code = .ref c)
    (hco : scope.isCoroutine = false) (hdot : scope.names.lookup (".0" : Str) = some NameKind.local) (nocell : ∀ y ∈ scope.names, y.2 ≠ .cell) (ok : BlkOk X.N X.env.scope scope own) (hi : PI X tg iter wi)
    (hg : ∀ (A' : Around) (s : Shared) (H : Hp) (C : Addr) (cl : List (Str × Addr)) (code : Value) (fp : List Addr), Room k A' → A'.guards = X.A.guards → PG (gblk X A' s H (genEnv scope cl C code builtinsNs X.env) fp) tg g)
    (ht : ∀ (A' : Around) (s : Shared) (H : Hp) (C : Addr) (cl : List (Str × Addr)) (code : Value) (fp : List Addr), Room k A' → A'.guards = X.A.guards → PTs (gblk X A' s H (genEnv scope cl C code builtinsNs X.env) fp) ifs tt)
    (he : ∀ (A' : Around) (s : Shared) (H : Hp) (C : Addr) (cl : List (Str × Addr)) (code : Value) (fp : List Addr), Room k A' → A'.guards = X.A.guards → PE (gblk X A' s H (genEnv scope cl C code builtinsNs X.env) fp) elt te)
    (hs : ∀ v, genFold iter X.env v = pure v)
    (hst : starEach [.GeneratorExp elt [⟨tg, iter, ifs, 0⟩] scope gpos] X.env = (false, eval (.GeneratorExp elt [⟨tg, iter, ifs, 0⟩] scope gpos) X.env) :: starEach [] X.env := by rfl) :
    PE X (.Call (.Name "all" p) [.GeneratorExp elt [⟨tg, iter, ifs, 0⟩] scope gpos] [] pos) (tAllX P wi g tt te (own.map (·.2))) := by
  refine ⟨fun pins s σ H Q I h => ?_⟩
  refine wpAny_Call_Name_kw (ld_blt I hgl hm hb ?_)
  refine PyProof.Rows.callWith_builtin1 ?_ hst (by rfl)
  rw [hst]
  show wpAny _ _ (spliced ((false, eval (.GeneratorExp elt [⟨tg, iter, ifs, 0⟩] scope gpos) X.env) :: backTo pos (starEach [] X.env))) _ _ s
  refine Calls.spliced_cons (gx_make (A := X.A.in1.in1) hr ⟨rfl, rfl, rfl, rfl, (by show X.A.units + 1 + 1 ≤ _; omega)⟩ hc hN TB hcode hco hdot nocell ok hi hg ht he hs I h fun J H1 H2 u s5 hR hT hG => ?_)
  obtain ⟨A', s_0, H_0, cenv, fp, ga, gn, go, tn, gs, rfl, hGO, hgs, hbare, I5, st5, nf, hlt, keep, back, goes⟩ := hG
  obtain ⟨W, ⟨m, w0⟩, turn⟩ := hR H2 hT
  refine Calls.spliced_nil ?_
  have pin5 := (I5.pin (ga, go) (List.mem_append_right _ List.mem_cons_self)).1
  refine call_function_tree F.kind_all F.plain_all F.entry_all (F.args_all1 _) ?_
  unfold Builtin.«all»
  refine wpAny_bind (m := oneArg "all" _) (wpAny_pure ?_)
  refine wpAny_bind (wpAny_pyIter_gen (hGO.isGen pin5) ?_)
  refine wpAny_pure ⟨plainId_quiet F.plain_all_loop _, all_gx (A' := A') (s_0 := s_0) (H_0 := H_0) (cenv := cenv) (fp := fp) (tn := tn) (go := go) (gn := gn) (Stop := fun H => Q (.bl false) H) (End := fun _ H => Q (.bl true) H) hr.hd hr.depth hGO
    (fun σ' H' cp s1 I1 q => ⟨.bl true, H', back _ _ _ _ I1, rfl, q⟩) (fun σ' H' cp s1 I1 q => ⟨.bl false, H', back _ _ _ _ I1, rfl, q⟩) (m + 1) s5 I5.nolimit pin5 ⟨gs, hgs, ?_⟩⟩
  refine goes Unit _ _ _ W m (m + 1) () [(ga, go)] _ turn w0 (Nat.lt_succ_self _) (fun a cp hac p hp b hb z => ?_) rfl (inv_moved I5 rfl (allBare_setGen I5.bare rfl) fun _ _ q => q) st5
  subst hac
  have e : p = (ga, go) := by simpa using hp
  subst e
  exact absurd (hlt b hb) (by rw [← z]; exact Nat.lt_irrefl _)
end
/-! ### tuple(..) -/
section
variable {X : Cx} {A A' : Around} {s_0 : Shared} {H_0 : Hp} {cenv : Env} {fp : List Addr} {tn : Nat → Heap → Prop} {ga S : Addr} {gn n : Nat} {go : Obj}
/-- the asker's list S holds what is out -/
def ACl (ga : Addr) (go : Obj) (S : Addr) (ys : List V) (cp : List (Addr × Obj)) : Prop := ∃ (acc : Array Value) (c : Nat), cp = [(ga, go), (S, lstObj acc c)] ∧ Vals ys acc.toList
def YdL (ys : List V) (y : V) (H : Hp) (Nx : List V → Hp → Prop) : Prop := ys.length < sizeLine ∧ Nx (ys ++ [y]) H
theorem ext_gx {R : Result → Shared → Prop} {End : List V → Hp → Prop} {res : Value} (hh : A.handled = none) (hroom : A.depth < recursionLimit) (hG : GenObj go gn) (hSa : S ≠ ga) (far : (gblk X A' s_0 H_0 cenv fp).s_0.heap.objs.size ≤ S) (hSc : ∀ x c, cenv.cells.lookup x = some c → c ≠ S)
    (keep : ∀ i h h', tn i h → (∀ b ∈ fp, ∀ o, h.get? b = some o → h'.get? b = some o) → tn i h') (hSf : ∀ b ∈ fp, b ≠ S)
    (yes : ∀ (σ : L2.St) (H : Hp) (ys : List V) (acc : Array Value) (c : Nat) (s1 : Shared), Inv (gblk X A' s_0 H_0 cenv fp) [(ga, go), (S, lstObj acc c)] σ H s1 → Vals ys acc.toList → End ys H → R (.ok (.ret res)) s1) :
    ∀ (n : Nat) (s : Shared), s.heap.NoLimit → s.heap.get? ga = some go → (∃ gs, s.gens[gn]? = some gs ∧ gs.Goes (model X.prog X.w) A.in1.in1 (RG (gblk X A' s_0 H_0 cenv fp) (ACl ga go S) End)
      (YG (gblk X A' s_0 H_0 cenv fp) fp tn (ACl ga go S) YdL) n (.send .none) (s.setGen gn .running)) →
      codeAny (model X.prog X.w) A (.builtin "list.extend.loop" ⟨[.ref S, .ref ga, res], []⟩) R s := by
  intro n
  induction n with
  | zero =>
    rintro s hl e ⟨gs, hgs, hgo⟩
    refine codeAny_builtin F.entry_extend_loop ?_
    rw [Around.under_plainId F.plain_extend_loop _]
    show wpAny _ A.in1 (pyNext (.ref ga) >>= _) _ _ s
    refine wpAny_bind (next_gx (A := A.in1) hh hroom hl hG e hgs hgo (fun ys x σ H i cp Nx v s1 gs' r hac I st hy at_ kap => ?_) fun ys σ H cp s1 hac I q => ?_)
    · obtain ⟨acc, c, rfl, rv⟩ := hac
      have pS := I.pin (S, lstObj acc c) (List.mem_append_right _ (List.mem_cons_of_mem _ List.mem_cons_self))
      have I0 : Inv (gblk X A' s_0 H_0 cenv fp) [(ga, go)] σ H s1 := I.pins_of fun p hp => I.pin p (List.mem_append_right _ (by rw [List.mem_singleton.mp hp]; exact List.mem_cons_self))
      have I1 := I0.turned (t' := s1.toks) (h' := s1.heap.update S (Obj.mapSeq (·.push v))) (it := S) (fun b o hb q => (Heap.get?_update_other _ _ (Ne.symm hb)).trans q) pS.2.1 pS.2.2.1 (.inr far) hSc (fun p hp => by rw [List.mem_singleton.mp (show p ∈ [(ga, go)] by simpa using hp)]; exact Ne.symm hSa)
      have e2 := Heap.get?_update_self (Obj.mapSeq (·.push v)) pS.1 rfl
      obtain ⟨m, hm, _⟩ := kap (ys ++ [x]) [(ga, go), (S, _)] _ hy.2 ⟨acc.push v, _, rfl, by rw [Array.toList_push]; exact rv.append (.cons r .nil)⟩ (I1.pins_of fun p hp => by
        rcases List.mem_cons.mp hp with z | z
        · rw [z]; exact I1.pin (ga, go) (List.mem_append_right _ List.mem_cons_self)
        · rw [List.mem_singleton.mp z]; exact ⟨e2, pS.2.1, pS.2.2.1, pS.2.2.2.1, fun v q => by cases q⟩) (keep _ _ _ st fun b hb o q => (Heap.get?_update_other _ _ (Ne.symm (hSf b hb))).trans q)
      cases hm
    · obtain ⟨acc, c, rfl, rv⟩ := hac
      exact wpAny_pure (yes σ H ys acc c s1 I rv q)
  | succ n ih =>
    rintro s hl e ⟨gs, hgs, hgo⟩
    refine codeAny_builtin F.entry_extend_loop ?_
    rw [Around.under_plainId F.plain_extend_loop _]
    show wpAny _ A.in1 (pyNext (.ref ga) >>= _) _ _ s
    refine wpAny_bind (next_gx (A := A.in1) hh hroom hl hG e hgs hgo (fun ys x σ H i cp Nx v s1 gs' r hac I st hy at_ kap => ?_) fun ys σ H cp s1 hac I q => ?_)
    · obtain ⟨acc, c, rfl, rv⟩ := hac
      have pS := I.pin (S, lstObj acc c) (List.mem_append_right _ (List.mem_cons_of_mem _ List.mem_cons_self))
      have I0 : Inv (gblk X A' s_0 H_0 cenv fp) [(ga, go)] σ H s1 := I.pins_of fun p hp => I.pin p (List.mem_append_right _ (by rw [List.mem_singleton.mp hp]; exact List.mem_cons_self))
      have I1 := I0.turned (t' := s1.toks) (h' := s1.heap.update S (Obj.mapSeq (·.push v))) (it := S) (fun b o hb q => (Heap.get?_update_other _ _ (Ne.symm hb)).trans q) pS.2.1 pS.2.2.1 (.inr far) hSc (fun p hp => by rw [List.mem_singleton.mp (show p ∈ [(ga, go)] by simpa using hp)]; exact Ne.symm hSa)
      have e2 := Heap.get?_update_self (Obj.mapSeq (·.push v)) pS.1 rfl
      have hln := rv.length
      have hlt : acc.size < sizeLine := by
        have := hy.1
        rw [hln] at this
        simpa using this
      have pG := I1.pin (ga, go) (List.mem_append_right _ List.mem_cons_self)
      show wpAny _ A.in1 (updateSeq S (·.push v) >>= _) _ _ _
      refine wpAny_bind ?_
      refine wpAny_updateSeq pS.1 rfl (wpAny_pure ⟨plainId_quiet F.plain_extend_loop _, ih _ I1.nolimit pG.1 ⟨gs', at_, ?_⟩⟩) (Nat.le_of_lt hlt) (by show (acc.push v).size ≤ sizeLine + 1; rw [Array.size_push]; omega)
      obtain ⟨m, hm, z⟩ := kap (ys ++ [x]) [(ga, go), (S, _)] (({ s1 with heap := s1.heap.update S (Obj.mapSeq (·.push v)) } : Shared).setGen gn .running) hy.2 ⟨acc.push v, _, rfl, by rw [Array.toList_push]; exact rv.append (.cons r .nil)⟩ (inv_moved (I1.pins_of fun p hp => by
        rcases List.mem_cons.mp hp with z | z
        · rw [z]; exact pG
        · rw [List.mem_singleton.mp z]; exact ⟨e2, pS.2.1, pS.2.2.1, pS.2.2.2.1, fun v q => by cases q⟩) rfl (allBare_setGen (s := { s1 with heap := s1.heap.update S (Obj.mapSeq (·.push v)) }) I1.bare rfl) fun _ _ q => q) (keep _ _ _ st fun b hb o q => (Heap.get?_update_other _ _ (Ne.symm (hSf b hb))).trans q)
      cases hm
      exact z
    · obtain ⟨acc, c, rfl, rv⟩ := hac
      exact wpAny_pure (yes σ H ys acc c s1 I rv q)
end
section
variable {X : Cx} {pins : List (Addr × Obj)} {σ : L2.St} {s5 : Shared} {J : It} {g : TG} {tt : TT} {te : TE} {vs : List Nat} {H4 : Hp} {u : Value}
/-- all that a generator hands out, in a list of the asker's own -/
theorem collect_gx {A : Around} {E : Value → Shared → Prop} {Q : List Value → Shared → Prop} {End : List V → Hp → Prop} {W : Nat → Nat → List V → Hp → Prop} {m : Nat} (hh : A.handled = none) (hroom : A.depth < recursionLimit) (G : Gx X pins σ A.in1.in1 J g tt te vs H4 u s5)
    (w0 : W 0 m [] H4) (turn : tGx J g tt te (wipe σ vs) vs End YdL W)
    (hQ : ∀ (s' : Shared) (acc : Array Value) (ys : List V) (H' : Hp), Inv X pins σ H' s' → Vals ys acc.toList → End ys H' → Q acc.toList s') : wpAny (model X.prog X.w) A (collect u) Q E s5 := by
  obtain ⟨A', s_0, H_0, cenv, fp, ga, gn, go, tn, gs, rfl, hGO, hgs, hbare, I5, st5, nf, hlt, keep, back, goes⟩ := G
  have pin5 := I5.pin (ga, go) (List.mem_append_right _ List.mem_cons_self)
  have glt : ga < s5.heap.objs.size := Heap.lt_size pin5.1
  have hSI : s5.heap.objs.size ≠ ga := Nat.ne_of_gt glt
  unfold collect
  refine wpAny_bind (wpAny_runValue (codeAny_builtin F.entry_proto_collect ?_))
  rw [Around.under_plainId F.plain_proto_collect _]
  show wpAny _ A.in1 (newList [] >>= fun l => again (.builtin "list.__iadd__" ⟨[l, .ref ga], []⟩)) _ _ s5
  refine wpAny_bind (wpAny_newObj_type ?_)
  refine wpAny_pure ⟨plainId_quiet F.plain_list_iadd _, codeAny_builtin F.entry_list_iadd ?_⟩
  rw [Around.under_plainId F.plain_list_iadd _]
  show wpAny _ A.in1 (Builtin.List.listExtendWith (.ref s5.heap.objs.size) (.ref ga) (.ref s5.heap.objs.size)) _ _ _
  unfold Builtin.List.listExtendWith
  have k1 : ∀ b o, s5.heap.get? b = some o → (s5.heap.push { cls := .type "list", data := .seq ([] : List Value).toArray }).get? b = some o := fun b o e => Heap.get?_push_of_some _ e
  have hT : Shared.TypeIs { s5 with heap := s5.heap.push { cls := .type "list", data := .seq ([] : List Value).toArray } } (.ref ga) "generator" := Heap.IsGen.typeIs (s := { s5 with heap := _ }) (hGO.isGen (k1 _ _ pin5.1))
  refine wpAny_bind (wpAny_typeOf hT ?_)
  have h1 : Builtin.List.listSameRef (.ref s5.heap.objs.size) (.ref ga) = false := by simp [Builtin.List.listSameRef, hSI]
  have h2 : (Value.type "generator" == Value.type "list") = false := by decide
  have h3 : (Value.type "generator" == Value.type "tuple") = false := by decide
  simp only [h1, h2, h3, Bool.or_false, Bool.false_eq_true, if_false]
  refine wpAny_bind (wpAny_pyIter_gen (s := { s5 with heap := _ }) (hGO.isGen (k1 _ _ pin5.1)) ?_)
  refine wpAny_bind (wpAny_holding ?_)
  unfold Builtin.List.listLengthHint
  refine wpAny_bind (wpAny_specialOf hT F.gen_no_len ?_)
  show wpAny _ A.in1 (specialOf (Value.ref ga) (Str.ofString "__length_hint__") >>= _) _ _ _
  refine wpAny_bind (wpAny_specialOf hT F.gen_no_hint ?_)
  refine wpAny_pure ?_
  show wpAny _ A.in1 (rule "list.extend.makes-room" >>= fun _ => Builtin.List.listTouch (.ref s5.heap.objs.size) >>= fun _ =>
    again (.builtin "list.extend.loop" ⟨[.ref s5.heap.objs.size, .ref ga, .ref s5.heap.objs.size], []⟩)) _ _ _
  refine wpAny_bind (wpAny_rule ?_)
  have hS₁ : (s5.heap.push { cls := .type "list", data := .seq ([] : List Value).toArray }).get? s5.heap.objs.size = some { cls := .type "list", data := .seq ([] : List Value).toArray } := Heap.get?_push_size _ rfl
  refine wpAny_bind ?_
  show wpAny _ A.in1 (updateSeq s5.heap.objs.size (·.push .none) >>= fun _ => updateSeq s5.heap.objs.size (·.pop)) _ _ _
  refine wpAny_bind (wpAny_updateSeq hS₁ rfl ?_)
  have hS₂ := Heap.get?_update_self (Obj.mapSeq (·.push Value.none)) hS₁ rfl
  refine wpAny_updateSeq hS₂ rfl ?_
  have hS₃ := Heap.get?_update_self (Obj.mapSeq (·.pop)) hS₂ rfl
  obtain ⟨c3, hS₄⟩ : ∃ c, (((s5.heap.push { cls := .type "list", data := .seq ([] : List Value).toArray }).update s5.heap.objs.size (Obj.mapSeq (·.push Value.none))).update s5.heap.objs.size (Obj.mapSeq (·.pop))).get? s5.heap.objs.size = some (lstObj #[] c) := ⟨_, hS₃⟩
  have k3 : ∀ b o, s5.heap.get? b = some o → (((s5.heap.push { cls := .type "list", data := .seq ([] : List Value).toArray }).update s5.heap.objs.size (Obj.mapSeq (·.push Value.none))).update s5.heap.objs.size (Obj.mapSeq (·.pop))).get? b = some o :=
    fun b o e => (Heap.get?_update_other _ _ (Ne.symm (Nat.ne_of_lt (Heap.lt_size e)))).trans ((Heap.get?_update_other _ _ (Ne.symm (Nat.ne_of_lt (Heap.lt_size e)))).trans (k1 b o e))
  have fS : FpOk (gblk X A' s_0 H_0 cenv fp) [(ga, go)] H4 s5.heap.objs.size := I5.fpOk (Nat.le_refl _) (I5.hok.fresh (Nat.le_refl _))
  have hfS : ∀ b ∈ fp, b ≠ s5.heap.objs.size := fun b hb => Nat.ne_of_lt (Nat.lt_trans (hlt b hb) glt)
  have I6 := inv_moved (s' := { s5 with heap := ((s5.heap.push { cls := .type "list", data := .seq ([] : List Value).toArray }).update s5.heap.objs.size (Obj.mapSeq (·.push Value.none))).update s5.heap.objs.size (Obj.mapSeq (·.pop)) }) I5 rfl I5.bare k3
  refine wpAny_pure ⟨plainId_quiet F.plain_extend_loop _, ext_gx (A := A) (A' := A') (s_0 := s_0) (H_0 := H_0) (cenv := cenv) (fp := fp) (tn := tn) (go := go) (gn := gn) (End := End) hh hroom hGO hSI ?_ fS.2.2.2.2.1 keep hfS
    (fun σ' H' ys acc c s1 I1 rv q => ?_) (m + 1) _ I6.nolimit (k3 _ _ pin5.1) ⟨gs, hgs, ?_⟩⟩
  · exact Nat.le_trans I5.sz (Nat.le_refl _)
  · show wpAny _ A (load s5.heap.objs.size >>= _) _ _ s1
    have pS := (I1.pin (s5.heap.objs.size, lstObj acc c) (List.mem_append_right _ (List.mem_cons_of_mem _ List.mem_cons_self))).1
    refine wpAny_bind (wpAny_load pS ?_)
    exact wpAny_pure (hQ s1 acc ys H' (back _ _ _ _ I1) rv q)
  · refine goes (List V) (ACl ga go s5.heap.objs.size) End YdL W m (m + 1) [] [(ga, go), (s5.heap.objs.size, lstObj #[] c3)] _ turn w0 (Nat.lt_succ_self _) (fun ys cp hac p hp b hb z => ?_) ⟨#[], c3, rfl, .nil⟩
      (inv_moved (I6.pins_of fun p hp => ?_) rfl (allBare_setGen (s := { s5 with heap := _ }) I5.bare rfl) fun _ _ q => q) (keep _ _ _ st5 fun b hb o q => k3 b o q)
    · obtain ⟨acc, c, rfl, _⟩ := hac
      rcases List.mem_cons.mp hp with e | e
      · rw [e] at z
        exact absurd (hlt b hb) (by rw [← z]; exact Nat.lt_irrefl _)
      · rw [List.mem_singleton.mp e] at z
        exact hfS b hb z.symm
    · rcases List.mem_cons.mp hp with e | e
      · rw [e]
        exact I6.pin (ga, go) (List.mem_append_right _ List.mem_cons_self)
      · rw [List.mem_singleton.mp e]
        exact ⟨hS₄, fS.1, fS.2.1, fS.2.2.1, fun v q => by cases q⟩
end
section
variable {X : Cx}
/-- tuple(elt for tg in iter ..) -/
def tTupX (P : Addr) (wi : TI) (g : TG) (tt : TT) (te : TE) (vs : List Nat) : TE := fun σ H Q => wi σ H fun J H1 => GxR.TabG H1 P ∧ ∀ H2, GxR.Tabbed P H1 H2 → ∃ W : Nat → Nat → List V → Hp → Prop, (∃ m, W 0 m [] H2) ∧
  tGx J g tt te (wipe σ vs) vs (fun ys H => ys.length ≤ sizeLine ∧ ∀ p, H p = none → Q (.ref p) (upd H p (.tup ys))) YdL W
theorem pe_tupX {c P : Addr} {elt tg iter : Expr} {ifs : List Expr} {p pos gpos : Pos} {scope : Scope} {own : List (Str × Nat)} {wi : TI} {g : TG} {tt : TT} {te : TE} {k : Nat}
    (hr : Room (k + 1) X.A) (hc : X.calm = true) (hN : X.N.Nodup) (hgl : Gl X "tuple") (hm : X.mg "tuple" = none) (hb : bootBuiltins "tuple" = some (.type "tuple")) (TB : GxR.TabB X.base X.mg c P) (hcode : X.env.code = .ref c)
    (hco : scope.isCoroutine = false) (hdot : scope.names.lookup (".0" : Str) = some NameKind.local) (nocell : ∀ y ∈ scope.names, y.2 ≠ .cell) (ok : BlkOk X.N X.env.scope scope own) (hi : PI X tg iter wi)
    (hg : ∀ (A' : Around) (s : Shared) (H : Hp) (C : Addr) (cl : List (Str × Addr)) (code : Value) (fp : List Addr), Room k A' → A'.guards = X.A.guards → PG (gblk X A' s H (genEnv scope cl C code builtinsNs X.env) fp) tg g)
    (ht : ∀ (A' : Around) (s : Shared) (H : Hp) (C : Addr) (cl : List (Str × Addr)) (code : Value) (fp : List Addr), Room k A' → A'.guards = X.A.guards → PTs (gblk X A' s H (genEnv scope cl C code builtinsNs X.env) fp) ifs tt)
    (he : ∀ (A' : Around) (s : Shared) (H : Hp) (C : Addr) (cl : List (Str × Addr)) (code : Value) (fp : List Addr), Room k A' → A'.guards = X.A.guards → PE (gblk X A' s H (genEnv scope cl C code builtinsNs X.env) fp) elt te)
    (hs : ∀ v, genFold iter X.env v = pure v)
    (hst : starEach [.GeneratorExp elt [⟨tg, iter, ifs, 0⟩] scope gpos] X.env = (false, eval (.GeneratorExp elt [⟨tg, iter, ifs, 0⟩] scope gpos) X.env) :: starEach [] X.env := by rfl) :
    PE X (.Call (.Name "tuple" p) [.GeneratorExp elt [⟨tg, iter, ifs, 0⟩] scope gpos] [] pos) (tTupX P wi g tt te (own.map (·.2))) := by
  refine ⟨fun pins s σ H Q I h => ?_⟩
  refine wpAny_Call_Name_kw (ld_blt I hgl hm hb ?_)
  refine PyProof.Rows.callWith_type1 ?_ hst (by rfl)
  rw [hst]
  show wpAny _ _ (spliced ((false, eval (.GeneratorExp elt [⟨tg, iter, ifs, 0⟩] scope gpos) X.env) :: backTo pos (starEach [] X.env))) _ _ s
  refine Calls.spliced_cons (gx_make (A := X.A.in1.in1.in1.in1) hr ⟨rfl, rfl, rfl, rfl, (by show X.A.units + 1 + 1 + 1 + 1 ≤ _; omega)⟩ hc hN TB hcode hco hdot nocell ok hi hg ht he hs I h fun J H1 H2 u s5 hR hT hG => ?_)
  obtain ⟨W, ⟨m, w0⟩, turn⟩ := hR H2 hT
  refine Calls.spliced_nil ?_
  have ⟨A', s_0, H_0, cenv, fp, ga, gn, go, tn, gs, eu, hGO, hgs, hbare, I5, st5, nf, hlt, keep, back, goes⟩ := hG
  have pin5 := (I5.pin (ga, go) (List.mem_append_right _ List.mem_cons_self)).1
  rw [eu] at hG ⊢
  refine callType_codes (Q₁ := fun obj s₁ => s₁.TypeIs obj "tuple" ∧ EP X pins σ Q obj s₁) F.called_tuple (F.typeCall_tuple_1 _) F.entry_object_init ?_ fun obj s₁ h₁ =>
    ⟨h₁.1, F.args_object_init_2 obj _, object_init_meets F.called_tuple.init.lookup F.called_tuple.made (by decide) X.prog X.w X.A.in1 _ s₁ ⟨h₁.1, rfl, h₁.2⟩⟩
  refine codeAny_of_tree ?_
  show wpAny _ X.A.in1.in1 (do checkBuiltinCall "tuple.__new__" ⟨[.type "tuple", .ref ga], []⟩; again (.builtin "tuple.__new__" ⟨[.type "tuple", .ref ga], []⟩)) _ _ s5
  refine wpAny_bind (wpAny_of_eq (F.newCall_tuple_1 _) (wpAny_pure ⟨plainId_quiet F.plain_tuple_new _, codeAny_builtin F.entry_tuple_new ?_⟩))
  rw [Around.under_plainId F.plain_tuple_new _]
  have hsub := sub_tuple_self
  have hinit := init_tuple_lookup
  have hmh := madeHere_tuple
  have hTI : s5.TypeIs (.ref ga) "generator" := (hGO.isGen pin5).typeIs
  have col : ∀ {Q0 : List Value → Shared → Prop} {E0 : Value → Shared → Prop}, (∀ (s' : Shared) (acc : Array Value), (∃ (ys : List V) (H' : Hp), Inv X pins σ H' s' ∧ Vals ys acc.toList ∧ ys.length ≤ sizeLine ∧ ∀ p, H' p = none → Q (.ref p) (upd H' p (.tup ys))) → Q0 acc.toList s') →
      wpAny (model X.prog X.w) X.A.in1.in1 (collect (.ref ga)) Q0 E0 s5 := fun hq => collect_gx hr.hd hr.depth hG w0 turn (fun s' acc ys H' I' rv q => hq s' acc ⟨ys, H', I', rv, q.1, q.2⟩)
  wp_walk using wpAny_typeOf hTI, col
  rintro s' acc ⟨ys, H', I', rv, small, q⟩
  show wpAny _ _ (Builtin.Tuple.tupleExact acc.toList.toArray >>= fun v => ret v) _ _ _
  unfold Builtin.Tuple.tupleExact
  refine wpAny_bind (wpAny_newObj_type ?_ (by show acc.toList.toArray.size ≤ sizeLine; rw [List.size_toArray, ← rv.length]; exact small))
  refine wpAny_pure ?_
  have free : H' s'.heap.objs.size = none := I'.hok.fresh (Nat.le_refl _)
  refine ⟨⟨_, Heap.get?_push_size _ rfl, rfl⟩, .ref s'.heap.objs.size, upd H' s'.heap.objs.size (.tup ys), I'.laid (t' := s'.toks) (fun b u z => Heap.get?_push_of_some _ z) (Nat.le_refl _) ⟨small, acc.toList, rv, ?_⟩, rfl, q _ free⟩
  exact ⟨_, Heap.get?_push_size _ rfl, rfl, 0, rfl⟩
end
/-! ### a def by its body, its code object known -/
theorem okC {P : Program} {w : World} {K : PySem.W.Frag} {mg : Str → Option Value} {base : Heap} {x qual : Str} {st : Stmt} {f : Addr} {fd : FuncData} {N ps : List Str} {k : Nat} {sp : Sp} (F : Fun K x qual st f fd) (S : FnScope N ps (defScope st)) (len : ∀ vs H Q E, sp vs H Q E → vs.length = ps.length)
    (body : ∀ (A : Around) (outer : List Env) (s : Shared) (H : Hp) (vs : List V) (Q : VK) (E : XK), Room k (A.deeper (envOfC qual (defScope st) s.heap.objs.size f fd.code)) → sp vs H Q E →
      ∃ t, PSs (cxOf CX0 P w K mg base N qual (defScope st) f fd.code A outer s H E).nox (defBody st) t ∧ t { nx := fun _ H' => Q .non H', rt := Q } (start N vs) H) : FnOk P w K mg base CX0 (k + 1) f fd ps sp := by
  obtain ⟨oc, od, kV, doc, pm, an, cdv, ct, osl, rfl, lk, hcd⟩ := F.ex
  refine fn_of lk hcd S len fun A outer s H vs Q E hr hsp => ?_
  obtain ⟨t, h, q⟩ := body A outer s H vs Q E hr hsp
  exact ⟨t, h.nox, q⟩
/-! ### from the head's facts -/
theorem fun_of {K : PySem.W.Frag} {x qual : Str} {st : Stmt} {f : Addr} {fd : FuncData} (F : FunD K x qual (defArgs st) (defBody st) (defScope st) [] [] f fd) : Fun K x qual st f fd := by
  obtain ⟨oc, od, dV, kV, doc, pm, an, cdv, ct, osl, rfl, lk, hcd, hd, _⟩ := F.ex
  rcases hd with ⟨_, rfl⟩ | ⟨z, _⟩
  · exact ⟨⟨oc, od, kV, doc, pm, an, cdv, ct, osl, rfl, lk, hcd⟩, F.kp⟩
  · exact absurd rfl z
theorem code_of {K : PySem.W.Frag} {x qual : Str} {st : Stmt} {p : He.Defn} {fd : FuncData} (F : Fun K x qual st (He.fAd K p) fd) : fd.code = .ref (He.cT K p).1 := by
  obtain ⟨oc, od, kV, doc, pm, an, cdv, ct, osl, rfl, lk, hcd⟩ := F.ex
  obtain ⟨c, rfl⟩ := He.codeIn_ref hcd
  show Value.ref c = Value.ref (He.codeOf K p)
  rw [He.codeOf_eq lk rfl]
theorem tab_of {base : Heap} {mg : Str → Option Value} {c P : Addr} (h : LamX.TabB base mg c P) : GxR.TabB base mg c P := ⟨h.code, h.bm, h.gP⟩
/-! ### heaps whose tables grow -/
def Tabs (H : Hp) (Ps : List Addr) : Prop := ∀ P ∈ Ps, GxR.TabG H P
/-- what is no table stays; tables stay tables -/
def Gr (H H' : Hp) : Prop := (∀ b o, (∀ ps, o ≠ HO.tbl ps) → H b = some o → H' b = some o) ∧ ∀ b, GxR.TabG H b → GxR.TabG H' b
theorem Gr.refl {H : Hp} : Gr H H := ⟨fun _ _ _ e => e, fun _ e => e⟩
theorem Gr.trans {H H1 H2 : Hp} (a : Gr H H1) (b : Gr H1 H2) : Gr H H2 := ⟨fun c o n e => b.1 c o n (a.1 c o n e), fun c e => b.2 c (a.2 c e)⟩
theorem Gr.of {H H' : Hp} (h : ∀ b o, H b = some o → H' b = some o) : Gr H H' := ⟨fun b o _ e => h b o e, fun b ⟨ps, e, t⟩ => ⟨ps, h _ _ e, t⟩⟩
theorem Gr.tab {P : Addr} {H H' : Hp} (t : GxR.TabG H P) (h : GxR.Tabbed P H H') : Gr H H' := by
  obtain ⟨ps, e, _⟩ := t
  refine ⟨fun b o n q => ?_, fun b q => ?_⟩
  · by_cases hb : b = P
    · rw [hb, e] at q
      exact absurd (Option.some.inj q).symm (n ps)
    · rw [h.2 b hb]; exact q
  · by_cases hb : b = P
    · rw [hb]; exact h.1
    · obtain ⟨ps', e', t'⟩ := q
      exact ⟨ps', by rw [h.2 b hb]; exact e', t'⟩
theorem Gr.tup {H H' : Hp} (g : Gr H H') {a : Addr} {xs : List V} (h : H a = some (.tup xs)) : H' a = some (.tup xs) := g.1 a _ (fun _ z => by cases z) h
theorem Gr.lst {H H' : Hp} (g : Gr H H') {a : Addr} {xs : List V} (h : H a = some (.lst xs)) : H' a = some (.lst xs) := g.1 a _ (fun _ z => by cases z) h
theorem Gr.tabs {H H' : Hp} (g : Gr H H') {Ps : List Addr} (h : Tabs H Ps) : Tabs H' Ps := fun P hP => g.2 P (h P hP)
theorem Gr.none {H : Hp} {a : Addr} {o : HO} (n : H a = Option.none) : Gr H (upd H a o) := Gr.of fun b u e => by
  rw [upd_ne (ne_of_none e n)]
  exact e
namespace CwR
/-- behind it a token is out -/
def PEp (X : Cx) (e : Expr) (t : TE) : Prop := ∀ (pins : List (Addr × Obj)) (s : Shared) (σ : L2.St) (H : Hp) (Q : VK), Inv X pins σ H s → t σ H Q → wpAny (model X.prog X.w) X.A (eval e X.env) (fun u s' => 1 ≤ s'.toks ∧ EP X pins σ Q u s') X.xe s
theorem pep_ix {X : Cx} {a : Expr} {i : Int} {j : Nat} {p pos : Pos} {ta : TE} {r : R2} (hr : IxR X r) (ha : PE X a ta) (hs : PlainIx (.Constant (.int i) j p)) : PEp X (.Subscript a (.Constant (.int i) j p) pos) (tOp r ta (tC (.int i))) := by
  intro pins s σ H Q I h
  refine Subscript_ (thn (ha.run pins s σ H _ I h) fun v s1 ⟨x, H1, I1, r1, q1⟩ => wpAny_Constant_int ?_)
  refine wpAny_mono (PySem.wpAny_toks (hr a _ pins { s1 with toks := s1.toks + 1 } σ H1 x (.int i) v (.int i s1.toks) Q (I1.tok _) r1 ⟨_, rfl⟩ q1 (hs _ _))) (fun u s2 q => ⟨?_, q.2⟩) fun _ _ z => z.2
  have h1 : s1.toks + 1 ≤ s2.toks := q.1
  omega
theorem pep_repl {X : Cx} {o : Expr} {to : TE} {y z : Str} {j k : Nat} {c0 c1 apos pos : Pos} (ho : PEp X o to) (hyz : (y == z) = false := by decide)
    (hst : starEach [.Constant (.str y) j c0, .Constant (.str z) k c1] X.env = [(false, eval (.Constant (.str y) j c0) X.env), (false, eval (.Constant (.str z) k c1) X.env)] := by rfl)
    (hbase : attributeBase o "replace" X.env (eval o X.env) = eval o X.env := by rfl) (hline : (apos.endLine == pos.line) = true := by rfl) :
    PEp X (.Call (.Attribute o "replace" apos) [.Constant (.str y) j c0, .Constant (.str z) k c1] [] pos) (CwR.tReplC to y z) := by
  intro pins s σ H Q I h
  refine PySem.Call_method2 hbase hst hline (wpAny_mono (ho pins s σ H _ I h) (fun v s1 q => ?_) fun _ _ z => z)
  obtain ⟨hk, v', H1, I1, r1, x, e1, hb, q⟩ := q
  subst e1
  obtain ⟨tx, e2⟩ := r1
  subst e2
  refine ⟨"str", _, PySem.F.plainAttrs_str, PySem.F.slot_str_replace, PySem.F.type_str_replace, typeIs_str _ _ _, (fun _ e => nomatch e), Calls.callWith_builtin rfl (Calls.evalArgs_plain (Calls.spliced_cons ?_))⟩
  refine Calls.Constant_str (Calls.spliced_cons (Calls.Constant_str (Calls.spliced_nil ?_)))
  refine wpAny_mono (PySem.wpAny_toks (PySem.SC.replace (Q := fun u s' => EP X pins σ Q u s') (by show s1.toks ≠ 0; omega) (by show s1.toks + 1 ≠ 0; omega) (by show s1.toks ≠ s1.toks + 1; omega) hyz hb fun t' k => ⟨.str (Txt.replace x y z), H1, I1.tok k, ⟨t', rfl⟩, q⟩)) (fun u s2 q => ⟨?_, q.2⟩) fun _ _ z => z.2
  have h1 : s1.toks + 1 + 1 ≤ s2.toks := q.1
  omega
theorem pe_replP {X : Cx} {e : Expr} {t : TE} (h : PEp X e t) : PE X e t := ⟨fun pins s σ H Q I q => wpAny_mono (h pins s σ H Q I q) (fun _ _ z => z.2) fun _ _ z => z⟩
end CwR

/-! ### heaps -/
theorem same_upd {H : Hp} {p : Addr} {o : HO} (h : H p = none) : Same H (upd H p o) := fun b x e => by
  rw [upd_ne (ne_of_none e h)]
  exact e
def Fr (d l : Addr) (H H' : Hp) : Prop := ∀ b o, b ≠ d → b ≠ l → H b = some o → H' b = some o
theorem Fr.trans {d l : Addr} {H H1 H2 : Hp} (a : Fr d l H H1) (b : Fr d l H1 H2) : Fr d l H H2 := fun c o h1 h2 h => b c o h1 h2 (a c o h1 h2 h)
theorem Fr.refl {d l : Addr} {H : Hp} : Fr d l H H := fun _ _ _ _ h => h
theorem Fr.new {d l p : Addr} {H : Hp} {o : HO} (h : H p = none) : Fr d l H (upd H p o) := fun b x _ _ e => same_upd h b x e
theorem Fr.of {d l : Addr} {H H' : Hp} (h : Same H H') : Fr d l H H' := fun b x _ _ e => h b x e
theorem Fr.d {d l : Addr} {H : Hp} {o : HO} : Fr d l H (upd H d o) := fun b x h1 _ e => by rw [upd_ne h1]; exact e
theorem Fr.l {d l : Addr} {H : Hp} {o : HO} : Fr d l H (upd H l o) := fun b x _ h2 e => by rw [upd_ne h2]; exact e
def Deck (H : Hp) (d l : Addr) : Prop := d ≠ l ∧ ∃ (cs : List Int) (z : Int), H d = some (.lst [.ref l, .int z]) ∧ H l = some (.lst (cs.map V.int)) ∧ cs.length ≤ 63 ∧ 0 ≤ z ∧ z < 4294967296
theorem Deck.same {H H' : Hp} {d l : Addr} (D : Deck H d l) (s : Same H H') : Deck H' d l := by
  obtain ⟨ne, cs, z, hd, hl, r⟩ := D
  exact ⟨ne, cs, z, s _ _ hd, s _ _ hl, r⟩
theorem Deck.new {H : Hp} {d l p : Addr} {o : HO} (D : Deck H d l) (h : H p = none) : Deck (upd H p o) d l := D.same (same_upd h)
theorem Deck.ne_new {H : Hp} {d l p : Addr} (D : Deck H d l) (h : H p = none) : p ≠ d ∧ p ≠ l := by
  obtain ⟨ne, cs, z, hd, hl, r⟩ := D
  exact ⟨(ne_of_none hd h).symm, (ne_of_none hl h).symm⟩
theorem p29 : (0 : Int) < 2147483629 := by decide
theorem p47 : (0 : Int) < 2147483647 := by decide
theorem p87 : (0 : Int) < 2147483587 := by decide
theorem sl1 : 1 ≤ sizeLine := by decide
theorem sl2 : 2 ≤ sizeLine := by decide
theorem sl3 : 3 ≤ sizeLine := by decide
theorem sl4 : 4 ≤ sizeLine := by decide
theorem seqIx0 {α : Type} (x : α) (xs : List α) : seqIndex? 0 (x :: xs).length = some 0 := by
  refine (ixN_seq (n := (x :: xs).length) (i := 0) (j := 0) ?_).1
  unfold ixN
  rw [if_pos (by decide), if_pos (by rw [List.length_cons]; omega)]
  rfl
theorem dpInts {K : PySem.W.Frag} {H : Hp} : ∀ cs : List Int, DpAll K H (cs.map V.int) (cs.map PyData.int)
  | [] => .nil
  | c :: r => .cons (.int c) (dpInts r)
theorem shInts (ns : List Int) : SeqAt.shaped (.list (ns.map PyData.int)) = true := by
  unfold SeqAt.shaped
  rw [Bool.and_eq_true]
  refine ⟨?_, ?_⟩
  · simp only [PyData.canLay0, canLayAll_ints]
  · simp only [PyData.depth, depthAll_ints]
    decide
theorem at_pick {xs : List V} {j : Int} (h0 : 0 ≤ j) (h1 : j < xs.length) : ∃ x, atI xs j = some x ∧ x ∈ xs := by
  obtain ⟨k, rfl⟩ : ∃ k : Nat, j = (k : Int) := ⟨j.toNat, (Int.toNat_of_nonneg h0).symm⟩
  have hk : k < xs.length := by omega
  exact ⟨xs[k], atI_nat (List.getElem?_eq_getElem hk), List.getElem_mem hk⟩
theorem units65 {k : Nat} {A : Around} (r : Room k A) : A.units + 65 < cLine := by have := r.un; omega
def rLenK (K : PySem.W.Frag) : List V → Hp → VK → Prop := fun xs H Q => ∃ p ys, xs = [.ref p] ∧ (SqL K H p ys ∨ SqT K H p ys) ∧ Q (.int ys.length) H
def rTupK (K : PySem.W.Frag) : List V → Hp → VK → Prop := fun xs H Q => ∃ p ys, xs = [.ref p] ∧ ((SqL K H p ys ∧ ∀ l, H l = none → Q (.ref l) (upd H l (.tup ys))) ∨ (SqT K H p ys ∧ Q (.ref p) H))
def rLstK (K : PySem.W.Frag) : List V → Hp → VK → Prop := fun xs H Q => ∃ p ys, xs = [.ref p] ∧ (SqL K H p ys ∨ SqT K H p ys) ∧ ∀ l, H l = none → Q (.ref l) (upd H l (.lst ys))
/-- joining ways behind a test, behind an expression -/
def tCutT (t : TT) : TT := fun σ H Q => ∃ Mid : Bool → Hp → Prop, t σ H Mid ∧ ∀ b H1, Mid b H1 → Q b H1
theorem pt_cut {X : Cx} {e : Expr} {t : TT} (h : PT X e t) : PT X e (tCutT t) := ⟨fun pins s σ H Q I hw => by
  obtain ⟨Mid, h1, q⟩ := hw
  exact thn (h.run pins s σ H _ I h1) fun c s1 ⟨H1, I1, m⟩ => ⟨H1, I1, q _ _ m⟩⟩
def tCutE (t : TE) : TE := fun σ H Q => ∃ Mid : VK, t σ H Mid ∧ ∀ v H1, Mid v H1 → Q v H1
theorem pe_cut {X : Cx} {e : Expr} {t : TE} (h : PE X e t) : PE X e (tCutE t) := ⟨fun pins s σ H Q I hw => by
  obtain ⟨Mid, h1, q⟩ := hw
  exact thn (h.run pins s σ H _ I h1) fun u s1 ⟨v, H1, I1, r, m⟩ => ⟨v, H1, I1, r, q _ _ m⟩⟩

/-! ### defs called where nothing is being shown (so that repr tells what stands there) -/
structure FnG (P : Program) (w : World) (K : PySem.W.Frag) (mg : Str → Option Value) (bs : Heap) (CX : CXT) (k : Nat) (f : Addr) (fd : FuncData) (ps : List Str) (sp : Sp) : Prop where
  many : ∀ vs H Q E, sp vs H Q E → vs.length = ps.length
  go : ∀ A : Around, A.guards = some [] → Room k A → ∀ (fr : List Env) (s : Shared) (H : Hp) (ar : Args) (us : List Value) (vs : List V) (Q : VK) (E : XK), Env0 P w K mg bs A fr s H → BindsTo s fd ar (ps.zip us) → Vals vs us → sp vs H Q E → codeAny (model P w) A (.call (.ref f) ar) (CR CX fr P w H s Q E) s
theorem FnG.of {P : Program} {w : World} {K : PySem.W.Frag} {mg : Str → Option Value} {bs : Heap} {CX : CXT} {k : Nat} {f : Addr} {fd : FuncData} {ps : List Str} {sp : Sp} (F : FnOk P w K mg bs CX k f fd ps sp) : FnG P w K mg bs CX k f fd ps sp :=
  ⟨F.len, fun A _ room fr s H ar us vs Q E e0 b r h => F.run A fr s H ar us vs Q E room e0 b r h⟩
theorem okG {CX : CXT} {P : Program} {w : World} {K : PySem.W.Frag} {mg : Str → Option Value} {bs : Heap} {x qual : Str} {st : Stmt} {f : Addr} {fd : FuncData} {N ps : List Str} {k : Nat} {sp : Sp} (F : Fun K x qual st f fd) (S : FnScope N ps (defScope st))
    (many : ∀ vs H Q E, sp vs H Q E → vs.length = ps.length)
    (body : ∀ (cdv : Value) (A : Around) (fr : List Env) (s : Shared) (H : Hp) (vs : List V) (Q : VK) (E : XK), A.guards = some [] → Room k (A.deeper (envOfC qual (defScope st) s.heap.objs.size f cdv)) → sp vs H Q E →
      ∃ t, PSs (cxOf CX P w K mg bs N qual (defScope st) f cdv A fr s H E) (defBody st) t ∧ t ⟨fun _ H' => Q .non H', Q, fun _ _ => False, fun _ _ => False⟩ (start N vs) H) : FnG P w K mg bs CX (k + 1) f fd ps sp := by
  obtain ⟨oc, od, kV, doc, pm, an, cdv, ct, osl, rfl, lk, code⟩ := F.ex
  refine ⟨many, fun A nothing room fr s H ar us vs Q E e0 bound rel told => ?_⟩
  have stays : ∀ b o, bs.get? b = some o → s.heap.get? b = some o := fun b o z => (e0.bs b o z).1
  have inK : K.In s.heap := e0.mod.kin.keeps stays
  have places : ∀ y ∈ ps.zip us, (defScope st).names.lookup y.1 = some .local ∨ ((defScope st).names.lookup y.1 = some .cell ∧ ((cellsFrom (s.heap.objs.size + 1) (defScope st).names []).lookup y.1).isSome = true) := by
    rintro ⟨n, v⟩ hy
    exact (S.par n (List.of_mem_zip hy).1).imp id fun c => ⟨c, PySem.W.cellsFrom_some _ _ _ (Or.inl c)⟩
  refine codeAny_call_function room.depth (inK _ _ lk) rfl S.co S.gen rfl (PySem.W.codeRec_of inK code) (bound _ _ _ _
    (wpAny_newFunctionEnv_cells S.kind places fun env he s1 made => ?_))
  subst he
  obtain ⟨t, runs, holds⟩ := body cdv A fr s H vs Q E nothing (room.deeper _) told
  refine ⟨(e0.mod.nolimit.keeps stays).keeps made.toInCall.keep, codeAny_func (wpAny_mono (runs.run [] s1 (start N vs) H _ (inv_start S room.hd e0 (many _ _ _ _ told) rel made) holds) (fun fl s2 z => ?_) fun _ _ z => z)⟩
  match fl, z with
  | .ret _, ⟨v, _, H', J, rv, q⟩ => exact ⟨v, H', J.os, J.bare, J.base, J.hok, rv, q⟩
  | .next, ⟨_, H', J, q⟩ => exact ⟨V.non, H', J.os, J.bare, J.base, J.hok, rfl, q⟩
  | .brk, ⟨_, _, _, q⟩ => exact q.elim
  | .cont, ⟨_, _, _, q⟩ => exact q.elim
theorem okG0 {P : Program} {w : World} {K : PySem.W.Frag} {mg : Str → Option Value} {bs : Heap} {x qual : Str} {st : Stmt} {f : Addr} {fd : FuncData} {N ps : List Str} {k : Nat} {sp : Sp} (F : Fun K x qual st f fd) (S : FnScope N ps (defScope st))
    (many : ∀ vs H Q E, sp vs H Q E → vs.length = ps.length)
    (body : ∀ (cdv : Value) (A : Around) (fr : List Env) (s : Shared) (H : Hp) (vs : List V) (Q : VK) (E : XK), A.guards = some [] → Room k (A.deeper (envOfC qual (defScope st) s.heap.objs.size f cdv)) → sp vs H Q E →
      ∃ t, PSs (cxOf CX0 P w K mg bs N qual (defScope st) f cdv A fr s H E).nox (defBody st) t ∧ t ⟨fun _ H' => Q .non H', Q, fun _ _ => False, fun _ _ => False⟩ (start N vs) H) : FnG P w K mg bs CX0 (k + 1) f fd ps sp :=
  okG F S many fun cdv A fr s H vs Q E g r h => by
    obtain ⟨t, p, q⟩ := body cdv A fr s H vs Q E g r h
    exact ⟨t, p.nox, q⟩
section
variable {X : Cx} {CX : CXT} {k : Nat} {f : Addr} {fd : FuncData} {ps : List Str} {sp : Sp} {ds : List Value} {dvs : List V} {E : XK}
theorem runG {pins : List (Addr × Obj)} {σ : L2.St} {H : Hp} {s : Shared} {Q : VK} {us : List Value} {vs : List V} (F : FnG X.prog X.w X.K X.mg X.base CX k f fd ps sp) (nothing : X.A.guards = some []) (room : Room k X.A) (hb : Binds X.K fd ps ds)
    (hd : Vals dvs ds) (out : Passes CX X E) (I : Inv X pins σ H s) (r : Vals vs us) (told : sp (vs ++ dvs) H Q E) : wpAny (model X.prog X.w) X.A (call (.ref f) us) (EP X pins σ Q) X.xe s := by
  have rel : Vals (vs ++ dvs) (us ++ ds) := r.append hd
  have size : (us ++ ds).length = ps.length := rel.length ▸ F.many _ _ _ _ told
  refine wpAny_call (codeAny_mono (F.go X.A nothing room X.stack s H _ _ _ Q E I.env0 (hb s us I.kIn size) rel told) fun res s2 z => ?_)
  match res, z with
  | .error e, z => exact out pins σ H s e s2 I z
  | .ok (.ret u), z => exact I.after z
  | .ok .next, z => exact z.elim
  | .ok .brk, z => exact z.elim
  | .ok .cont, z => exact z.elim
theorem pe_callG {x : Str} {p pos : Pos} {e : Expr} {es : List Expr} {t : TA} (F : FnG X.prog X.w X.K X.mg X.base CX k f fd ps sp) (nothing : X.A.guards = some []) (room : Room k X.A) (hg : Gl X x) (hm : X.mg x = some (.ref f)) (kp : PySem.W.keepIn X.K (.ref f) = true)
    (hb : Binds X.K fd ps ds) (hd : Vals dvs ds) (out : Passes CX X E) (ha : PA X (e :: es) t) (nd : (x == ("__debug__" : Str)) = false := by decide) (he : starEach (e :: es) X.env = (false, eval e X.env) :: starEach es X.env := by rfl)
    (hpl : (backTo pos (starEach es X.env)).any (·.1) = false := by rfl) : PE X (.Call (.Name x p) (e :: es) [] pos) (tCall sp dvs E t) := by
  refine ⟨fun pins s σ H Q I told => wpAny_Call_Name_kw (ld_glob I hg hm ?_ nd)⟩
  refine PySem.W.callWith_K (h₀ := X.base) I.ok.mod.kin kp (thn (ha.run pos pins s σ H _ I told) ?_) he hpl
  rintro us s1 ⟨vs, H1, J, r, q⟩
  exact ⟨J.kIn, runG F nothing room hb hd out J r q⟩
end
/-! ### what is shown by repr: plain data, whose lists and dicts were made by the law -/
def kD : Key → PyData
  | .inl i => .int i
  | .inr x => .str x
mutual
inductive Sh (H : Hp) : V → PyData → Prop
  | non : Sh H .non .none
  | bl (b : Bool) : Sh H (.bl b) (.bool b)
  | int (i : Int) : Sh H (.int i) (.int i)
  | str (x : Str) : Sh H (.str x) (.str x)
  | lst {a : Addr} {xs : List V} {ds : List PyData} : H a = some (.lst xs) → a ≠ sysModules → ShAll H xs ds → Sh H (.ref a) (.list ds)
  | tup {a : Addr} {xs : List V} {ds : List PyData} : H a = some (.tup xs) → ShAll H xs ds → Sh H (.ref a) (.tuple ds)
  | dic {a : Addr} {kvs : List (Key × V)} {ds : List PyData} : H a = some (.dK kvs) → ShAll H (kvs.map (·.2)) ds → Sh H (.ref a) (.dict ((kvs.map fun kv => kD kv.1).zip ds))
inductive ShAll (H : Hp) : List V → List PyData → Prop
  | nil : ShAll H [] []
  | cons {v : V} {vs : List V} {d : PyData} {ds : List PyData} : Sh H v d → ShAll H vs ds → ShAll H (v :: vs) (d :: ds)
end
theorem ShAll.length {H : Hp} : ∀ {vs : List V} {ds : List PyData}, ShAll H vs ds → vs.length = ds.length
  | _, _, .nil => rfl
  | _, _, .cons _ t => by rw [List.length_cons, List.length_cons, t.length]
mutual
theorem Sh.same {H H' : Hp} (s : Same H H') : ∀ {v : V} {d : PyData}, Sh H v d → Sh H' v d
  | _, _, .non => .non
  | _, _, .bl b => .bl b
  | _, _, .int i => .int i
  | _, _, .str x => .str x
  | _, _, .lst h n t => .lst (s _ _ h) n (t.same s)
  | _, _, .tup h t => .tup (s _ _ h) (t.same s)
  | _, _, .dic h t => .dic (s _ _ h) (t.same s)
theorem ShAll.same {H H' : Hp} (s : Same H H') : ∀ {vs : List V} {ds : List PyData}, ShAll H vs ds → ShAll H' vs ds
  | _, _, .nil => .nil
  | _, _, .cons h t => .cons (h.same s) (t.same s)
end
/-- the name of the class of such data -/
def tyD : PyData → String
  | .none => "NoneType"
  | .bool _ => "bool"
  | .int _ => "int"
  | .str _ => "str"
  | .list _ => "list"
  | .tuple _ => "tuple"
  | .dict _ => "dict"
theorem Sh.ty {K : PySem.W.Frag} {H : Hp} {v : V} {d : PyData} (h : Sh H v d) : TyX K H v (.type (tyD d)) := by
  cases h with
  | non => exact .base .non
  | bl b => exact .base (.bl b)
  | int i => exact .base (.int i)
  | str x => exact .base (.str x)
  | lst h _ _ => exact .base (.lst h)
  | tup h _ => exact .base (.tup h)
  | dic h _ => exact .base (.dK h)
section
variable {X : Cx} {pins : List (Addr × Obj)} {σ : L2.St} {H : Hp} {s : Shared}
theorem pairs_keys {P : Program} {w : World} {h : Heap} : ∀ {es : List DictEntry} {kvs : List (Key × Value)}, Pairs (mixKind P w) es kvs → ReadsAll h (es.map (·.key)) (kvs.map fun kv => kD kv.1) []
  | _, _, .nil => .nil
  | _, _, .cons (kv := kv) hk _ t => by
    have r := pairs_keys (h := h) t
    rcases keyIs_shape (k := kv.1) hk with ⟨i, u, e1, e2⟩ | ⟨x, u, e1, e2⟩
    · rw [List.map_cons, List.map_cons, e1, e2]
      exact ReadsAll.cons (as := []) (.int i u) r
    · rw [List.map_cons, List.map_cons, e1, e2]
      exact ReadsAll.cons (as := []) (.str x u) r
theorem pairs_vals {P : Program} {w : World} : ∀ {es : List DictEntry} {kvs : List (Key × Value)}, Pairs (mixKind P w) es kvs → es.map (·.val) = kvs.map (·.2)
  | _, _, .nil => rfl
  | _, _, .cons _ hv t => by rw [List.map_cons, List.map_cons, hv, pairs_vals t]
theorem kv_rel : ∀ {kvs : List (Key × V)} {vs : List (Key × Value)}, KV kvs vs → kvs.map (·.1) = vs.map (·.1) ∧ Vals (kvs.map (·.2)) (vs.map (·.2))
  | _, _, .nil => ⟨rfl, .nil⟩
  | _, _, .cons h t => by
    obtain ⟨a, b⟩ := kv_rel t
    exact ⟨by rw [List.map_cons, List.map_cons, a, h.1], .cons h.2 b⟩
mutual
theorem Sh.reads (I : Inv X pins σ H s) : ∀ (v : V) (d : PyData) (u : Value), Sh H v d → RelV v u → ∃ as, Reads s.heap u d as ∧ sysModules ∉ as
  | _, _, _, .non, r => by cases r; exact ⟨_, .none, List.not_mem_nil⟩
  | _, _, _, .bl b, r => by cases r; exact ⟨_, .bool b, List.not_mem_nil⟩
  | _, _, _, .int i, r => by obtain ⟨t, rfl⟩ := r; exact ⟨_, .int i t, List.not_mem_nil⟩
  | _, _, _, .str x, r => by obtain ⟨t, rfl⟩ := r; exact ⟨_, .str x t, List.not_mem_nil⟩
  | _, _, _, .lst (a := a) (xs := xs) h n t, r => by
    cases r
    obtain ⟨_, its, c, rv, ho⟩ := (show ObjOk X.prog X.w H s.heap a (.lst xs) from I.hok a _ h)
    obtain ⟨as, q, m⟩ := ShAll.reads I _ _ its t rv
    exact ⟨_, .list ho rfl rfl (by simpa using q), fun z => (List.mem_cons.mp z).elim (fun e => n e.symm) m⟩
  | _, _, _, .tup (a := a) (xs := xs) h t, r => by
    cases r
    obtain ⟨_, its, rv, o, ho, hc, c, hd⟩ := (show ObjOk X.prog X.w H s.heap a (.tup xs) from I.hok a _ h)
    obtain ⟨as, q, m⟩ := ShAll.reads I _ _ its t rv
    exact ⟨_, .tuple ho hc hd (by simpa using q), m⟩
  | _, _, _, .dic (a := a) (kvs := kvs) (ds := ds) h t, r => by
    cases r
    obtain ⟨_, low, vs, rel, o, es, ep, ho, hx, hd, _, hp, _⟩ := (show ObjOk X.prog X.w H s.heap a (.dK kvs) from I.hok a _ h)
    obtain ⟨rk, rv⟩ := kv_rel rel
    obtain ⟨as, q, m⟩ := ShAll.reads I _ _ (vs.map (·.2)) t rv
    have k1 : (kvs.map fun kv => kD kv.1) = vs.map fun kv => kD kv.1 := by
      have := congrArg (List.map kD) rk
      rw [List.map_map, List.map_map] at this
      exact this
    have ln : (kvs.map fun kv => kD kv.1).length = ds.length := by
      have := t.length
      rw [List.length_map] at this
      rw [List.length_map, this]
    refine ⟨_, .dict (as := []) (bs := as) ho hx.1 hd ?_ ?_, ?_⟩
    · rw [List.map_fst_zip (Nat.le_of_eq ln), k1]
      exact pairs_keys hp
    · rw [List.map_snd_zip (Nat.le_of_eq ln.symm), pairs_vals hp]
      exact q
    · intro z
      rcases List.mem_cons.mp z with e | e
      · exact absurd low (by rw [← e]; simp)
      · exact m e
theorem ShAll.reads (I : Inv X pins σ H s) : ∀ (vs : List V) (ds : List PyData) (us : List Value), ShAll H vs ds → Vals vs us → ∃ as, ReadsAll s.heap us ds as ∧ sysModules ∉ as
  | _, _, _, .nil, r => by cases r; exact ⟨_, .nil, List.not_mem_nil⟩
  | _, _, _, .cons h t, r => by
    cases r with
    | cons r1 r2 =>
      obtain ⟨as, q1, m1⟩ := Sh.reads I _ _ _ h r1
      obtain ⟨bs, q2, m2⟩ := ShAll.reads I _ _ _ t r2
      exact ⟨_, .cons q1 q2, fun z => (List.mem_append.mp z).elim m1 m2⟩
end
end
def rRepr : List V → Hp → VK → Prop := fun xs H Q => ∃ x d, xs = [x] ∧ Sh H x d ∧ d.showable = true ∧ d.shown.length ≤ sizeLine ∧ d.depth ≤ 50 ∧ Q (.str d.shown) H
theorem call_repr {X : Cx} (nothing : X.A.guards = some []) (hu : X.A.units + 64 < cLine) : CallR X (.builtin "repr") rRepr := by
  intro pins s σ H xs us Q I r h
  obtain ⟨x, d, rfl, sh, able, fits, deep, q⟩ := h
  cases r with
  | @cons _ u _ _ r1 r2 =>
    cases r2
    obtain ⟨as, rd, low⟩ := Sh.reads I _ _ _ sh r1
    have fin : ∀ h' t tk, (∀ b o, s.heap.get? b = some o → h'.get? b = some o) → EP X pins σ Q (.str d.shown t) { s with heap := h', toks := tk } := fun h' t tk kept => ⟨.str d.shown, H, I.kept kept, ⟨t, rfl⟩, q⟩
    cases sh with
    | non => cases r1; exact PySem.P.repr_of_none (fin _ _ _ fun _ _ z => z)
    | bl b => cases r1; exact PySem.P.repr_of_bool (fin _ _ _ fun _ _ z => z)
    | int i => obtain ⟨t, rfl⟩ := r1; exact PySem.P.repr_of_int (of_decide_eq_true able) (fin _ _ _ fun _ _ z => z)
    | str x => obtain ⟨t, rfl⟩ := r1; exact PySem.P.repr_of_str (fin _ _ _ fun _ _ z => z) fits
    | lst _ _ _ => cases r1; exact repr_of_reads' rd able (fun _ => low) nothing (by omega) (fun _ _ z => z) fin fits
    | tup _ _ => cases r1; exact repr_of_reads' rd able (fun _ => low) nothing (by omega) (fun _ _ z => z) fin fits
    | dic _ _ => cases r1; exact repr_of_reads' rd able (fun _ => low) nothing (by omega) (fun _ _ z => z) fin fits
/-- a display's list is none of the interpreter's own -/
def tLstN (t : TA) : TE := fun σ H Q => t σ H fun xs H1 => xs.length ≤ sizeLine ∧ ∀ p, H1 p = none → p ≠ sysModules → Q (.ref p) (upd H1 p (.lst xs))
theorem pe_lstN {X : Cx} {es : List Expr} {t : TA} {pos : Pos} (h : PA X es t) : PE X (.List es pos) (tLstN t) := by
  refine ⟨fun pins s σ H Q I told => wpAny_List_spliced (thn (h.run pos pins s σ H _ I told) ?_)⟩
  rintro us s1 ⟨xs, H1, J, r, small, q⟩
  have free : H1 s1.heap.objs.size = none := J.hok.fresh (Nat.le_refl _)
  refine ⟨by rw [← r.length]; exact small, .ref s1.heap.objs.size, upd H1 s1.heap.objs.size (.lst xs), J.laid (t' := s1.toks) (fun b u z => Heap.get?_push_of_some _ z) (Nat.le_refl _) ⟨small, us, 0, r, Heap.get?_push_size _ rfl⟩, rfl, q _ free (Nat.ne_of_gt J.big)⟩
/-! ### the end of a law whose defs are called where nothing is being shown -/
theorem law_G {P : Program} {w : World} {K : PySem.W.Frag} {mg mb : Str → Option Value} {CX : CXT} {k : Nat} {fa a : Addr} {fd : FuncData} {x : Str} {sp : Sp} {s : Shared} {vs : List Value} {ns : List Int}
    (inK : K.In s.heap) (gl : s.heap.Ns mainGlobals mg) (bl : s.heap.Ns builtinsNs mb) (boot : ∀ y : Str, y ≠ "__name__" → mb y = bootBuiltins y) (lim : s.heap.NoLimit) (ng : s.gens = #[])
    (at_ : s.heap.get? a = some { cls := .type "list", data := .seq vs.toArray }) (are : IntsAre vs ns) (small : ns.length ≤ sizeLine) (room : Room k callerA)
    (F : ∀ bs : Heap, K.In bs → bs.Ns mainGlobals mg → FnG P w K mg bs CX k fa fd [x] sp) (bound : ∀ (s : Shared) (u : Value), BindsTo s fd ⟨[u], []⟩ [(x, u)])
    (told : ∀ H : Hp, Only H → SqL K H a (ns.map V.int) → sp [.ref a] H (fun v _ => v = .bl true) fun _ _ _ => False)
    (noX : ∀ H e s', CX [] H s (fun _ _ _ => False) e s' → False) :
    codeAny (model P w) callerA (.call (.ref fa) ⟨[.ref a], []⟩) (fun r s' => r = .ok (.ret (.bool true)) ∧ OldK s.heap s'.heap ∧ s'.os = s.os ∧ AllBare s'.gens) s := by
  have main : ∀ H : Hp, Only H → SqL K H a (ns.map V.int) → HOk P w H s.heap → (∀ b, H b ≠ none → b = a) → (H a ≠ none → K.lookup a = none) →
      codeAny (model P w) callerA (.call (.ref fa) ⟨[.ref a], []⟩) (fun r s' => r = .ok (.ret (.bool true)) ∧ OldK s.heap s'.heap ∧ s'.os = s.os ∧ AllBare s'.gens) s := by
    intro H only list ok alone out
    have seen : ∀ {b : Addr} {o : Obj}, s.heap.get? b = some o → H b = none → (hidT s.heap H).get? b = some o := fun z n => hidT_get z n
    have dict : ∀ {b : Addr} {o : Obj} {es : Array DictEntry} {ep : Nat}, s.heap.get? b = some o → o.data = .dict es ep → H b = none := by
      intro b o es ep z dz
      refine Classical.byContradiction fun some_ => ?_
      have eb := alone b some_
      rw [eb, at_] at z
      cases z
      cases (show Data.seq vs.toArray _ = Data.dict es ep from dz)
    have names : ∀ {b : Addr} {m : Str → Option Value}, s.heap.Ns b m → (hidT s.heap H).Ns b m := by
      rintro b m ⟨o, es, ep, z, dz, rest⟩
      exact ⟨o, es, ep, seen z (dict z dz), dz, rest⟩
    have inB : K.In (hidT s.heap H) := by
      intro b o z
      refine seen (inK b o z) (Classical.byContradiction fun some_ => ?_)
      have eb := alone b some_
      subst eb
      rw [out some_] at z
      cases z
    obtain ⟨ml, l1, l2⟩ := lim
    have mod : Mod K mg (hidT s.heap H) := ⟨inB, names gl, ⟨mb, names bl, boot⟩, ⟨ml, names l1, l2⟩⟩
    have env : Env0 P w K mg (hidT s.heap H) callerA [] s H := { frames := rfl, mod := mod, bs := fun b o z => of_hidT z, bsz := Nat.le_of_eq (hidT_size _ _), funs := trivial, frf := (fun b hb => by cases (show b ∈ ([] : List Addr) from hb)), hok := ok, bare := .of_eq ng }
    refine codeAny_mono ((F _ inB (names gl)).go callerA rfl room [] s H _ [.ref a] [.ref a] _ _ env (bound s (.ref a)) (.cons rfl .nil) (told H only list)) fun r s2 z => ?_
    match r, z with
    | .error e, z => exact (noX H e s2 z).elim
    | .ok .next, z => exact z.elim
    | .ok .brk, z => exact z.elim
    | .ok .cont, z => exact z.elim
    | .ok (.ret u), ⟨v, H2, os, bare, un, ok2, rel, q⟩ =>
      cases (show v = V.bl true from q)
      cases (show u = Value.bool true from rel)
      refine ⟨rfl, OldK.of_keep fun b o z => ?_, os, bare⟩
      by_cases hb : H b = none
      · exact un.keep b o z hb (fun m => by cases (show b ∈ ([] : List Addr) from m)) (fun m => by cases m)
      · rcases only b with n | ⟨ob, xs, f⟩
        · exact absurd n hb
        · have o1 := (ok b _ f).1
          have o2 := (ok2 b _ (un.frzs b ob _ f)).1
          rw [z] at o1
          rw [Option.some.inj o1]
          exact o2
  have rel := vals_ints are
  cases hk : K.lookup a with
  | some o =>
    have z := inK a o hk
    rw [at_] at z
    cases z
    exact main (fun _ => none) (fun _ => .inl rfl) (.inr ⟨_, vs.toArray, _, hk, rfl, rfl, rfl, by rw [List.size_toArray, are.length]; exact small, by simpa using rel⟩) (fun b u z => by cases z) (fun b z => absurd rfl z) fun z => absurd rfl z
  | none =>
    have on : ∀ b : Addr, b = a → (if b = a then some (HO.frz { cls := .type "list", data := .seq vs.toArray } (.lst (ns.map V.int))) else none) = some (HO.frz { cls := .type "list", data := .seq vs.toArray } (.lst (ns.map V.int))) := fun b e => if_pos e
    refine main (fun b => if b = a then some (.frz { cls := .type "list", data := .seq vs.toArray } (.lst (ns.map V.int))) else none) (fun b => ?_) (.inl (.inr ⟨_, on a rfl⟩)) (fun b u z => ?_) (fun b z => ?_) fun _ => hk
    · rcases Classical.em (b = a) with e | e
      · exact .inr ⟨_, _, on b e⟩
      · exact .inl (if_neg e)
    · rcases Classical.em (b = a) with e | e
      · have := (on b e).symm.trans z
        cases this
        subst e
        exact ⟨at_, by rw [List.length_map]; exact small, vs, _, rel, at_⟩
      · have := (if_neg e).symm.trans z
        cases this
    · exact Classical.byContradiction fun e => z (if_neg e)
theorem walk_G {l : PySem.W.OpenLaw} {n k : Nat} {q : Program} {loose : List Str} {XP : (Str → Option Value) → Heap → Prop} {YP : World → Heap → Prop} {d : DefRec} {K : Params → PySem.W.Frag} {CX : World → CXT} {sp : World → Sp} {x : Str}
    (most : l.most = some n) (small : n ≤ sizeLine) (nodef : d.params.defaults = []) (room : Room k callerA) (inK : ∀ (w : World) (h : Heap), YP w h → (K w.params).In h)
    (F : ∀ (w : World) (mg : Str → Option Value) (fa : Addr) (h : Heap), (K w.params).In h → h.Ns mainGlobals mg → mg d.name = some (.ref fa) →
      ∃ fd : FuncData, (∀ (s : Shared) (u : Value), BindsTo s fd ⟨[u], []⟩ [(x, u)]) ∧ ∀ bs : Heap, (K w.params).In bs → bs.Ns mainGlobals mg → FnG l.prog w (K w.params) mg bs (CX w) k fa fd [x] (sp w))
    (told : ∀ (w : World) (H : Hp) (a : Addr) (ns : List Int), ns.length ≤ n → Only H → SqL (K w.params) H a (ns.map V.int) → sp w [.ref a] H (fun v _ => v = .bl true) fun _ _ _ => False)
    (noX : ∀ (w : World) (H : Hp) (s : Shared) (e : Value) (s' : Shared), CX w [] H s (fun _ _ _ => False) e s' → False) :
    PySem.W.WalkO q loose XP YP l.row.toRowW d [] (fun f vs => PySem.call f vs) := by
  refine Att.attach_call most nodef fun w s₀ s₁ mg mb fa o pm cd doc a vs ns G Y ho hd hcd hmg hobj hints hlen hg => ?_
  obtain ⟨fd, bound, FG⟩ := F w mg fa _ (inK w _ Y) G.T.g hmg
  exact law_G (inK w _ Y) G.T.g G.T.b G.T.builtins G.T.nolimit hg hobj hints (Nat.le_trans hlen small) room FG bound (fun H only list => told w H a ns hlen only list) fun H e s2 => noX w H s₁ e s2

/-! ### the end of a law whose defs are called where nothing is being shown, with tables of code objects -/
def LawAtG (l : PySem.W.OpenLaw) (w : World) (K : PySem.W.Frag) (CX : CXT) (k n : Nat) (x : Str) (mg : Str → Option Value) (f : Addr) (top : Heap) : Prop :=
  ∃ (fd : FuncData) (ts : List (Addr × Addr)) (sp : Sp), (∀ t ∈ ts, top.get? t.2 = some { cls := .none, data := .fields #[] }) ∧ (∀ t ∈ ts, K.lookup t.2 = none) ∧ (∀ t ∈ ts, PySem.W.CodeHd top t.1 t.2) ∧ (∀ (st : Shared) (v : Value), BindsTo st fd ⟨[v], []⟩ [(x, v)]) ∧
    (∀ (H : Hp) (p : Addr) (zs : List Int), zs.length ≤ n → (∀ z ∈ zs, Builtin.Int.intBits z ≤ 1048576) → (∀ t ∈ ts, H t.2 = some (.tbl #[])) → SqL K H p (zs.map V.int) → sp [.ref p] H (fun v _ => v = .bl true) fun _ _ _ => False) ∧
    ∀ under : Heap, K.In under → under.Ns mainGlobals mg → (∀ t ∈ ts, LamX.TabB under mg t.1 t.2) → FnG l.prog w K mg under CX k f fd [x] sp
theorem law_GT {P : Program} {w : World} {K : PySem.W.Frag} {mg mb : Str → Option Value} {CX : CXT} {k : Nat} {f p : Addr} {ts : List (Addr × Addr)} {fd : FuncData} {x : Str} {sp : Sp} {s : Shared} {us : List Value} {zs : List Int}
    (inK : K.In s.heap) (gl : s.heap.Ns mainGlobals mg) (bl : s.heap.Ns builtinsNs mb) (boot : ∀ y : Str, y ≠ "__name__" → mb y = bootBuiltins y) (lim : s.heap.NoLimit) (ng : s.gens = #[])
    (bare : ∀ t ∈ ts, s.heap.get? t.2 = some { cls := .none, data := .fields #[] }) (out : ∀ t ∈ ts, K.lookup t.2 = none) (code : ∀ t ∈ ts, PySem.W.CodeHd s.heap t.1 t.2)
    (bmod : ∃ (m : Addr) (o : Obj), mg "__builtins__" = some (.ref m) ∧ m ≠ builtinsNs ∧ s.heap.get? m = some o ∧ o.cls = .type "module" ∧ o.dict = some builtinsNs ∧ o.data = .plain)
    (script : s.heap.get? p = some { cls := .type "list", data := .seq us.toArray }) (are : IntsAre us zs) (small : zs.length ≤ sizeLine) (room : Room k callerA)
    (F : ∀ under : Heap, K.In under → under.Ns mainGlobals mg → (∀ t ∈ ts, LamX.TabB under mg t.1 t.2) → FnG P w K mg under CX k f fd [x] sp) (bound : ∀ (st : Shared) (v : Value), BindsTo st fd ⟨[v], []⟩ [(x, v)])
    (told : ∀ H : Hp, (∀ t ∈ ts, H t.2 = some (.tbl #[])) → SqL K H p (zs.map V.int) → sp [.ref p] H (fun v _ => v = .bl true) fun _ _ _ => False)
    (noX : ∀ H e st, CX [] H s (fun _ _ _ => False) e st → False) :
    codeAny (model P w) callerA (.call (.ref f) ⟨[.ref p], []⟩) (fun r st => r = .ok (.ret (.bool true)) ∧ OldK s.heap st.heap ∧ st.os = s.os ∧ AllBare st.gens) s := by
  have tabAt : ∀ c ∈ ts.map Prod.snd, s.heap.get? c = some { cls := .none, data := .fields #[] } := by
    intro c hc
    obtain ⟨t, ht, rfl⟩ := List.mem_map.mp hc
    exact bare t ht
  have inTs : ∀ {t : Addr × Addr}, t ∈ ts → t.2 ∈ ts.map Prod.snd := fun ht => List.mem_map_of_mem ht
  have pNo : ¬ p ∈ ts.map Prod.snd := by
    intro hp
    have both := (tabAt p hp).symm.trans script
    have kinds := congrArg (fun o : Option Obj => o.map Obj.cls) both
    simp at kinds
  have main : ∀ H : Hp, (∀ t ∈ ts, H t.2 = some (.tbl #[])) → (∀ c, H c = none ∨ c ∈ ts.map Prod.snd ∨ ∃ o ys, H c = some (.frz o (.lst ys))) → SqL K H p (zs.map V.int) → HOk P w H s.heap → (∀ c, H c ≠ none → c = p ∨ c ∈ ts.map Prod.snd) → (H p ≠ none → K.lookup p = none) →
      codeAny (model P w) callerA (.call (.ref f) ⟨[.ref p], []⟩) (fun r st => r = .ok (.ret (.bool true)) ∧ OldK s.heap st.heap ∧ st.os = s.os ∧ AllBare st.gens) s := by
    intro H tabs kinds list ok alone off
    have free : ∀ {c : Addr} {o : Obj}, s.heap.get? c = some o → (∀ ys m, ¬ o.data = .seq ys m) → ¬ o.data = .fields #[] → H c = none := by
      intro c o ho n1 n2
      refine Classical.byContradiction fun some_ => ?_
      rcases alone c some_ with rfl | hc
      · cases Option.some.inj (ho.symm.trans script)
        exact n1 _ _ rfl
      · cases Option.some.inj (ho.symm.trans (tabAt c hc))
        exact n2 rfl
    have names : ∀ {c : Addr} {m : Str → Option Value}, s.heap.Ns c m → (hidT s.heap H).Ns c m := by
      rintro c m ⟨o, es, ep, ho, dz, more⟩
      refine ⟨o, es, ep, hidT_get ho (free ho (fun ys j z => ?_) fun z => ?_), dz, more⟩ <;> exact Data.noConfusion (dz.symm.trans z)
    have inB : K.In (hidT s.heap H) := by
      intro c o ho
      refine hidT_get (inK c o ho) (Classical.byContradiction fun some_ => ?_)
      rcases alone c some_ with rfl | hc
      · exact absurd (ho.symm.trans (off some_)) (by simp)
      · obtain ⟨t, ht, rfl⟩ := List.mem_map.mp hc
        exact absurd (ho.symm.trans (out t ht)) (by simp)
    obtain ⟨ml, l1, l2⟩ := lim
    have mod : L2.Mod K mg (hidT s.heap H) := ⟨inB, names gl, ⟨mb, names bl, boot⟩, ⟨ml, names l1, l2⟩⟩
    have tables : ∀ t ∈ ts, LamX.TabB (hidT s.heap H) mg t.1 t.2 := by
      intro t ht
      constructor
      · obtain ⟨o, ys, file, tf, flags, tg, inF, text, tt, c1, c2, c3, c4, c5, c6, c7, c8, c9, c10⟩ := code t ht
        refine ⟨o, ys, file, tf, flags, tg, inF, text, tt, hidT_get c1 (free c1 (fun us j z => Data.noConfusion (c3.symm.trans z)) fun z => ?_), c2, c3, c4, c5, c6, c7, c8, c9, c10⟩
        have z2 := c3.symm.trans z
        cases z2
        simp at c4
      · obtain ⟨m, o, b1, b2, b3, b4, b5, b6⟩ := bmod
        refine ⟨m, o, b1, b2, fun z => ?_, fun z => ?_, hidT_get b3 (free b3 (fun us j z => Data.noConfusion (b6.symm.trans z)) fun z => Data.noConfusion (b6.symm.trans z)), b4, b5, b6⟩
        · obtain ⟨o', es, ep, ho, dz, _⟩ := gl
          subst z
          cases Option.some.inj (b3.symm.trans ho)
          exact Data.noConfusion (b6.symm.trans dz)
        · subst z
          cases Option.some.inj (b3.symm.trans (bare t ht))
          exact Data.noConfusion b6
      · intro z
        obtain ⟨o', es, ep, ho, dz, _⟩ := gl
        rw [z] at ho
        cases Option.some.inj (ho.symm.trans (bare t ht))
        exact Data.noConfusion dz
    have env : Env0 P w K mg (hidT s.heap H) callerA [] s H := { frames := rfl, mod := mod, bs := fun c o z => of_hidT z, bsz := Nat.le_of_eq (hidT_size _ _), funs := trivial, frf := (fun c hc => by cases (show c ∈ ([] : List Addr) from hc)), hok := ok, bare := .of_eq ng }
    refine codeAny_mono ((F _ inB (names gl) tables).go callerA rfl room [] s H _ [.ref p] [.ref p] _ _ env (bound s (.ref p)) (.cons rfl .nil) (told H tabs list)) fun r st z => ?_
    match r, z with
    | .error e, z => exact (noX H e st z).elim
    | .ok .next, z => exact z.elim
    | .ok .brk, z => exact z.elim
    | .ok .cont, z => exact z.elim
    | .ok (.ret u), ⟨v, H2, os, bg, un, ok2, rel, q⟩ =>
      cases (show v = V.bl true from q)
      cases (show u = Value.bool true from rel)
      have old : ∀ c o, ¬ c ∈ ts.map Prod.snd → s.heap.get? c = some o → st.heap.get? c = some o := by
        intro c o nc ho
        by_cases hc : H c = none
        · exact un.keep c o ho hc (fun m => by cases (show c ∈ ([] : List Addr) from m)) (fun m => by cases m)
        · rcases kinds c with n | n | ⟨ob, ys, fz⟩
          · exact absurd n hc
          · exact absurd n nc
          · have o1 := (ok c _ fz).1
            have o2 := (ok2 c _ (un.frzs c ob _ fz)).1
            rw [ho] at o1
            rw [Option.some.inj o1]
            exact o2
      have grown : ∀ c ∈ ts.map Prod.snd, ∃ more : Array Value, st.heap.get? c = some { cls := .none, data := .fields more } := by
        intro c hc
        obtain ⟨t, ht, rfl⟩ := List.mem_map.mp hc
        obtain ⟨more, hm⟩ := un.tbls t.2 #[] (tabs t ht)
        exact ⟨_, ok2 t.2 _ hm⟩
      refine ⟨rfl, ⟨fun c o ho => ?_, fun c o ho => ?_⟩, os, bg⟩
      · by_cases hc : c ∈ ts.map Prod.snd
        · obtain ⟨more, hm⟩ := grown c hc
          obtain ⟨t, ht, rfl⟩ := List.mem_map.mp hc
          cases Option.some.inj (ho.symm.trans (bare t ht))
          exact .inr (.inl ⟨((code t ht).tab (bare t ht)).isCodeTable, rfl, #[], more, rfl, by rw [Array.empty_append]; exact hm⟩)
        · exact .inl (old c o hc ho)
      · by_cases hc : c ∈ ts.map Prod.snd
        · obtain ⟨more, hm⟩ := grown c hc
          exact ⟨_, hm⟩
        · exact ⟨o, old c o hc ho⟩
  have rel := vals_ints are
  let base : Hp := fun c => if c ∈ ts.map Prod.snd then some (.tbl #[]) else none
  have onT : ∀ {c : Addr}, c ∈ ts.map Prod.snd → base c = some (.tbl #[]) := fun hc => if_pos hc
  have offT : ∀ {c : Addr}, ¬ c ∈ ts.map Prod.snd → base c = none := fun hc => if_neg hc
  cases hk : K.lookup p with
  | some o =>
    cases Option.some.inj ((inK p o hk).symm.trans script)
    refine main base (fun t ht => onT (inTs ht)) (fun c => ?_) (.inr ⟨_, us.toArray, _, hk, rfl, rfl, rfl, by rw [List.size_toArray, are.length]; exact small, by simpa using rel⟩) (fun c u z => ?_) (fun c z => ?_) fun z => absurd (offT pNo) z
    · rcases Classical.em (c ∈ ts.map Prod.snd) with hc | hc
      · exact .inr (.inl hc)
      · exact .inl (offT hc)
    · rcases Classical.em (c ∈ ts.map Prod.snd) with hc | hc
      · cases Option.some.inj ((onT hc).symm.trans z)
        exact tabAt c hc
      · exact absurd ((offT hc).symm.trans z) (by simp)
    · exact .inr (Classical.byContradiction fun hc => z (offT hc))
  | none =>
    let frz : HO := .frz { cls := .type "list", data := .seq us.toArray } (.lst (zs.map V.int))
    have onP : (fun c => if c = p then some frz else base c) p = some frz := if_pos rfl
    have offP : ∀ {c : Addr}, ¬ c = p → (fun c => if c = p then some frz else base c) c = base c := fun hc => if_neg hc
    refine main (fun c => if c = p then some frz else base c) (fun t ht => ?_) (fun c => ?_) (.inl (.inr ⟨_, onP⟩)) (fun c u z => ?_) (fun c z => ?_) fun _ => hk
    · refine (offP fun e => pNo ?_).trans (onT (inTs ht))
      rw [← e]
      exact inTs ht
    · rcases Classical.em (c = p) with rfl | e
      · exact .inr (.inr ⟨_, _, onP⟩)
      · rcases Classical.em (c ∈ ts.map Prod.snd) with hc | hc
        · exact .inr (.inl hc)
        · exact .inl ((offP e).trans (offT hc))
    · rcases Classical.em (c = p) with rfl | e
      · cases Option.some.inj (onP.symm.trans z)
        exact ⟨script, by rw [List.length_map]; exact small, us, _, rel, script⟩
      · have z := (offP e).symm.trans z
        rcases Classical.em (c ∈ ts.map Prod.snd) with hc | hc
        · cases Option.some.inj ((onT hc).symm.trans z)
          exact tabAt c hc
        · exact absurd ((offT hc).symm.trans z) (by simp)
    · rcases Classical.em (c = p) with e | e
      · exact .inl e
      · exact .inr (Classical.byContradiction fun hc => z ((offP e).trans (offT hc)))
theorem walk_GT {l : PySem.W.OpenLaw} {n k : Nat} {q : Program} {loose : List Str} {XP : (Str → Option Value) → Heap → Prop} {YP : World → Heap → Prop} {d : DefRec} {CX : World → CXT} {x : Str}
    (most : l.most = some n) (small : n ≤ sizeLine) (nodef : d.params.defaults = []) (room : Room k callerA)
    (F : ∀ (w : World) (mg : Str → Option Value) (f : Addr) (top : Heap), YP w top → top.Ns mainGlobals mg → mg d.name = some (.ref f) → ∃ K : PySem.W.Frag, K.In top ∧ LawAtG l w K (CX w) k n x mg f top)
    (noX : ∀ (w : World) (H : Hp) (s : Shared) (e : Value) (st : Shared), CX w [] H s (fun _ _ _ => False) e st → False) :
    PySem.W.WalkO q loose XP YP l.row.toRowW d [] (fun f vs => PySem.call f vs) := by
  refine Att.attach_callB most nodef fun w s0 s mg mb f o pm cd doc p us zs G Y ho hd hcd named script are few bits ng => ?_
  obtain ⟨K, inK, fd, ts, sp, bare, out, code, bound, told, FG⟩ := F w mg f _ Y G.T.g named
  exact law_GT inK G.T.g G.T.b G.T.builtins G.T.nolimit ng bare out code G.T.bmain script are (Nat.le_trans few small) room FG bound (fun H tabs list => told H p zs few bits tabs list) fun H e st => noX w H s e st

/-! ### data made by the law or the program: numbers, truths, texts, lists and tuples of these -/
mutual
inductive Tk (H : Hp) : V → PyData → Prop
  | bl (b : Bool) : Tk H (.bl b) (.bool b)
  | int (i : Int) : Tk H (.int i) (.int i)
  | str (x : Str) : Tk H (.str x) (.str x)
  | lst {a : Addr} {xs : List V} {ds : List PyData} : H a = some (.lst xs) → TkAll H xs ds → Tk H (.ref a) (.list ds)
  | tup {a : Addr} {xs : List V} {ds : List PyData} : H a = some (.tup xs) → TkAll H xs ds → Tk H (.ref a) (.tuple ds)
inductive TkAll (H : Hp) : List V → List PyData → Prop
  | nil : TkAll H [] []
  | cons {v : V} {vs : List V} {d : PyData} {ds : List PyData} : Tk H v d → TkAll H vs ds → TkAll H (v :: vs) (d :: ds)
end
theorem TkAll.length {H : Hp} : ∀ {vs : List V} {ds : List PyData}, TkAll H vs ds → vs.length = ds.length
  | _, _, .nil => rfl
  | _, _, .cons _ t => by rw [List.length_cons, List.length_cons, t.length]
mutual
theorem Tk.same {H H' : Hp} (s : Same H H') : ∀ {v : V} {d : PyData}, Tk H v d → Tk H' v d
  | _, _, .bl b => .bl b
  | _, _, .int i => .int i
  | _, _, .str x => .str x
  | _, _, .lst h t => .lst (s _ _ h) (t.same s)
  | _, _, .tup h t => .tup (s _ _ h) (t.same s)
theorem TkAll.same {H H' : Hp} (s : Same H H') : ∀ {vs : List V} {ds : List PyData}, TkAll H vs ds → TkAll H' vs ds
  | _, _, .nil => .nil
  | _, _, .cons h t => .cons (h.same s) (t.same s)
end
theorem TkAll.get {H : Hp} : ∀ {xs : List V} {ds : List PyData} {j : Nat} {x : V}, TkAll H xs ds → xs[j]? = some x → ∃ d, ds[j]? = some d ∧ Tk H x d
  | _, _, _, _, .nil, h => by simp at h
  | _, _, 0, _, .cons (d := d) a _, h => by
    cases (Option.some.inj h)
    exact ⟨d, rfl, a⟩
  | _, _, j + 1, _, .cons _ t, h => t.get h
theorem TkAll.append {H : Hp} : ∀ {xs ys : List V} {ds es : List PyData}, TkAll H xs ds → TkAll H ys es → TkAll H (xs ++ ys) (ds ++ es)
  | _, _, _, _, .nil, t => t
  | _, _, _, _, .cons a r, t => .cons a (r.append t)
theorem TkAll.ints {H : Hp} : ∀ ns : List Int, TkAll H (ns.map V.int) (ns.map PyData.int)
  | [] => .nil
  | n :: r => .cons (.int n) (TkAll.ints r)
theorem Tk.int_inv {H : Hp} {v : V} {i : Int} (h : Tk H v (.int i)) : v = .int i := by cases h; rfl
theorem Tk.tup_inv {H : Hp} {v : V} {ds : List PyData} (h : Tk H v (.tuple ds)) : ∃ a xs, v = .ref a ∧ H a = some (.tup xs) ∧ TkAll H xs ds := by
  cases h with
  | tup h t => exact ⟨_, _, rfl, h, t⟩
theorem Tk.lst_inv {H : Hp} {v : V} {ds : List PyData} (h : Tk H v (.list ds)) : ∃ a xs, v = .ref a ∧ H a = some (.lst xs) ∧ TkAll H xs ds := by
  cases h with
  | lst h t => exact ⟨_, _, rfl, h, t⟩
theorem TkAll.int_inv {H : Hp} : ∀ {vs : List V} {ns : List Int}, TkAll H vs (ns.map PyData.int) → vs = ns.map V.int
  | _, [], .nil => rfl
  | _, n :: r, .cons h t => by rw [List.map_cons, h.int_inv, t.int_inv]
/-- heaps without one place -/
def hd1 (p : Addr) (H : Hp) : Hp := fun b => if b = p then none else H b
theorem hd1_le {p : Addr} {H : Hp} : Same (hd1 p H) H := fun b o e => by
  unfold hd1 at e
  by_cases h : b = p
  · rw [if_pos h] at e; cases e
  · rw [if_neg h] at e; exact e
theorem hd1_same {p : Addr} {H H' : Hp} (s : Same H H') : Same (hd1 p H) (hd1 p H') := fun b o e => by
  unfold hd1 at e ⊢
  by_cases h : b = p
  · rw [if_pos h] at e; cases e
  · rw [if_neg h] at e ⊢; exact s _ _ e
theorem hd1_upd {p : Addr} {H : Hp} {o : HO} : Same (hd1 p H) (hd1 p (upd H p o)) := fun b x e => by
  unfold hd1 at e ⊢
  by_cases h : b = p
  · rw [if_pos h] at e; cases e
  · rw [if_neg h] at e ⊢; rw [upd_ne h]; exact e
theorem hd1_at {p b : Addr} {H : Hp} (h : b ≠ p) : hd1 p H b = H b := if_neg h
theorem hd1_of {p : Addr} {H H' : Hp} (s : Same H H') (n : H p = none) : Same H (hd1 p H') := fun b o e => by
  rw [hd1_at (ne_of_none e n)]
  exact s _ _ e
theorem same_of_hd1 {p : Addr} {H H' : Hp} {o : HO} (s : Same H (hd1 p H')) : Same H (upd H' p o) := fun b x e => by
  have z := s b x e
  unfold hd1 at z
  by_cases h : b = p
  · rw [if_pos h] at z; cases z
  · rw [if_neg h] at z; rw [upd_ne h]; exact z

/-! ### tables and gates -/
def tabOf (bs : List Bool) : Str := ⟨(bs.map fun b => if b = true then 49 else 48).toArray⟩
def plc (ws : List Int) : Int := ws.foldl (fun p w => 2 * p + w) 0
def gateM (bs : List Bool) (ws : List Int) : Int := if bs.getD (plc ws).toNat false = true then 1 else 0
theorem plc_snoc (ws : List Int) (w : Int) : plc (ws ++ [w]) = 2 * plc ws + w := by
  unfold plc
  rw [List.foldl_append]
  rfl
theorem plc_take {ws : List Int} {i : Nat} {u : Int} (h : ws[i]? = some u) : plc (ws.take (i + 1)) = 2 * plc (ws.take i) + u := by
  rw [List.take_add_one, h]
  exact plc_snoc _ _
theorem plc_bd : ∀ (n : Nat) (ws : List Int), ws.length = n → (∀ w ∈ ws, w = 0 ∨ w = 1) → 0 ≤ plc ws ∧ plc ws < 2 ^ n := by
  intro n
  induction n with
  | zero =>
    intro ws h _
    cases List.eq_nil_of_length_eq_zero h
    decide
  | succ n ih =>
    intro ws h hw
    have hne : ws ≠ [] := fun z => by rw [z] at h; cases h
    obtain ⟨r, x, rfl⟩ : ∃ r x, ws = r ++ [x] := ⟨ws.dropLast, ws.getLast hne, (List.dropLast_concat_getLast hne).symm⟩
    have hr := ih r (by rw [List.length_append] at h; simpa using h) fun w h' => hw w (List.mem_append_left _ h')
    have hx := hw x (by simp)
    rw [plc_snoc, Int.pow_succ]
    omega
theorem gate01 (bs : List Bool) (ws : List Int) : gateM bs ws = 0 ∨ gateM bs ws = 1 := by
  unfold gateM
  split
  · exact .inr rfl
  · exact .inl rfl
theorem int_sign (b : Bool) : PySem.intText? ⟨#[if b = true then 49 else 48]⟩ = some (if b = true then 1 else 0) := by
  cases b <;> decide +kernel
def spGate (K : PySem.W.Frag) : Sp := fun vs H Q _ => ∃ (bs : List Bool) (la : Addr) (ws : List Int), vs = [.str (tabOf bs), .ref la] ∧ SqL K H la (ws.map V.int) ∧ (∀ w ∈ ws, w = 0 ∨ w = 1) ∧ bs.length = 2 ^ ws.length ∧ ws.length ≤ 3 ∧ Q (.int (gateM bs ws)) H
theorem gate_read {bs : List Bool} {ws : List Int} (hw : ∀ w ∈ ws, w = 0 ∨ w = 1) (hb : bs.length = 2 ^ ws.length) (h3 : ws.length ≤ 3) : ∃ b : Bool, 0 ≤ plc ws ∧ plc ws < 2 ^ 63 ∧ plc ws < (tabOf bs).length ∧ (tabOf bs).cps[(plc ws).toNat]? = some (if b = true then 49 else 48) ∧ gateM bs ws = if b = true then 1 else 0 := by
  obtain ⟨p0, p1⟩ := plc_bd _ ws rfl hw
  have p8 : plc ws < 8 := by
    have : (2 : Int) ^ ws.length ≤ 8 := by
      have : ws.length = 0 ∨ ws.length = 1 ∨ ws.length = 2 ∨ ws.length = 3 := by omega
      rcases this with h | h | h | h <;> rw [h] <;> decide
    omega
  have hlt : (plc ws).toNat < bs.length := by
    have : ((2 ^ ws.length : Nat) : Int) = (2 : Int) ^ ws.length := by simp
    omega
  refine ⟨bs[(plc ws).toNat], p0, by omega, ?_, ?_, ?_⟩
  · have : (tabOf bs).length = bs.length := by simp [tabOf, Str.length]
    rw [this]
    omega
  · simp [tabOf, List.getElem?_eq_getElem hlt]
  · unfold gateM
    rw [List.getD_eq_getElem?_getD, List.getElem?_eq_getElem hlt]
    rfl

/-! ### walks -/
theorem gx_tup {α : Type} {K : PySem.W.Frag} {a : Addr} {xs : List V} {g : TG} {tt : TT} {te : TE} {vs : List Nat} {σ0 : L2.St} {End : α → Hp → Prop} {Yd : α → V → Hp → (α → Hp → Prop) → Prop} {a0 : α} {H0 : Hp} (Pv : Nat → α → Hp → Prop) (h0 : Pv 0 a0 H0)
    (hl : ∀ i c H, i ≤ xs.length → Pv i c H → SqT K H a xs)
    (hs : ∀ i x c H, xs[i]? = some x → Pv i c H → g x σ0 H fun σ2 H2 => wipe σ2 vs = σ0 ∧ tt σ2 H2 fun b H3 => if b = true then te σ2 H3 fun y H4 => Yd c y H4 (Pv (i + 1)) else Pv (i + 1) c H3) (hd : ∀ c H, Pv xs.length c H → End c H) :
    ∃ W : Nat → Nat → α → Hp → Prop, (∃ m, W 0 m a0 H0) ∧ tGx (Itt K a) g tt te σ0 vs End Yd W := by
  refine ⟨fun i m c H => m = xs.length - i ∧ i ≤ xs.length ∧ Pv i c H, ⟨xs.length, rfl, Nat.zero_le _, h0⟩, ?_⟩
  rintro i m c H ⟨rfl, hi, p⟩
  by_cases hlt : i < xs.length
  · have hx : xs[i]? = some xs[i] := List.getElem?_eq_getElem hlt
    refine .inr ⟨⟨xs, xs[i], hl i c H hi p, hx⟩, Pv (i + 1), fun c' H' p' => ⟨xs.length - (i + 1), by omega, rfl, hlt, p'⟩, fun x H' y => ?_⟩
    obtain ⟨rfl, y⟩ := y
    exact hs i x c _ (y xs (hl i c _ hi p)) p
  · have e : i = xs.length := by omega
    subst e
    exact .inl ⟨⟨xs, hl _ c H hi p, Nat.le_refl _⟩, hd c H p⟩
theorem lc_zipT {K : PySem.W.Frag} {a b : Addr} {xs ys : List V} {g : TG} {tt : TT} {te : TE} {vs : List Nat} {σ : L2.St} {H1 : Hp} {D : Addr} {Qd : Hp → Prop} (el : xs.length = ys.length) (Pv : Nat → Hp → Prop) (h0 : Pv 0 (upd H1 D (.lst []))) (hl : ∀ i H, i ≤ xs.length → Pv i H → SqT K H a xs ∧ SqT K H b ys)
    (hs : ∀ i x y T H, xs[i]? = some x → ys[i]? = some y → H T = none → Pv i H → g (.ref T) (wipe σ vs) (upd H T (.tup [x, y])) fun σ2 H2 => wipe σ2 vs = wipe σ vs ∧ tt σ2 H2 fun b H3 =>
      if b = true then te σ2 H3 fun y H4 => ∃ acc, H4 D = some (.lst acc) ∧ acc.length < sizeLine ∧ Pv (i + 1) (upd H4 D (.lst (acc ++ [y]))) else Pv (i + 1) H3) (hd : ∀ H, Pv xs.length H → Qd H) :
    ∃ W : Nat → Nat → Hp → Prop, (∃ m, W 0 m (upd H1 D (.lst []))) ∧ ∀ i m H, W i m H →
      ((RZ.ItzT K a b).stop i H ∧ Qd H) ∨ ((RZ.ItzT K a b).go i H ∧ ∃ Nx : Hp → Prop, (∀ H', Nx H' → ∃ m', m' < m ∧ W (i + 1) m' H') ∧ ∀ x H', (RZ.ItzT K a b).yld i H x H' → g x (wipe σ vs) H' fun σ2 H2 => wipe σ2 vs = wipe σ vs ∧ tt σ2 H2 fun b H3 =>
        if b = true then te σ2 H3 fun y H4 => ∃ acc, H4 D = some (.lst acc) ∧ acc.length < sizeLine ∧ Nx (upd H4 D (.lst (acc ++ [y]))) else Nx H3) := by
  refine ⟨fun i m H => m = xs.length - i ∧ i ≤ xs.length ∧ Pv i H, ⟨xs.length, by simp, Nat.zero_le _, h0⟩, ?_⟩
  rintro i m H ⟨rfl, hi, p⟩
  obtain ⟨qx, qy⟩ := hl i H hi p
  by_cases hlt : i < xs.length
  · have hx : xs[i]? = some xs[i] := List.getElem?_eq_getElem hlt
    have hy : ys[i]? = some (ys[i]'(by omega)) := List.getElem?_eq_getElem _
    refine .inr ⟨⟨xs, ys, _, _, qx, qy, hx, hy⟩, Pv (i + 1), fun H' p' => ⟨xs.length - (i + 1), by omega, rfl, hlt, p'⟩, fun x H' y => ?_⟩
    obtain ⟨T, x1, y1, rfl, nT, rfl, e1, e2⟩ := y
    exact hs i x1 y1 T H (e1 xs qx) (e2 ys qy) nT p
  · have e : i = xs.length := by omega
    subst e
    exact .inl ⟨⟨xs, ys, qx, qy, .inl (Nat.le_refl _)⟩, hd H p⟩

/-! ### nets, and the words of nets -/
abbrev Gt := List Bool × List Nat
def gD (g : Gt) : PyData := .tuple [.str (tabOf g.1), .tuple ((g.2.map Int.ofNat).map PyData.int)]
def netD (many : Int) (gs : List Gt) : PyData := .tuple [.int many, .tuple (gs.map gD)]
def rowD (r : List Int) : PyData := .tuple (r.map PyData.int)
def chD (a b : List Int) : PyData := .tuple [rowD a, rowD b]
def GtOk (n : Nat) (g : Gt) : Prop := g.1.length = 2 ^ g.2.length ∧ 1 ≤ g.2.length ∧ g.2.length ≤ 3 ∧ ∀ i ∈ g.2, i < n
def NetOk (n : Nat) (gs : List Gt) : Prop := ∀ k g, gs[k]? = some g → GtOk (n + k) g
def Row01 (r : List Int) : Prop := ∀ x ∈ r, x = 0 ∨ x = 1
mutual
theorem Tk.gr {H H' : Hp} (s : Gr H H') : ∀ {v : V} {d : PyData}, Tk H v d → Tk H' v d
  | _, _, .bl b => .bl b
  | _, _, .int i => .int i
  | _, _, .str x => .str x
  | _, _, .lst h t => .lst (s.lst h) (t.gr s)
  | _, _, .tup h t => .tup (s.tup h) (t.gr s)
theorem TkAll.gr {H H' : Hp} (s : Gr H H') : ∀ {vs : List V} {ds : List PyData}, TkAll H vs ds → TkAll H' vs ds
  | _, _, .nil => .nil
  | _, _, .cons h t => .cons (h.gr s) (t.gr s)
end
theorem Tk.row_inv {H : Hp} {v : V} {r : List Int} (h : Tk H v (rowD r)) : ∃ a, v = .ref a ∧ H a = some (.tup (r.map V.int)) := by
  obtain ⟨a, xs, rfl, ha, t⟩ := h.tup_inv
  rw [t.int_inv] at ha
  exact ⟨a, rfl, ha⟩
theorem Tk.ch_inv {H : Hp} {v : V} {a b : List Int} (h : Tk H v (chD a b)) : ∃ c ra rb, v = .ref c ∧ H c = some (.tup [.ref ra, .ref rb]) ∧ H ra = some (.tup (a.map V.int)) ∧ H rb = some (.tup (b.map V.int)) := by
  obtain ⟨c, xs, rfl, hc, t⟩ := h.tup_inv
  cases t with
  | cons h1 t => cases t with
    | cons h2 t =>
      cases t
      obtain ⟨ra, rfl, ha⟩ := h1.row_inv
      obtain ⟨rb, rfl, hb⟩ := h2.row_inv
      exact ⟨c, ra, rb, rfl, hc, ha, hb⟩
theorem Tk.net_inv {H : Hp} {v : V} {m : Int} {gs : List Gt} (h : Tk H v (netD m gs)) : ∃ n g xs, v = .ref n ∧ H n = some (.tup [.int m, .ref g]) ∧ H g = some (.tup xs) ∧ TkAll H xs (gs.map gD) := by
  obtain ⟨n, xs, rfl, hn, t⟩ := h.tup_inv
  cases t with
  | cons h1 t => cases t with
    | cons h2 t =>
      cases t
      cases h1
      obtain ⟨g, ys, rfl, hg, t2⟩ := h2.tup_inv
      exact ⟨n, g, ys, rfl, hn, hg, t2⟩
theorem Tk.gt_inv {H : Hp} {v : V} {g : Gt} (h : Tk H v (gD g)) : ∃ a i, v = .ref a ∧ H a = some (.tup [.str (tabOf g.1), .ref i]) ∧ H i = some (.tup ((g.2.map Int.ofNat).map V.int)) := by
  obtain ⟨a, xs, rfl, ha, t⟩ := h.tup_inv
  cases t with
  | cons h1 t => cases t with
    | cons h2 t =>
      cases t
      cases h1
      obtain ⟨i, rfl, hi⟩ := (show Tk H _ (rowD (g.2.map Int.ofNat)) from h2).row_inv
      exact ⟨a, i, rfl, ha, hi⟩
theorem TkAll.at {H : Hp} {α : Type} {f : α → PyData} {xs : List V} {ds : List α} (t : TkAll H xs (ds.map f)) {j : Nat} {v : V} (h : xs[j]? = some v) : ∃ x, ds[j]? = some x ∧ Tk H v (f x) := by
  obtain ⟨dx, hdx, tx⟩ := t.get h
  rw [List.getElem?_map] at hdx
  cases hz : ds[j]? with
  | none => rw [hz] at hdx; cases hdx
  | some x =>
    rw [hz] at hdx
    cases Option.some.inj hdx
    exact ⟨x, rfl, tx⟩
theorem TkAll.at' {H : Hp} {α : Type} {f : α → PyData} {xs : List V} {ds : List α} (t : TkAll H xs (ds.map f)) {j : Nat} {x : α} (h : ds[j]? = some x) : ∃ v, xs[j]? = some v ∧ Tk H v (f x) := by
  have hl := t.length
  rw [List.length_map] at hl
  have hj := (List.getElem?_eq_some_iff.mp h).1
  obtain ⟨y, hy, ty⟩ := t.at (List.getElem?_eq_getElem (l := xs) (i := j) (by omega))
  cases Option.some.inj (h.symm.trans hy)
  exact ⟨_, List.getElem?_eq_getElem _, ty⟩
theorem grow_upd {H H' : Hp} {p : Addr} {o : HO} (g : Gr H H') (n : H' p = none) : Gr H (upd H' p o) := g.trans (Gr.none n)
/-- no table, no older list: only the list at D is written -/
def GrD (D : Addr) (H H' : Hp) : Prop := Gr H (hd1 D H')
theorem GrD.gr {D : Addr} {H H' : Hp} (g : GrD D H H') : Gr H H' := g.trans (Gr.of hd1_le)
theorem TabG_hd1 {D P : Addr} {H : Hp} (h : GxR.TabG H P) (n : D ≠ P) : GxR.TabG (hd1 D H) P := by
  obtain ⟨ps, e, t⟩ := h
  exact ⟨ps, by rw [hd1_at (Ne.symm n)]; exact e, t⟩
theorem GrD.new {D : Addr} {H : Hp} {o : HO} (n : H D = none) : GrD D H (upd H D o) := Gr.of (hd1_of (same_upd n) n)
theorem hd1_gr {D : Addr} {H H' : Hp} (g : Gr H H') (hD : ∀ P, GxR.TabG H P → D ≠ P) : Gr (hd1 D H) (hd1 D H') := by
  refine ⟨fun b o n e => ?_, fun b t => ?_⟩
  · have hb : b ≠ D := fun z => by
      unfold hd1 at e
      rw [if_pos z] at e; cases e
    rw [hd1_at hb] at e ⊢
    exact g.1 b o n e
  · obtain ⟨ps, e, t⟩ := t
    have e' := hd1_le _ _ e
    exact TabG_hd1 (g.2 b ⟨ps, e', t⟩) (hD b ⟨ps, e', t⟩)
theorem GrD.then {D : Addr} {H H1 H2 : Hp} {xs : List V} (a : GrD D H H1) (hD : H1 D = some (.lst xs)) (b : Gr H1 H2) : GrD D H H2 := a.trans (hd1_gr b fun P ⟨ps, e, _⟩ z => by
  rw [← z, hD] at e
  cases e)
theorem GrD.set {D : Addr} {H H1 : Hp} {o : HO} (a : GrD D H H1) : GrD D H (upd H1 D o) := a.trans (Gr.of hd1_upd)

end Gk

set_option Elab.async false
set_option linter.all false
set_option maxRecDepth 100000
set_option maxHeartbeats 1000000
set_option pp.maxSteps 1500
set_option pp.deepTerms false
namespace Gk
open PySem PySem.Spec PyProof.Rows L2
/-! ### data of tuples alone: no list that is written can harm it -/
mutual
def noL : PyData → Bool
  | .list _ => false
  | .tuple ds => noLs ds
  | _ => true
def noLs : List PyData → Bool
  | [] => true
  | d :: r => noL d && noLs r
end
def Ts (H H' : Hp) : Prop := ∀ b xs, H b = some (HO.tup xs) → H' b = some (.tup xs)
theorem Ts.refl {H : Hp} : Ts H H := fun _ _ e => e
theorem Ts.trans {H H1 H2 : Hp} (a : Ts H H1) (b : Ts H1 H2) : Ts H H2 := fun c xs e => b c xs (a c xs e)
theorem Ts.same {H H' : Hp} (s : Same H H') : Ts H H' := fun b xs e => s _ _ e
theorem Ts.gr {H H' : Hp} (s : Gr H H') : Ts H H' := fun b xs e => s.tup e
theorem Ts.new {H : Hp} {p : Addr} {o : HO} (h : H p = none) : Ts H (upd H p o) := Ts.same (same_upd h)
theorem Ts.set {H : Hp} {p : Addr} {xs ys : List V} (h : H p = some (.lst xs)) : Ts H (upd H p (.lst ys)) := fun b zs e => by
  rw [upd_ne (ne_of e h (by intro z; cases z))]
  exact e
mutual
theorem Tk.ts {H H' : Hp} (s : Ts H H') : ∀ {v : V} {d : PyData}, Tk H v d → noL d = true → Tk H' v d
  | _, _, .bl b, _ => .bl b
  | _, _, .int i, _ => .int i
  | _, _, .str x, _ => .str x
  | _, _, .lst h t, n => by cases n
  | _, _, .tup h t, n => .tup (s _ _ h) (t.ts s n)
theorem TkAll.ts {H H' : Hp} (s : Ts H H') : ∀ {vs : List V} {ds : List PyData}, TkAll H vs ds → noLs ds = true → TkAll H' vs ds
  | _, _, .nil, _ => .nil
  | _, _, .cons (d := d) (ds := ds) h t, n => by
    have n' : noL d = true ∧ noLs ds = true := Bool.and_eq_true_iff.mp n
    exact .cons (h.ts s n'.1) (t.ts s n'.2)
end
theorem noLs_map {α : Type} {f : α → PyData} (h : ∀ x, noL (f x) = true) : ∀ l : List α, noLs (l.map f) = true
  | [] => rfl
  | x :: r => by
    show (noL (f x) && noLs (r.map f)) = true
    rw [h x, noLs_map h r]
    rfl
theorem noL_row (r : List Int) : noL (rowD r) = true := noLs_map (fun _ => rfl) r
theorem noL_gate (g : Gt) : noL (gD g) = true := by
  show (true && (noLs ((g.2.map Int.ofNat).map PyData.int) && true)) = true
  rw [noLs_map (fun _ => rfl)]
  rfl
theorem noL_gates (gs : List Gt) : noLs (gs.map gD) = true := noLs_map noL_gate gs
theorem noL_net (m : Int) (gs : List Gt) : noL (netD m gs) = true := by
  show (true && (noLs (gs.map gD) && true)) = true
  rw [noL_gates]
  rfl
theorem noL_ch (a b : List Int) : noL (chD a b) = true := by
  show (noL (rowD a) && (noL (rowD b) && true)) = true
  rw [noL_row, noL_row]
  rfl

/-! ### slices and sums of tuples: what is told stands in a heap that has grown -/
theorem cut_all {xs : List V} {lo hi : Option Int} (h : HT.sIx xs.length 0 lo = 0 ∧ HT.sIx xs.length xs.length hi = xs.length) : cutV xs lo hi = xs := by
  unfold cutV
  rw [h.1, h.2, List.drop_zero, Nat.sub_zero, List.take_length]
theorem same_refl {H : Hp} : Same H H := fun _ _ e => e
theorem slA {K : PySem.W.Frag} {a : Addr} {xs : List V} {lo hi : Option Int} {H : Hp} {Q : VK} (h : H a = some (.tup xs)) (q : ∀ p H', Same H H' → H' p = some (.tup (cutV xs lo hi)) → Q (.ref p) H') : rSlA K (.ref a) lo hi H Q :=
  ⟨a, xs, rfl, SqT.of h, fun w => q a H same_refl (by rw [cut_all w]; exact h), fun _ p np => q p _ (same_upd np) upd_same⟩
theorem slAn {K : PySem.W.Frag} {a : Addr} {xs : List V} {lo : Option Int} {H : Hp} {Q : VK} {σ : L2.St} (h : H a = some (.tup xs)) (q : ∀ p H', Same H H' → H' p = some (.tup (cutV xs lo none)) → Q (.ref p) H') : tNoPart σ H (fun u H3 => rSlA K (.ref a) lo u H3 Q) := slA h q
theorem catA {K : PySem.W.Frag} {a b : Addr} {xs ys : List V} {H : Hp} {Q : VK} (ha : H a = some (.tup xs)) (hb : H b = some (.tup ys)) (hl : xs.length + ys.length ≤ sizeLine) (q : ∀ p H', Same H H' → H' p = some (.tup (xs ++ ys)) → Q (.ref p) H') : rCatA K (.ref a) (.ref b) H Q :=
  ⟨a, b, xs, ys, rfl, rfl, SqT.of ha, SqT.of hb, hl, fun e => q b H same_refl (by rw [e]; exact hb), fun _ e => q a H same_refl (by rw [e, List.append_nil]; exact ha), fun _ _ p np => q p _ (same_upd np) upd_same⟩
theorem cut_to {xs : List V} {k : Nat} : cutV xs none (some (k : Int)) = xs.take k := by
  unfold cutV
  rw [HT.sIx_none, HT.sIx_nat, List.drop_zero, Nat.sub_zero]
  apply List.ext_getElem?
  intro i
  rw [List.getElem?_take, List.getElem?_take]
  by_cases h : i < k
  · rw [if_pos h]
    by_cases h2 : i < xs.length
    · rw [if_pos (by omega)]
    · rw [List.getElem?_eq_none (by omega)]
      split <;> rfl
  · rw [if_neg h, if_neg (by omega)]
theorem cut_from {xs : List V} {k : Nat} : cutV xs (some (k : Int)) none = xs.drop k := by
  unfold cutV
  rw [HT.sIx_none, HT.sIx_nat]
  by_cases h : k ≤ xs.length
  · rw [Nat.min_eq_left h]
    exact List.take_of_length_le (by rw [List.length_drop]; exact Nat.le_refl _)
  · rw [Nat.min_eq_right (by omega), Nat.sub_self, List.take_zero, List.drop_eq_nil_of_le (by omega)]
theorem TkAll.take {H : Hp} : ∀ {xs : List V} {ds : List PyData} (k : Nat), TkAll H xs ds → TkAll H (xs.take k) (ds.take k)
  | _, _, 0, _ => by rw [List.take_zero, List.take_zero]; exact .nil
  | _, _, _ + 1, .nil => .nil
  | _, _, k + 1, .cons a t => .cons a (t.take k)
theorem TkAll.drop {H : Hp} : ∀ {xs : List V} {ds : List PyData} (k : Nat), TkAll H xs ds → TkAll H (xs.drop k) (ds.drop k)
  | _, _, 0, t => t
  | _, _, _ + 1, .nil => .nil
  | _, _, k + 1, .cons _ t => t.drop k
theorem set_put {α : Type} {l : List α} {i : Nat} {x : α} (h : i < l.length) : (l.take i ++ [x]) ++ l.drop (i + 1) = l.set i x := by
  rw [List.set_eq_take_append_cons_drop, if_pos h, List.append_assoc]
  rfl
def rJoinK (K : PySem.W.Frag) : V → List V → Hp → VK → Prop := fun x xs H Q => ∃ a p, ∃ ys : List Str, x = .str a ∧ xs = [.ref p] ∧ (SqL K H p (ys.map V.str) ∨ SqT K H p (ys.map V.str)) ∧ (ys.map (·.length)).sum + ys.length * a.length ≤ 16777216 ∧ Q (.str (Txt.join a ys)) H

/-! ### walks over texts -/
theorem lc_str {z : Str} {g : TG} {tt : TT} {te : TE} {vs : List Nat} {σ : L2.St} {H1 : Hp} {D : Addr} {Qd : Hp → Prop} (Pv : Nat → Hp → Prop) (h0 : Pv 0 (upd H1 D (.lst [])))
    (hs : ∀ i x H, z.cps[i]? = some x → Pv i H → g (.str ⟨#[x]⟩) (wipe σ vs) H fun σ2 H2 => wipe σ2 vs = wipe σ vs ∧ tt σ2 H2 fun b H3 =>
      if b = true then te σ2 H3 fun y H4 => ∃ acc, H4 D = some (.lst acc) ∧ acc.length < sizeLine ∧ Pv (i + 1) (upd H4 D (.lst (acc ++ [y]))) else Pv (i + 1) H3) (hd : ∀ H, Pv z.cps.size H → Qd H) :
    ∃ W : Nat → Nat → Hp → Prop, (∃ m, W 0 m (upd H1 D (.lst []))) ∧ ∀ i m H, W i m H →
      ((Its z).stop i H ∧ Qd H) ∨ ((Its z).go i H ∧ ∃ Nx : Hp → Prop, (∀ H', Nx H' → ∃ m', m' < m ∧ W (i + 1) m' H') ∧ ∀ x H', (Its z).yld i H x H' → g x (wipe σ vs) H' fun σ2 H2 => wipe σ2 vs = wipe σ vs ∧ tt σ2 H2 fun b H3 =>
        if b = true then te σ2 H3 fun y H4 => ∃ acc, H4 D = some (.lst acc) ∧ acc.length < sizeLine ∧ Nx (upd H4 D (.lst (acc ++ [y]))) else Nx H3) := by
  refine ⟨fun i m H => m = z.cps.size - i ∧ i ≤ z.cps.size ∧ Pv i H, ⟨z.cps.size, by simp, Nat.zero_le _, h0⟩, ?_⟩
  rintro i m H ⟨rfl, hi, p⟩
  by_cases hlt : i < z.cps.size
  · refine .inr ⟨hlt, Pv (i + 1), fun H' p' => ⟨z.cps.size - (i + 1), by omega, rfl, hlt, p'⟩, fun x H' y => ?_⟩
    obtain ⟨rfl, ch, hc, rfl⟩ := y
    exact hs i ch _ hc p
  · have e : i = z.cps.size := by omega
    subst e
    exact .inl ⟨Nat.le_refl _, hd H p⟩
theorem for_str {z : Str} {g : TG} {tb : TS} {D : Ends} {σ : L2.St} {H : Hp} (Pv : Nat → L2.St → Hp → Prop) (h0 : Pv 0 σ H)
    (hs : ∀ i x σ H, z.cps[i]? = some x → Pv i σ H → g (.str ⟨#[x]⟩) σ H fun σ2 H2 => tb { D with nx := Pv (i + 1), ct := Pv (i + 1), bk := D.nx } σ2 H2) (hd : ∀ σ H, Pv z.cps.size σ H → D.nx σ H) :
    ∃ W : Nat → Nat → L2.St → Hp → Prop, (∃ m, W 0 m σ H) ∧ ∀ i m σ H, W i m σ H →
      ((Its z).stop i H ∧ D.nx σ H) ∨ ((Its z).go i H ∧ ∃ N : L2.St → Hp → Prop, (∀ σ' H', N σ' H' → ∃ m', m' < m ∧ W (i + 1) m' σ' H') ∧ ∀ x H', (Its z).yld i H x H' → g x σ H' fun σ2 H2 => tb { D with nx := N, ct := N, bk := D.nx } σ2 H2) := by
  refine ⟨fun i m σ H => m = z.cps.size - i ∧ i ≤ z.cps.size ∧ Pv i σ H, ⟨z.cps.size, by simp, Nat.zero_le _, h0⟩, ?_⟩
  rintro i m σ H ⟨rfl, hi, p⟩
  by_cases hlt : i < z.cps.size
  · refine .inr ⟨hlt, Pv (i + 1), fun σ' H' p' => ⟨z.cps.size - (i + 1), by omega, rfl, hlt, p'⟩, fun x H' y => ?_⟩
    obtain ⟨rfl, ch, hc, rfl⟩ := y
    exact hs i ch σ _ hc p
  · have e : i = z.cps.size := by omega
    subst e
    exact .inl ⟨Nat.le_refl _, hd σ H p⟩
theorem S_at {p : List Nat} {i x : Nat} (h : (SX.S p).cps[i]? = some x) : p[i]? = some x := by
  have : (SX.S p).cps = p.toArray := rfl
  rw [this, List.getElem?_toArray] at h
  exact h
theorem S_size (p : List Nat) : (SX.S p).cps.size = p.length := by
  show p.toArray.size = _
  simp

section
variable {P : Program} {w : World} {K : PySem.W.Frag} {mg : Str → Option Value} {base : Heap}
/-! ### the deck of k34 to k41: cells from ahead, a number, a count -/
theorem p63 : (0 : Int) < 2147483563 := by decide
def DeckD (H : Hp) (d l : Addr) (n : Int) : Prop := d ≠ l ∧ ∃ (cs : List Int) (y z : Int), H d = some (.lst [.ref l, .int y, .int z]) ∧ H l = some (.lst (cs.map V.int)) ∧ cs.length ≤ 63 ∧ 0 ≤ z ∧ z ≤ n
theorem DeckD.mono {H : Hp} {d l : Addr} {n m : Int} (D : DeckD H d l n) (h : n ≤ m) : DeckD H d l m := by
  obtain ⟨ne, cs, z, y, h1, h2, h3, h4, h5⟩ := D
  exact ⟨ne, cs, z, y, h1, h2, h3, h4, Int.le_trans h5 h⟩
theorem DeckD.same {H H' : Hp} {d l : Addr} {n : Int} (D : DeckD H d l n) (s : Same H H') : DeckD H' d l n := by
  obtain ⟨ne, cs, z, y, hd, hl, r⟩ := D
  exact ⟨ne, cs, z, y, s _ _ hd, s _ _ hl, r⟩
theorem DeckD.gr {H H' : Hp} {d l : Addr} {n : Int} (D : DeckD H d l n) (s : Gr H H') : DeckD H' d l n := by
  obtain ⟨ne, cs, z, y, hd, hl, r⟩ := D
  exact ⟨ne, cs, z, y, s.lst hd, s.lst hl, r⟩
theorem DeckD.upd {H : Hp} {d l p : Addr} {n : Int} {o : HO} (D : DeckD H d l n) (h1 : p ≠ d) (h2 : p ≠ l) : DeckD (upd H p o) d l n := by
  obtain ⟨ne, cs, z, y, hd, hl, r⟩ := D
  exact ⟨ne, cs, z, y, by rw [upd_ne h1.symm]; exact hd, by rw [upd_ne h2.symm]; exact hl, r⟩
theorem DeckD.off {H : Hp} {d l p : Addr} {n : Int} (D : DeckD H d l n) (h : H p = none) : p ≠ d ∧ p ≠ l := by
  obtain ⟨ne, cs, z, y, hd, hl, r⟩ := D
  exact ⟨(ne_of_none hd h).symm, (ne_of_none hl h).symm⟩
theorem Ts.frD {H H' : Hp} {d l : Addr} {n : Int} (D : DeckD H d l n) (f : Fr d l H H') : Ts H H' := fun b xs e => by
  obtain ⟨ne, cs, z, y, hd, hl, r⟩ := D
  exact f b _ (ne_of e hd (by intro z; cases z)) (ne_of e hl (by intro z; cases z)) e
theorem tab_frD {H H' : Hp} {d l P : Addr} {n : Int} (D : DeckD H d l n) (f : Fr d l H H') (t : GxR.TabG H P) : GxR.TabG H' P := by
  obtain ⟨ps, e, tr⟩ := t
  obtain ⟨ne, cs, z, y, hd, hl, r⟩ := D
  exact ⟨ps, f _ _ (ne_of e hd (by intro z; cases z)) (ne_of e hl (by intro z; cases z)) e, tr⟩
theorem none_of_frD {d l p : Addr} {H H' : Hp} {n : Int} (f : Fr d l H H') (D : DeckD H' d l n) (h : H' p = none) : H p = none := by
  have o := D.off h
  cases z : H p with
  | none => rfl
  | some u => rw [f _ _ o.1 o.2 z] at h; cases h
theorem cut63 {ns : List Int} (h : ns.length ≤ 63) : cutV (ns.map V.int) none (some 63) = ns.map V.int := by
  unfold cutV
  have e : HT.sIx (ns.map V.int).length (ns.map V.int).length (some 63) = min 63 (ns.map V.int).length := HT.sIx_nat _ _ 63
  rw [HT.sIx_none, e, List.length_map, List.drop_zero]
  apply List.take_of_length_le
  rw [List.length_map]
  omega
theorem sq_same {K : PySem.W.Frag} {H H' : Hp} {a : Addr} {xs : List V} (s : Same H H') (h : SqL K H a xs) : SqL K H' a xs := h.imp (fun r => r.imp (fun e => s _ _ e) (fun ⟨ob, e⟩ => ⟨ob, s _ _ e⟩)) id
def sp_deck (K : PySem.W.Frag) : Sp := fun vs H Q _ => ∃ (a : Addr) (ns : List Int), vs = [.ref a] ∧ SqL K H a (ns.map V.int) ∧ ns.length ≤ 63 ∧ ∀ H' d l, Same H H' → DeckD H' d l 0 → Q (.ref d) H'
theorem ok_deck (T : Tx K mg) : FnOk P w K mg base CX0 1 T.f_deck T.fd_deck ["_law_script"] (sp_deck K) := by
  refine T.F_deck.ok sc_deck (fun vs H Q E h => ?_) (fun cdv A outer s H vs Q E hr h => ?_)
  · obtain ⟨a, ns, rfl, _⟩ := h
    rfl
  · obtain ⟨a, ns, rfl, hS, hlen, q⟩ := h
    refine ⟨_, (pss_one (ps_ret (pe_lst (pa_cons (pe_callTy call_list_of (by rfl) T.m_list (by decide +kernel) (pa_cons (pe_slice sl_list (pv 0) po_none (po_some pe_int)) pa_nil)) (pa_cons (pe_op op_add pe_int (pe_op op_mod (pe_callB (cr_sum rfl) (by rfl) T.m_sum (by decide +kernel) (pa_cons (pe_slice sl_list (pv 0) po_none (po_some pe_int)) pa_nil)) pe_int)) (pa_cons pe_int pa_nil)))))), ?_⟩
    refine ⟨.ref a, rfl, 63, rfl, a, _, rfl, hS, fun c1 n1 => ?_⟩
    rw [cut63 hlen]
    have s1 := same_upd (o := HO.lst (ns.map V.int)) n1
    refine ⟨c1, _, rfl, .inl (SqL.of upd_same), fun l nl => ?_⟩
    have s2 := same_upd (o := HO.lst (ns.map V.int)) nl
    refine ⟨.ref a, rfl, 63, rfl, a, _, rfl, sq_same (s1.trans s2) hS, fun c3 n3 => ?_⟩
    rw [cut63 hlen]
    have s3 := same_upd (o := HO.lst (ns.map V.int)) n3
    refine ⟨c3, ns, rfl, SqL.of upd_same, _, _, rfl, rfl, p29, _, _, rfl, rfl, sl3, fun d nd => ?_⟩
    have s5 := same_upd (o := HO.lst [V.ref l, V.int (48271 + ns.sum % 2147483629), V.int 0]) nd
    have hl4 := s3 _ _ (show (upd (upd H c1 (.lst (ns.map V.int))) l (.lst (ns.map V.int))) l = _ from upd_same)
    exact q _ d l (((s1.trans s2).trans s3).trans s5) ⟨(ne_of_none hl4 nd).symm, ns, _, 0, upd_same, s5 _ _ hl4, hlen, Int.le_refl _, Int.le_refl _⟩
/-! ### a draw -/
theorem at0 (c : Int) (r : List Int) : atI ((c :: r).map V.int) 0 = some (.int c) := by
  rw [List.map_cons]
  exact atI_nat (j := 0) rfl
theorem ixN0 (c : Int) (r : List Int) : ixN ((c :: r).map V.int).length 0 = some 0 := by
  unfold ixN
  rw [if_pos (by decide), if_pos (by rw [List.length_map, List.length_cons]; omega)]
  rfl
theorem ne_list (cs : List Int) : (!PyData.eqv (.list (cs.map PyData.int)) (.list [])) = !cs.isEmpty := by cases cs <;> rfl
def sp_draw (K : PySem.W.Frag) : Sp := fun vs H Q _ => ∃ (d l : Addr) (m n : Int), vs = [.ref d, .int m] ∧ DeckD H d l n ∧ n < 1000000000 ∧ 0 < m ∧ m < 1073741824 ∧ ∀ H' v, DeckD H' d l (n + 1) → Fr d l H H' → 0 ≤ v → v < m → Q (.int v) H'
theorem ok_draw (T : Tx K mg) : FnOk P w K mg base CX0 1 T.f_draw T.fd_draw ["_law_deck_here", "_law_most"] (sp_draw K) := by
  refine T.F_draw.ok sc_draw (fun vs H Q E h => ?_) (fun cdv A outer s H vs Q E hr h => ?_)
  · obtain ⟨d, l, m, n, rfl, _⟩ := h
    rfl
  · obtain ⟨d, l, m, n, rfl, D, hn, hm0, hm1, q⟩ := h
    obtain ⟨ne, cs, y, z, hd, hl, hcs, hz0, hz1⟩ := D
    refine ⟨_, (pss_cons (ps_set (i := 2) sc_draw.nd rfl (by first | exact .inl rfl | exact .inr rfl) (pe_ix ix_list (pv 0) pe_int (fun _ _ => rfl))) (pss_cons (ps_if (pt_cut (pw_and (pt_cmpR (op_neD hr.units) (pv 2) (pe_lst pa_nil) (nomark _)) (pw_and1 (pt_cmpR op_ge (pe_ix ix_list (pv 2) pe_int (fun _ _ => rfl)) (pe_op op_pow pe_int pe_int) (nomark _)))).pt) (pss_cons (ps_set (i := 3) sc_draw.nd rfl (by first | exact .inl rfl | exact .inr rfl) (pe_op op_mod (pe_ix ix_list (pv 2) pe_int (fun _ _ => rfl)) (pv 1))) (pss_cons (ps_asg (pe_op op_fdiv (pe_ix ix_list (pv 2) pe_int (fun _ _ => rfl)) (pv 1)) (pg_sub (pv 2) pe_int set_list)) (pss_one (ps_ret (pv 3))))) pss_nil) (pss_cons (ps_asg (pe_op op_add (pe_ix ix_list (pv 0) pe_int (fun _ _ => rfl)) pe_int) (pg_sub (pv 0) pe_int set_list)) (pss_cons (ps_set (i := 4) sc_draw.nd rfl (by first | exact .inl rfl | exact .inr rfl) (pe_ix ix_list (pv 0) pe_int (fun _ _ => rfl))) (C8.pss_cut (ps_if (pt_cmpR (op_neD hr.units) (pv 2) (pe_lst pa_nil) (nomark _)) (pss_one (ps_set (i := 4) sc_draw.nd rfl (by first | exact .inl rfl | exact .inr rfl) (pe_op op_add (pv 4) (pe_bm PySem.F.plainAttrs_list PySem.F.slot_list_pop PySem.F.type_list_pop mt_popAt (pv 2) (pa_cons pe_int pa_nil))))) pss_nil) (pss_cons (ps_set (i := 5) sc_draw.nd rfl (by first | exact .inl rfl | exact .inr rfl) (pe_op op_mod (pe_op op_add (pe_op op_add (pe_op op_mul (pe_op op_mod (pv 4) pe_int) pe_int) (pe_op op_mul pe_int (pe_ix ix_list (pv 0) pe_int (fun _ _ => rfl)))) pe_int) pe_int)) (pss_cons (ps_set (i := 5) sc_draw.nd rfl (by first | exact .inl rfl | exact .inr rfl) (pe_op op_mod (pe_op op_add (pe_op op_add (pe_op op_mul (pv 5) (pv 5)) (pe_op op_mul pe_int (pv 5))) (pe_ix ix_list (pv 0) pe_int (fun _ _ => rfl))) pe_int)) (pss_cons (ps_asg (pv 5) (pg_sub (pv 0) pe_int set_list)) (pss_one (ps_ret (pe_op op_mod (pe_op op_fdiv (pe_op op_mod (pe_op op_mul (pv 5) (pe_op op_add (pv 5) pe_int)) pe_int) pe_int) (pv 1)))))))))))), ?_⟩
    refine ⟨.ref d, rfl, d, _, 0, .ref l, rfl, rfl, SqL.of hd, rfl, ?_⟩
    refine ⟨fun b H' => Fr d l H H' ∧ H' d = some (.lst [.ref l, .int y, .int z]) ∧ H' l = some (.lst (cs.map V.int)) ∧ (b = true → ∃ c r, cs = c :: r), ?_, ?_⟩
    · refine ⟨.ref l, rfl, Nat.zero_le _, fun p np => ?_⟩
      have fr2 : Fr d l H (upd H p (.lst [])) := Fr.new np
      have hd2 : (upd H p (.lst [])) d = some (.lst [.ref l, .int y, .int z]) := same_upd np _ _ hd
      have hl2 : (upd H p (.lst [])) l = some (.lst (cs.map V.int)) := same_upd np _ _ hl
      refine ⟨.list (cs.map .int), .list [], .lst (SqL.of hl2) (dpInts cs), .lst (SqL.of upd_same) .nil, shInts cs, rfl, _, rfl, ?_⟩
      rw [ne_list]
      cases cs with
      | nil => exact iteF ⟨fr2, hd2, hl2, fun e => by cases e⟩
      | cons c r =>
        refine iteT ?_
        refine ⟨.ref l, rfl, l, _, 0, .int c, rfl, rfl, SqL.of hl2, at0 _ _, _, _, rfl, rfl, ⟨by decide, by decide, by decide⟩, _, _, rfl, rfl, _, rfl, ?_⟩
        exact ⟨fr2, hd2, hl2, fun _ => ⟨c, r, rfl⟩⟩
    · rintro b H1 ⟨fr1, hd1, hl1, hb⟩
      cases b with
      | true =>
        obtain ⟨c, r, rfl⟩ := hb rfl
        refine iteT ?_
        refine ⟨.ref l, rfl, l, _, 0, .int c, rfl, rfl, SqL.of hl1, at0 _ _, .int m, rfl, _, _, rfl, rfl, hm0, ?_⟩
        refine ⟨.ref l, rfl, l, _, 0, .int c, rfl, rfl, SqL.of hl1, at0 _ _, .int m, rfl, _, _, rfl, rfl, ⟨hm0, hm1⟩, .ref l, rfl, l, _, 0, 0, rfl, rfl, hl1, ixN0 _ _, ?_⟩
        refine ⟨.int (c % m), rfl, ?_⟩
        exact q _ _ ⟨ne, c / m :: r, y, z, by rw [upd_ne ne]; exact hd1, upd_same, hcs, hz0, by omega⟩ (fr1.trans Fr.l) (Int.emod_nonneg _ (by omega)) (Int.emod_lt_of_pos _ hm0)
      | false =>
        refine iteF ?_
        refine ⟨.ref d, rfl, d, _, 2, .int z, rfl, rfl, SqL.of hd1, rfl, z, 1, rfl, rfl, .ref d, rfl, d, _, 2, 2, rfl, rfl, hd1, rfl, ?_⟩
        have hd2 : (upd H1 d (.lst [.ref l, .int y, .int (z + 1)])) d = some (.lst [.ref l, .int y, .int (z + 1)]) := upd_same
        have hl2 : (upd H1 d (.lst [.ref l, .int y, .int (z + 1)])) l = some (.lst (cs.map V.int)) := by rw [upd_ne ne.symm]; exact hl1
        have fr2 : Fr d l H (upd H1 d (.lst [.ref l, .int y, .int (z + 1)])) := fr1.trans Fr.d
        have hz2 : 0 ≤ z + 1 := by omega
        have hz3 : z + 1 ≤ n + 1 := by omega
        have hz4 : z + 1 < 2000000000 := by omega
        show tSeq _ _ _ _ (upd H1 d (.lst [.ref l, .int y, .int (z + 1)]))
        revert hd2 hl2 fr2 hz2 hz3 hz4
        generalize upd H1 d (.lst [.ref l, .int y, .int (z + 1)]) = H2
        generalize z + 1 = z'
        intro hd2 hl2 fr2 hz2 hz3 hz4
        refine ⟨.ref d, rfl, d, _, 1, .int y, rfl, rfl, SqL.of hd2, rfl, ?_⟩
        refine ⟨fun σ H' => ∃ (x : Int) (cs : List Int), σ = [some (.ref d), some (.int m), some (.ref l), none, some (.int x), none] ∧ cs.length ≤ 63 ∧ H' d = some (.lst [.ref l, .int y, .int z']) ∧ H' l = some (.lst (cs.map V.int)) ∧ Fr d l H H', ?_, ?_⟩
        · refine ⟨.ref l, rfl, Nat.zero_le _, fun p np => ?_⟩
          have fr3 : Fr d l H (upd H2 p (.lst [])) := fr2.trans (Fr.new np)
          have hd3 : (upd H2 p (.lst [])) d = some (.lst [.ref l, .int y, .int z']) := same_upd np _ _ hd2
          have hl3 : (upd H2 p (.lst [])) l = some (.lst (cs.map V.int)) := same_upd np _ _ hl2
          refine ⟨.list (cs.map .int), .list [], .lst (SqL.of hl3) (dpInts cs), .lst (SqL.of upd_same) .nil, shInts cs, rfl, _, rfl, ?_⟩
          rw [ne_list]
          revert fr3 hd3 hl3
          generalize upd H2 p (.lst []) = H3
          intro fr3 hd3 hl3
          cases cs with
          | nil => exact iteF ⟨y, [], rfl, hcs, hd3, hl3, fr3⟩
          | cons c r =>
            refine iteT ?_
            have hr63 : r.length + 1 ≤ 63 := hcs
            refine ⟨.int y, rfl, .ref l, rfl, .inl ⟨rfl, _, SqL.of hl3⟩, l, _, 0, 0, .int c, rfl, rfl, hl3, by decide, by decide, seqIx0 _ _, rfl, _, _, rfl, rfl, ?_⟩
            exact ⟨_, r, rfl, by omega, by rw [upd_ne ne]; exact hd3, upd_same, fr3.trans Fr.l⟩
        · rintro σ H3 ⟨x, cs3, rfl, hcs3, hd3, hl3, fr3⟩
          have u0 := Int.emod_nonneg x (show (2147483629 : Int) ≠ 0 by decide)
          have u1 := Int.emod_lt_of_pos x (show (0 : Int) < 2147483629 by decide)
          refine ⟨.int x, rfl, _, _, rfl, rfl, p29, x % 2147483629, 48271, rfl, rfl, .inl ⟨by omega, by omega⟩, .ref d, rfl, d, _, 2, .int z', rfl, rfl, SqL.of hd3, rfl, 69621, z', rfl, rfl, .inl ⟨by decide, by decide⟩, _, _, rfl, rfl, _, _, rfl, rfl, _, _, rfl, rfl, p47, ?_⟩
          dsimp only
          have v0 := Int.emod_nonneg (x % 2147483629 * 48271 + 69621 * z' + 7919) (show (2147483647 : Int) ≠ 0 by decide)
          have v1 := Int.emod_lt_of_pos (x % 2147483629 * 48271 + 69621 * z' + 7919) (show (0 : Int) < 2147483647 by decide)
          revert v0 v1
          generalize (x % 2147483629 * 48271 + 69621 * z' + 7919) % 2147483647 = v
          intro v0 v1
          refine ⟨.int v, rfl, .int v, rfl, v, v, rfl, rfl, .inl ⟨by omega, by omega⟩, .int v, rfl, 39373, v, rfl, rfl, .inl ⟨by decide, by decide⟩, _, _, rfl, rfl, .ref d, rfl, d, _, 2, .int z', rfl, rfl, SqL.of hd3, rfl, _, _, rfl, rfl, _, _, rfl, rfl, p87, ?_⟩
          dsimp only
          have t0 := Int.emod_nonneg (v * v + 39373 * v + z') (show (2147483587 : Int) ≠ 0 by decide)
          have t1 := Int.emod_lt_of_pos (v * v + 39373 * v + z') (show (0 : Int) < 2147483587 by decide)
          revert t0 t1
          generalize (v * v + 39373 * v + z') % 2147483587 = t
          intro t0 t1
          refine ⟨.int t, rfl, .ref d, rfl, d, _, 1, 1, rfl, rfl, hd3, rfl, ?_⟩
          refine ⟨.int t, rfl, .int t, rfl, _, _, rfl, rfl, t, t + 16807, rfl, rfl, .inl ⟨by omega, by omega⟩, _, _, rfl, rfl, p63, _, _, rfl, rfl, ⟨by decide, by decide⟩, .int m, rfl, _, _, rfl, rfl, hm0, ?_⟩
          exact q _ _ ⟨ne, cs3, t, z', upd_same, by rw [upd_ne ne.symm]; exact hl3, hcs3, hz2, hz3⟩ (fr3.trans Fr.d) (Int.emod_nonneg _ (by omega)) (Int.emod_lt_of_pos _ hm0)

/-! ### how many, rows -/
theorem at2i (b : Bool) (i j : Int) : atI [V.int i, .int j] (if b = true then 1 else 0) = some (.int (if b = true then j else i)) := by cases b <;> rfl
theorem Fr.upd {d l p : Addr} {H H' : Hp} {o : HO} (f : Fr d l H H') (h : H p = none) : Fr d l H (upd H' p o) := fun b u h1 h2 e => by
  rw [upd_ne (ne_of_none e h)]
  exact f b u h1 h2 e
def sp_many (K : PySem.W.Frag) : Sp := fun vs H Q _ => ∃ (d l : Addr) (n : Int), vs = [.ref d] ∧ DeckD H d l n ∧ n < 900000 ∧ ∀ (m : Nat) (H' : Hp), DeckD H' d l (n + 2) → Fr d l H H' → 1 ≤ m → m ≤ 6 → Q (.int m) H'
theorem ok_many (T : Tx K mg) : FnOk P w K mg base CX0 2 T.f_many T.fd_many ["_law_deck_here"] (sp_many K) := by
  refine T.F_many.ok sc_many (fun vs H Q E h => ?_) (fun cdv A outer s H vs Q E hr h => ?_)
  · obtain ⟨d, l, n, rfl, _⟩ := h
    rfl
  · obtain ⟨d, l, n, rfl, D, hn, q⟩ := h
    refine ⟨_, (pss_cons (ps_set (i := 1) sc_many.nd rfl (by first | exact .inl rfl | exact .inr rfl) (pe_call (ok_draw T) (hr.mono (by decide)) (by rfl) T.g_draw T.F_draw.kp T.b_draw .nil pass0 (pa_cons (pv 0) (pa_cons pe_int pa_nil)))) (pss_cons (ps_if (pt_cmpR op_gt (pv 1) pe_int (nomark _)) (pss_one (ps_ret pe_int)) pss_nil) (pss_one (ps_ret (pe_op op_add (pe_ix ix_list (pe_lst (pa_cons pe_int (pa_cons pe_int pa_nil))) (pe_callTy call_int1 (by rfl) T.m_int (by decide +kernel) (pa_cons (pe_cmpR op_gt (pv 1) pe_int (nomark _)) pa_nil)) (fun _ _ => rfl)) (pe_call (ok_draw T) (hr.mono (by decide)) (by rfl) T.g_draw T.F_draw.kp T.b_draw .nil pass0 (pa_cons (pv 0) (pa_cons (pe_ix ix_list (pe_lst (pa_cons pe_int (pa_cons pe_int pa_nil))) (pe_callTy call_int1 (by rfl) T.m_int (by decide +kernel) (pa_cons (pe_cmpR op_gt (pv 1) pe_int (nomark _)) pa_nil)) (fun _ _ => rfl)) pa_nil)))))))), ?_⟩
    refine ⟨.ref d, rfl, d, l, 8, _, rfl, D, by omega, by decide, by decide, fun H1 x D1 fr1 x0 x1 => ?_⟩
    refine ⟨.int x, rfl, _, _, rfl, rfl, _, rfl, ite2 (fun _ => ?_) (fun _ => ?_)⟩
    · exact q 6 H1 (D1.mono (by omega)) fr1 (by decide) (by decide)
    · refine ⟨sl2, fun p np => ⟨.int x, rfl, _, _, rfl, rfl, .inr ⟨_, rfl, p, _, _, _, rfl, rfl, SqL.of upd_same, at2i _ _ _, .ref d, rfl, sl2, fun p2 np2 => ⟨.int x, rfl, _, _, rfl, rfl, .inr ⟨_, rfl, p2, _, _, _, rfl, rfl, SqL.of upd_same, at2i _ _ _, ?_⟩⟩⟩⟩⟩
      generalize decide (x > 2) = b
      have s1 := same_upd (o := HO.lst [V.int 1, V.int 3]) np
      have s2 := same_upd (o := HO.lst [V.int 4, V.int 3]) np2
      refine ⟨d, l, _, _, rfl, (D1.same s1).same s2, by omega, by cases b <;> decide, by cases b <;> decide, fun H3 y D3 fr3 y0 y1 => ⟨_, _, rfl, rfl, ?_⟩⟩
      obtain ⟨k, rfl⟩ := Int.eq_ofNat_of_zero_le y0
      have e : ((if b = true then 3 else 1 : Int) + (k : Int)) = (((if b = true then 3 else 1) + k : Nat) : Int) := by cases b <;> rfl
      show Q (.int ((if b = true then 3 else 1 : Int) + (k : Int))) H3
      rw [e]
      refine q _ H3 (D3.mono (by omega)) (fr1.trans ((Fr.of s1).trans ((Fr.of s2).trans fr3))) ?_ ?_
      · cases b
        · show 1 ≤ 1 + k; omega
        · show 1 ≤ 3 + k; omega
      · cases b
        · have : (k : Int) < 4 := y1
          show 1 + k ≤ 6; omega
        · have : (k : Int) < 3 := y1
          show 3 + k ≤ 6; omega
def sp_row (K : PySem.W.Frag) : Sp := fun vs H Q _ => ∃ (d l : Addr) (n : Int) (m : Nat), vs = [.ref d, .int m] ∧ DeckD H d l n ∧ n < 900000 ∧ m ≤ 6 ∧ ∀ (p : Addr) (bs : List Int) (H' : Hp), DeckD H' d l (n + m) → Fr d l H H' → bs.length = m → (∀ b ∈ bs, b = 0 ∨ b = 1) → H' p = some (.tup (bs.map V.int)) → Q (.ref p) H'
theorem ok_row (T : Tx K mg) : FnOk P w K mg base CX0 2 T.f_row T.fd_row ["_law_deck_here", "_law_many_here"] (sp_row K) := by
  refine T.F_row.ok sc_row (fun vs H Q E h => ?_) (fun cdv A outer s H vs Q E hr h => ?_)
  · obtain ⟨d, l, n, m, rfl, _⟩ := h
    rfl
  · obtain ⟨d, l, n, m, rfl, D, hn, hm, q⟩ := h
    refine ⟨_, (pss_one (ps_ret (pe_callTy call_tuple_of (by rfl) T.m_tuple (by decide +kernel) (pa_cons (pe_lc (own := [("_law_k", 2)]) (by rfl) sc_row.nd (pi_range1 (by rfl) T.m_range (pa_cons (pv 1) pa_nil)) (blkOk_by (own := [("_law_k", 2)]) (N := ["_law_deck_here", "_law_many_here", "_law_k"]) (sc := defScope s_row) (by decide +kernel)) (fun _ _ _ _ _ => (pg_name (i := 2) sc_row.nd rfl (by first | exact .inl rfl | exact .inr rfl))) (fun _ _ _ _ _ => pts_nil) (fun _ _ _ _ _ => (pe_call (ok_draw T) (hr.mono (by decide)) (by rfl) T.g_draw T.F_draw.kp T.b_draw .nil pass0 (pa_cons (pv 0) (pa_cons pe_int pa_nil))))) pa_nil)))), ?_⟩
    refine ⟨.int m, rfl, m, rfl, by omega, by omega, fun I nI => ?_⟩
    have oI := D.off nI
    refine lc_range (lo := 0) (n := (m : Int).toNat) (fun j H' => DeckD H' d l (n + j) ∧ Fr d l H H' ∧ ∃ bs : List Int, H' I = some (.lst (bs.map V.int)) ∧ bs.length = j ∧ ∀ b ∈ bs, b = 0 ∨ b = 1)
      ⟨(D.same (same_upd nI)).mono (by omega), Fr.new nI, [], upd_same, rfl, fun x hx => by cases hx⟩ ?_ ?_
    · rintro j H2 hj ⟨D2, fr2, bs, hI, lb, okb⟩
      have hj' : j < m := by simpa using hj
      refine ⟨rfl, .ref d, rfl, d, l, 2, _, rfl, D2, by omega, by decide, by decide, fun H3 x D3 fr3 x0 x1 => ?_⟩
      have hI3 := fr3 _ _ oI.1 oI.2 hI
      refine ⟨_, hI3, ?_, (D3.upd oI.1 oI.2).mono (by push_cast; omega), Fr.upd (fr2.trans fr3) nI, bs ++ [x], ?_, by rw [List.length_append, lb]; rfl, fun y hy => ?_⟩
      · rw [List.length_map, lb]
        exact Nat.lt_of_lt_of_le (show j < 64 by omega) (by decide)
      · rw [upd_same, List.map_append]
        rfl
      · rcases List.mem_append.mp hy with z | z
        · exact okb y z
        · rw [List.mem_singleton.mp z]; omega
    · rintro H2 ⟨D2, fr2, bs, hI, lb, okb⟩
      have lb' : bs.length = m := by rw [lb]; simp
      refine ⟨I, _, rfl, .inl ⟨SqL.of hI, fun ti nti => ?_⟩⟩
      have s2 := same_upd (o := HO.tup (bs.map V.int)) nti
      exact q ti bs _ ((D2.same s2).mono (by simp)) (fr2.trans (Fr.of s2)) lb' okb upd_same

/-! ### products -/
def one (c : Nat) : Str := SX.S [c]
theorem one_len (c : Nat) : (one c).length = 1 := rfl
theorem joinL_nil : ∀ l : List (List Nat), TL.joinL [] l = l.flatten
  | [] => rfl
  | [p] => by simp [TL.joinL]
  | p :: q :: r => by
    show p ++ ([] ++ TL.joinL [] (q :: r)) = _
    rw [joinL_nil (q :: r)]
    rfl
theorem join_one (cs : List Nat) : Txt.join (Str.ofString "") (cs.map one) = SX.S cs := by
  have e : cs.map one = (cs.map fun c => [c]).map SX.S := by rw [List.map_map]; rfl
  have z : Str.ofString "" = SX.S [] := by decide +kernel
  rw [e, z, SX.join_S, joinL_nil]
  have : (cs.map fun c => [c]).flatten = cs := by
    clear e z
    induction cs with
    | nil => rfl
    | cons b r ih => rw [List.map_cons, List.flatten_cons, ih]; rfl
  rw [this]
theorem ones_sum (cs : List Nat) : ((cs.map one).map (·.length)).sum = cs.length := by
  induction cs with
  | nil => rfl
  | cons b r ih =>
    rw [List.map_cons, List.map_cons, List.sum_cons, ih, List.length_cons, one_len]
    omega
theorem join_fit {cs : List Nat} (h : cs.length ≤ 64) : ((cs.map one).map (·.length)).sum + (cs.map one).length * (Str.ofString "").length ≤ 16777216 := by
  rw [ones_sum]
  show cs.length + (cs.map one).length * 0 ≤ _
  omega
def SgOk (c : Nat) : Prop := c = 45 ∨ c = 48 ∨ c = 49
def ProdOk (m : Nat) (p : List Nat) : Prop := p.length = m ∧ ∀ c ∈ p, SgOk c
theorem dash_S : Str.ofString "-" = one 45 := by decide +kernel
theorem s8_S : Str.ofString "01-01---" = SX.S [48, 49, 45, 48, 49, 45, 45, 45] := by decide +kernel
theorem it8 : ∀ k : Nat, k < 8 → ∃ c, (SX.S [48, 49, 45, 48, 49, 45, 45, 45]).cps[k]? = some c ∧ SgOk c := by
  intro k h
  rcases k with _ | _ | _ | _ | _ | _ | _ | _ | k
  · exact ⟨48, rfl, .inr (.inl rfl)⟩
  · exact ⟨49, rfl, .inr (.inr rfl)⟩
  · exact ⟨45, rfl, .inl rfl⟩
  · exact ⟨48, rfl, .inr (.inl rfl)⟩
  · exact ⟨49, rfl, .inr (.inr rfl)⟩
  · exact ⟨45, rfl, .inl rfl⟩
  · exact ⟨45, rfl, .inl rfl⟩
  · exact ⟨45, rfl, .inl rfl⟩
  · omega
theorem at6 {x : Int} (h0 : 0 ≤ x) (h1 : x < 6) : ∃ v : Int, atI [V.int 6, .int 4, .int 3, .int 8, .int 8, .int 5] x = some (.int v) ∧ 0 < v ∧ v ≤ 8 := by
  obtain ⟨k, rfl⟩ := Int.eq_ofNat_of_zero_le h0
  have hk : k < 6 := by omega
  rcases k with _ | _ | _ | _ | _ | _ | k
  · exact ⟨6, rfl, by decide, by decide⟩
  · exact ⟨4, rfl, by decide, by decide⟩
  · exact ⟨3, rfl, by decide, by decide⟩
  · exact ⟨8, rfl, by decide, by decide⟩
  · exact ⟨8, rfl, by decide, by decide⟩
  · exact ⟨5, rfl, by decide, by decide⟩
  · omega
theorem mul_dash {m : Nat} (h1 : 1 ≤ m) (h6 : m ≤ 6) : Txt.mul (one 45) (m : Int) = SX.S (List.replicate m 45) := by
  rcases m with _ | _ | _ | _ | _ | _ | _ | m
  · omega
  all_goals first | decide +kernel | omega
def wS (b : Int) : Nat := if b = 1 then 49 else 48
theorem str01 {b : Int} (h : b = 0 ∨ b = 1) : (toString b : Str) = one (wS b) := by
  rcases h with rfl | rfl <;> decide +kernel
def rRepS : V → V → Hp → VK → Prop := fun x y H Q => ∃ (z : Str) (n : Int), x = .str z ∧ y = .int n ∧ z.length ≤ 16 ∧ 0 ≤ n ∧ n ≤ 1048576 ∧ Q (.str (Txt.mul z n)) H
theorem op_repS {X : Cx} : OpR X (binaryOp .Mult) rRepS := by
  intro pins s σ H x y v u Q I rx ry h
  obtain ⟨i, j, rfl, rfl, h1, h2, h3, q⟩ := h
  obtain ⟨t, rfl⟩ := rx
  obtain ⟨t', rfl⟩ := ry
  exact SB.mul (mulOk_of 16 1048576 h1 h3 (by omega) (by decide) (by decide)) fun t' tk => ⟨.str _, H, I.tok _, ⟨_, rfl⟩, q⟩
def sp_product (K : PySem.W.Frag) : Sp := fun vs H Q _ => ∃ (d l : Addr) (n : Int) (m : Nat), vs = [.ref d, .int m] ∧ DeckD H d l n ∧ n < 800000 ∧ 1 ≤ m ∧ m ≤ 6 ∧ ∀ (p : List Nat) (H' : Hp), DeckD H' d l (n + 8) → Fr d l H H' → ProdOk m p → Q (.str (SX.S p)) H'
theorem ok_product (T : Tx K mg) : FnOk P w K mg base CX0 3 T.f_product T.fd_product ["_law_deck_here", "_law_many_here"] (sp_product K) := by
  refine T.F_product.ok sc_product (fun vs H Q E h => ?_) (fun cdv A outer s H vs Q E hr h => ?_)
  · obtain ⟨d, l, n, m, rfl, _⟩ := h
    rfl
  · obtain ⟨d, l, n, m, rfl, D, hn, m1, m6, q⟩ := h
    refine ⟨_, (pss_cons (ps_set (i := 2) sc_product.nd rfl (by first | exact .inl rfl | exact .inr rfl) (pe_call (ok_draw T) (hr.mono (by decide)) (by rfl) T.g_draw T.F_draw.kp T.b_draw .nil pass0 (pa_cons (pv 0) (pa_cons pe_int pa_nil)))) (pss_cons (ps_if (pt_cmpR op_eq (pv 2) pe_int (nomark _)) (pss_one (ps_ret (pe_join pe_str (pe_lc (own := [("_law_worth", 4)]) (by rfl) sc_product.nd (pi_tup (pe_call (ok_row T) (hr.mono (by decide)) (by rfl) T.g_row T.F_row.kp T.b_row .nil pass0 (pa_cons (pv 0) (pa_cons (pv 1) pa_nil)))) (blkOk_by (own := [("_law_worth", 4)]) (N := ["_law_deck_here", "_law_many_here", "_law_way", "_law_k", "_law_worth"]) (sc := defScope s_product) (by decide +kernel)) (fun _ _ _ _ _ => (pg_name (i := 4) sc_product.nd rfl (by first | exact .inl rfl | exact .inr rfl))) (fun _ _ _ _ _ => pts_nil) (fun _ _ _ _ _ => (pe_callTy call_str_int (by rfl) T.m_str (by decide +kernel) (pa_cons (pv 4) pa_nil))))))) pss_nil) (pss_cons (ps_if (pt_cut (pw_and (pt_cmpR op_eq (pv 2) pe_int (nomark _)) (pw_and1 (pt_cmpR op_eq (pe_call (ok_draw T) (hr.mono (by decide)) (by rfl) T.g_draw T.F_draw.kp T.b_draw .nil pass0 (pa_cons (pv 0) (pa_cons pe_int pa_nil))) pe_int (nomark _)))).pt) (pss_one (ps_ret (pe_op op_repS pe_str (pv 1)))) pss_nil) (pss_one (ps_ret (pe_join pe_str (pe_lc (own := [("_law_k", 3)]) (by rfl) sc_product.nd (pi_range1 (by rfl) T.m_range (pa_cons (pv 1) pa_nil)) (blkOk_by (own := [("_law_k", 3)]) (N := ["_law_deck_here", "_law_many_here", "_law_way", "_law_k", "_law_worth"]) (sc := defScope s_product) (by decide +kernel)) (fun _ _ _ _ _ => (pg_name (i := 3) sc_product.nd rfl (by first | exact .inl rfl | exact .inr rfl))) (fun _ _ _ _ _ => pts_nil) (fun _ _ _ _ _ => (pe_item_str pe_str (pe_call (ok_draw T) (hr.mono (by decide)) (by rfl) T.g_draw T.F_draw.kp T.b_draw .nil pass0 (pa_cons (pv 0) (pa_cons (pe_ix (show IxR _ (rIxL K) from ix_list) (pe_lst (pa_cons pe_int (pa_cons pe_int (pa_cons pe_int (pa_cons pe_int (pa_cons pe_int (pa_cons pe_int pa_nil))))))) (pv 2) (fun _ _ => rfl)) pa_nil))) (fun _ _ => rfl)))))))))), ?_⟩
    refine ⟨.ref d, rfl, d, l, 6, _, rfl, D, by omega, by decide, by decide, fun H1 x D1 fr1 x0 x1 => ?_⟩
    refine ⟨.int x, rfl, rfl, _, rfl, ite2 (fun _ => ?_) (fun _ => ?_)⟩
    · refine ⟨⟨_, rfl⟩, .ref d, rfl, .int m, rfl, d, l, _, m, rfl, D1, by omega, m6, fun p bs H2 D2 fr2 lb okb hp => ?_⟩
      refine ⟨p, rfl, ⟨_, SqT.of hp⟩, fun L nL => ?_⟩
      have oL := D2.off nL
      have npL : p ≠ L := ne_of_none hp nL
      refine lc_tup (K := K) (a := p) (xs := bs.map V.int) (fun j H' => DeckD H' d l (n + 7) ∧ Fr d l H H' ∧ H' p = some (.tup (bs.map V.int)) ∧ H' L = some (.lst ((((bs.take j).map wS).map one).map V.str)))
        ⟨(D2.same (same_upd nL)).mono (by omega), (fr1.trans fr2).trans (Fr.new nL), same_upd nL _ _ hp, upd_same⟩ (fun j H' _ z => SqT.of z.2.2.1) ?_ ?_
      · rintro j v H3 hv ⟨D3, fr3, hp3, hL⟩
        obtain ⟨b, hb, rfl⟩ : ∃ b, bs[j]? = some b ∧ v = V.int b := by
          rw [List.getElem?_map] at hv
          cases hz : bs[j]? with
          | none => rw [hz] at hv; cases hv
          | some u => rw [hz] at hv; exact ⟨u, rfl, (Option.some.inj hv).symm⟩
        have hb01 := okb b (List.mem_of_getElem? hb)
        refine ⟨rfl, .int b, rfl, b, rfl, by rcases hb01 with rfl | rfl <;> decide, ?_⟩
        rw [str01 hb01]
        refine ⟨_, hL, ?_, D3.upd oL.1 oL.2, ?_, by rw [upd_ne npL]; exact hp3, ?_⟩
        · rw [List.length_map, List.length_map, List.length_map, List.length_take]
          exact Nat.lt_of_lt_of_le (show _ < 64 by omega) (by decide)
        · intro b' u h1 h2 e
          by_cases z : b' = L
          · subst z
            have h0 := (fr1.trans fr2) _ _ h1 h2 e
            rw [nL] at h0; cases h0
          · rw [upd_ne z]; exact fr3 _ _ h1 h2 e
        · rw [upd_same, List.take_add_one, hb]
          simp
      · rintro H3 ⟨D3, fr3, hp3, hL⟩
        rw [List.length_map, List.take_length] at hL
        refine ⟨Str.ofString "", L, (bs.map wS).map one, rfl, rfl, .inl (SqL.of hL), join_fit (by rw [List.length_map]; omega), ?_⟩
        rw [join_one]
        refine q _ H3 (D3.mono (by omega)) fr3 ⟨by rw [List.length_map, lb], fun c hc => ?_⟩
        obtain ⟨b, hb, rfl⟩ := List.mem_map.mp hc
        rcases okb b hb with rfl | rfl
        · exact .inr (.inl rfl)
        · exact .inr (.inr rfl)
    · refine ⟨fun _ H' => DeckD H' d l (n + 2) ∧ Fr d l H H', ?_, ?_⟩
      · refine ⟨.int x, rfl, rfl, _, rfl, ite2 (fun _ => ?_) (fun _ => ⟨D1.mono (by omega), fr1⟩)⟩
        refine ⟨.ref d, rfl, d, l, 4, _, rfl, D1, by omega, by decide, by decide, fun H2 y D2 fr2 y0 y1 => ⟨rfl, _, rfl, D2.mono (by omega), fr1.trans fr2⟩⟩
      · rintro b H2 ⟨D2, fr2⟩
        refine ite2 (fun _ => ?_) (fun _ => ?_)
        · refine ⟨.int m, rfl, _, _, rfl, rfl, (by rw [dash_S]; decide), by omega, by omega, ?_⟩
          rw [dash_S, mul_dash m1 m6]
          exact q _ H2 (D2.mono (by omega)) fr2 ⟨List.length_replicate, fun c hc => .inl (List.mem_replicate.mp hc).2⟩
        · refine ⟨⟨_, rfl⟩, .int m, rfl, m, rfl, by omega, by omega, fun L nL => ?_⟩
          have oL := D2.off nL
          have nL0 : H L = none := none_of_frD fr2 D2 nL
          refine lc_range (lo := 0) (n := (m : Int).toNat) (fun j H' => DeckD H' d l (n + 2 + j) ∧ Fr d l H H' ∧ ∃ cs : List Nat, cs.length = j ∧ (∀ c ∈ cs, SgOk c) ∧ H' L = some (.lst ((cs.map one).map V.str)))
            ⟨(D2.same (same_upd nL)).mono (by omega), fr2.trans (Fr.new nL), [], rfl, (fun c hc => by cases hc), upd_same⟩ ?_ ?_
          · rintro j H3 hj ⟨D3, fr3, cs, lc, okc, hL⟩
            have hj' : j < m := by simpa using hj
            refine ⟨rfl, .ref d, rfl, show 6 ≤ sizeLine by decide, fun q6 n6 => ?_⟩
            have s6 := same_upd (o := HO.lst [V.int 6, .int 4, .int 3, .int 8, .int 8, .int 5]) n6
            have hL6 := s6 _ _ hL
            obtain ⟨v, ev, v0, v8⟩ := at6 x0 x1
            refine ⟨.int x, rfl, q6, _, _, .int v, rfl, rfl, SqL.of upd_same, ev, d, l, v, _, rfl, D3.same s6, by omega, v0, by omega, fun H7 y D7 fr7 y0 y1 => ?_⟩
            have hL7 := fr7 _ _ oL.1 oL.2 hL6
            obtain ⟨c, hc, okc'⟩ := it8 y.toNat (by omega)
            refine ⟨Str.ofString "01-01---", y, c, rfl, rfl, y0, by omega, by rw [s8_S, SX.S_len]; show y < 8; omega, by rw [s8_S]; exact hc, _, hL7, ?_, (D7.upd oL.1 oL.2).mono (by push_cast; omega), Fr.upd ((fr3.trans (Fr.of s6)).trans fr7) nL0, cs ++ [c], by rw [List.length_append, lc]; rfl, fun z hz => ?_, ?_⟩
            · rw [List.length_map, List.length_map, lc]
              exact Nat.lt_of_lt_of_le (show j < 64 by omega) (by decide)
            · rcases List.mem_append.mp hz with z1 | z1
              · exact okc z z1
              · rw [List.mem_singleton.mp z1]; exact okc'
            · rw [upd_same, List.map_append, List.map_append]
              rfl
          · rintro H3 ⟨D3, fr3, cs, lc, okc, hL⟩
            have lc' : cs.length = m := by rw [lc]; simp
            refine ⟨Str.ofString "", L, cs.map one, rfl, rfl, .inl (SqL.of hL), join_fit (by omega), ?_⟩
            rw [join_one]
            exact q _ H3 (D3.mono (by have : ((m : Int).toNat : Int) ≤ 6 := by omega
                                      omega)) fr3 ⟨lc', okc⟩

end
end Gk

set_option Elab.async false
set_option linter.all false
set_option maxRecDepth 100000
set_option maxHeartbeats 1000000
set_option pp.maxSteps 1500
set_option pp.deepTerms false
namespace Gk
open PySem PySem.Spec PyProof.Rows L2
theorem Row01.snoc {r : List Int} {v : Int} (h : Row01 r) (hv : v = 0 ∨ v = 1) : Row01 (r ++ [v]) := fun x hx => by
  rcases List.mem_append.mp hx with z | z
  · exact h x z
  · rw [List.mem_singleton.mp z]; exact hv

/-! ### enumerate(tuple) -/
theorem draws_tuple {P : Program} {w : World} {A : Around} (hA : A.handled = none) (it a : Addr) (items : Array Value) (hne : a ≠ it) : Draws P w A it [it, a] items.size (fun i v => items[i]? = some v) (fun i h => h.IsTupleIter it a i ∧ h.IsTuple a items) where
  live := fun _ _ st => let ⟨o, ho, _⟩ := st.1; ⟨o, ho⟩
  frame := fun _ _ _ st hk => ⟨st.1.at fun o e => hk it (by simp) o e, by
    obtain ⟨o, ho, r⟩ := st.2
    exact ⟨o, hk a (by simp) o ho, r⟩⟩
  item := fun i s Q E hi st hQ => by
    refine RZ.nextOf_tuple_item st.1 st.2 (x := items[i]) (by simp [hi]) fun h' hit' hs' => ?_
    refine hQ _ h' s.toks (by simp [hi]) ⟨hit', ?_⟩ hs'
    obtain ⟨o, ho, r⟩ := st.2
    exact ⟨o, hs'.extBut a o hne ho, r⟩
  done := fun s Q E st hE => RZ.nextOf_tuple_end hA st.1 st.2 (by simp) hE
open PySem.AutoSeq1 in
set_option maxHeartbeats 1000000 in
theorem meets_enumerate_newT (l : Addr) (items : Array Value) (o : Obj) (hc : o.cls = .type "tuple") (n : Nat) (hd : o.data = .seq items n) :
    Meets (Builtin.«enumerate.__new__» ⟨[.type "enumerate", .ref l], []⟩) (fun _ R s => s.heap.get? l = some o ∧
      R (.ok (.ret (.ref (s.heap.push { cls := .type "tuple_iterator", data := .fields #[.ref l, .int 0 0] }).objs.size)))
        { s with heap := (s.heap.push { cls := .type "tuple_iterator", data := .fields #[.ref l, .int 0 0] }).push { cls := .type "enumerate", data := .fields #[.none, .bool false, .ref s.heap.objs.size, rawInt 0, .none, .none] } }) :=
  .of_wp fun prog w A R s h => by
    obtain ⟨hp, g, d, tk, os⟩ := s; obtain ⟨hl, h⟩ := h
    have hsub := sub_enumerate
    have hL : Heap.IsTuple (Shared.heap ⟨hp, g, d, tk, os⟩) l items := ⟨_, hl, hc, n, hd⟩
    wp_walk using wpAny_loadPart' hl
    refine wpAny_stack_any fun st => wpAny_pure ?_
    split
    · rename_i c _ _ _ _ _
      cases (c == Value.type "enumerate")
      · wp_walk using wpAny_loadPart' hl, wpAny_pyIter_tuple hL
        exact ⟨_, rfl, h⟩
      · wp_walk using wpAny_loadPart' hl, wpAny_pyIter_tuple hL
        exact ⟨_, rfl, h⟩
    · wp_walk using wpAny_loadPart' hl, wpAny_pyIter_tuple hL
      exact ⟨_, rfl, h⟩
theorem call_enumerate_tuple {prog : Program} {w : World} {A : Around} {E : Value → Shared → Prop} {s : Shared} {l : Addr} {items : Array Value} {Q : Value → Shared → Prop} (hL : s.heap.IsTuple l items)
    (h : ∀ h', IsEnum h' (s.heap.objs.size + 1) s.heap.objs.size 0 .none → h'.IsTupleIter s.heap.objs.size l 0 → h'.objs.size = s.heap.objs.size + 2 →
      (∀ b o, s.heap.get? b = some o → h'.get? b = some o) → Q (.ref (s.heap.objs.size + 1)) { s with heap := h' }) :
    wpAny (model prog w) A (call (.type "enumerate") [.ref l]) Q E s := by
  obtain ⟨o, hl, hc, n, hd⟩ := hL
  refine callType_new F.called_enumerate (by decide) (F.typeCall_enumerate_1 _) (F.newCall_enumerate_1 _) (fun obj => F.args_object_init_2 obj _) F.entry_enumerate_new
    (meets_enumerate_newT l items o hc n hd) ⟨hl, ?_⟩
  have hz : (s.heap.push { cls := .type "tuple_iterator", data := .fields #[.ref l, .int 0 0] }).objs.size = s.heap.objs.size + 1 := Heap.size_push ..
  show _ ∧ _
  rw [hz]
  have he : IsEnum ((s.heap.push { cls := .type "tuple_iterator", data := .fields #[.ref l, .int 0 0] }).push
      { cls := .type "enumerate", data := .fields #[.none, .bool false, .ref s.heap.objs.size, rawInt 0, .none, .none] }) (s.heap.objs.size + 1) s.heap.objs.size 0 .none := by
    have := Heap.get?_push_size (s.heap.push { cls := .type "tuple_iterator", data := .fields #[.ref l, .int 0 0] })
      (o := { cls := .type "enumerate", data := .fields #[.none, .bool false, .ref s.heap.objs.size, rawInt 0, .none, .none] }) rfl
    rw [hz] at this; exact this
  refine ⟨⟨_, he, rfl⟩, h _ he ⟨_, Heap.get?_push_of_some _ (Heap.get?_push_size _ rfl), rfl, rfl⟩ (by rw [Heap.size_push, hz]) fun b o x => Heap.get?_push_of_some _ (Heap.get?_push_of_some _ x)⟩
/-- the tuple at a, each item in a new pair -/
def IteT (K : PySem.W.Frag) (a : Addr) : It :=
  ⟨fun i H => ∃ (xs : List V) (x : V), SqT K H a xs ∧ xs[i]? = some x, fun i H v H' => ∃ T x, v = .ref T ∧ H T = none ∧ H' = upd H T (.tup [.int (i : Nat), x]) ∧ ∀ xs, SqT K H a xs → xs[i]? = some x, fun i H => ∃ xs : List V, SqT K H a xs ∧ xs.length = i⟩
theorem turn_enumT {P : Program} {w : World} {K : PySem.W.Frag} {elts : List Expr} {kk : Nat} {tpos : Pos} (a e it : Addr) :
    Turn P w K (.Tuple elts kk tpos) (IteT K a) [e, it] e (fun i h => (∃ old, IsEnum h e it ((i : Nat) : Int) old) ∧ h.IsTupleIter it a i ∧ e ≠ it) where
  mem := by simp
  obj := fun i h st b hb => by
    obtain ⟨⟨old, he⟩, ⟨o, ho, hc, hd⟩, _⟩ := st
    have e' : b = e ∨ b = it := by simpa using hb
    rcases e' with z | z
    · rw [z]; exact ⟨_, he, fun v q => nomatch q⟩
    · rw [z]; exact ⟨o, ho, fun v q => by rw [hd] at q; cases q⟩
  keep := fun i h h' st k => let ⟨⟨old, he⟩, hi, hne⟩ := st; ⟨⟨old, k e (by simp) _ he⟩, hi.at fun o q => k it (by simp) o q, hne⟩
  item := by
    intro X hP hw hK hc i pins s σ H E I hf st hg
    subst hP hw hK
    obtain ⟨⟨old, he⟩, hit, hne⟩ := st
    obtain ⟨xs, x, hq, hx⟩ := hg
    obtain ⟨its, rv, p, hz⟩ := I.tuple hq
    obtain ⟨u, hu, ru⟩ := rv.get hx
    have hel : e < s.heap.objs.size := Heap.lt_size he
    have hil : it < s.heap.objs.size := by obtain ⟨_, q, _⟩ := hit; exact Heap.lt_size q
    have hpt : s.heap.IsTuple a its.toArray := p
    have hai : a ≠ it := fun z => by
      obtain ⟨o1, h1, c1, _⟩ := hpt
      obtain ⟨o2, h2, c2, _⟩ := hit
      rw [z, h2] at h1
      cases h1
      rw [c2] at c1
      exact absurd (Value.type.inj c1) (by decide)
    have hae : e ≠ a := fun z => by
      obtain ⟨o1, h1, c1, _⟩ := hpt
      rw [← z, he] at h1
      cases h1
      exact absurd (Value.type.inj c1) (by decide)
    have hil2 : i < its.toArray.size := by
      rw [List.size_toArray]
      exact (List.getElem?_eq_some_iff.mp hu).1
    refine wpAny_pyNext_enum_itemD (draws_tuple (A := X.A.in1) (I.ok.hd hc) it a its.toArray hai) he ⟨hit, hpt⟩ hil2 hne (by simp only [List.mem_cons, List.not_mem_nil, or_false, not_or]; exact ⟨hne, hae⟩) fun y h' tk hy ho hst hT hsz hk => ?_
    have hyu : y = u := by
      have : its[i]? = some y := by simpa using hy
      rw [hu] at this
      exact (Option.some.inj this).symm
    subst hyu
    have hit' := hst.1
    refine ⟨_, rfl, wpAny_letOwnedTupleGo_enum (s := { s with heap := h', toks := tk + 1 }) ho fun h'' he' sb => ?_⟩
    have hT2 : h''.get? s.heap.objs.size = some { cls := .type "tuple", data := .seq #[.int i tk, y] } := (sb.2 _ (Nat.ne_of_gt hel)).trans hT
    have new : ObjOk X.prog X.w (upd H s.heap.objs.size (.tup [.int (i : Nat), x])) h'' s.heap.objs.size (.tup [.int (i : Nat), x]) :=
      ⟨by show 2 ≤ sizeLine; decide, [.int i tk, y], .cons ⟨_, rfl⟩ (.cons ru .nil), ⟨_, hT2, rfl, _, rfl⟩⟩
    have I1 : Inv X pins σ (upd H s.heap.objs.size (.tup [.int (i : Nat), x])) { s with heap := h'', toks := tk + 1 } :=
      I.turnedNew (ch := [e, it]) (fun b ob hb q => (sb.2 b (fun z => hb (by simp [z]))).trans (hk b ob (fun z => hb (by simp [z])) (fun z => hb (by simp [z])) q)) hf (Nat.le_refl _) new
    refine ⟨.ref s.heap.objs.size, _, I1, rfl, ⟨_, x, rfl, I.hok.fresh (Nat.le_refl _), rfl, fun ys hy => by rw [I.tuple_inj hy hq]; exact hx⟩, ⟨⟨y, ?_⟩, hit'.at fun o q => (sb.2 it (Ne.symm hne)).trans q, hne⟩, fun b hb => ?_⟩
    · have e1 : ((i + 1 : Nat) : Int) = (i : Int) + 1 := by omega
      rw [e1]; exact he'
    · have hb' : b < s.heap.objs.size := by
        have e' : b = e ∨ b = it := by simpa using hb
        rcases e' with z | z
        · rw [z]; exact hel
        · rw [z]; exact hil
      rw [upd_ne (Nat.ne_of_lt hb')]
      exact (hf b hb).1
  done := by
    intro X hP hw hK hc i pins s σ H E I hf st hg
    subst hP hw hK
    obtain ⟨⟨old, he⟩, hit, hne⟩ := st
    obtain ⟨xs, hq, hx⟩ := hg
    obtain ⟨its, rv, p, hz⟩ := I.tuple hq
    obtain ⟨f0, f1, f2, f3, f4, f5⟩ := hf it (by simp)
    have hl := rv.length
    have hpt : s.heap.IsTuple a its.toArray := p
    have hai : a ≠ it := fun z => by
      obtain ⟨o1, h1, c1, _⟩ := hpt
      obtain ⟨o2, h2, c2, _⟩ := hit
      rw [z, h2] at h1
      cases h1
      rw [c2] at c1
      exact absurd (Value.type.inj c1) (by decide)
    have hn : i = its.toArray.size := by rw [List.size_toArray]; omega
    exact wpAny_pyNext_enum_endD (draws_tuple (A := X.A.in1) (I.ok.hd hc) it a its.toArray hai) he (by rw [← hn]; exact ⟨hit, hpt⟩) fun h' eb => ⟨rfl, I.turned (t' := s.toks) (fun b o hb q => eb b o hb q) f0 f1 f3 f4 f5⟩
  self := fun A i s Q E st h => let ⟨⟨_, he⟩, _⟩ := st; wpAny_pyIter_enum he h
def iEnumT (K : PySem.W.Frag) (ta : TA) : TI := fun σ H R => ta σ H fun vs H1 => ∃ a xs, vs = [.ref a] ∧ SqT K H1 a xs ∧ R (IteT K a) H1
theorem pi_enumT {X : Cx} {e : Expr} {ta : TA} {p pos tpos : Pos} {elts : List Expr} {kk : Nat} (hg : Gl X "enumerate") (hm : X.mg "enumerate" = none) (ha : PA X [e] ta) (hs : starEach [e] X.env = [(false, eval e X.env)] := by rfl) :
    PI X (.Tuple elts kk tpos) (.Call (.Name "enumerate" p) [e] [] pos) (iEnumT X.K ta) := by
  refine ⟨fun pins s σ H R I h => ?_⟩
  refine Call_ (ld_blt I hg hm boot_enumerate (PyProof.Rows.callWith_type1 (thn (ha.run pos pins s σ H _ I h) fun us s1 ⟨vs, H1, I1, r1, q1⟩ => ?_) hs rfl))
  obtain ⟨a, xs, ex, hq, q⟩ := q1
  subst ex
  cases r1 with
  | cons r rr =>
    cases rr
    cases r
    obtain ⟨its, rv, p', hz⟩ := I1.tuple hq
    refine call_enumerate_tuple p' fun h' he hit hsz hk => wpAny_pyIter_enum he ?_
    have I2 : Inv X pins σ H1 { s1 with heap := h' } := I1.kept (t' := s1.toks) hk
    refine ⟨s1.heap.objs.size + 1, [s1.heap.objs.size + 1, s1.heap.objs.size], _, _, H1, rfl, I2, turn_enumT a (s1.heap.objs.size + 1) s1.heap.objs.size, ⟨⟨.none, he⟩, hit, Nat.succ_ne_self _⟩, fun b hb => ?_, q⟩
    have e' : b = s1.heap.objs.size + 1 ∨ b = s1.heap.objs.size := by simpa using hb
    have hle : s1.heap.objs.size ≤ b := by
      rcases e' with z | z
      · rw [z]; exact Nat.le_add_right _ _
      · rw [z]; exact Nat.le_refl _
    exact I1.fpOk hle (I1.hok.fresh hle)
theorem gx_enum {α : Type} {K : PySem.W.Frag} {a : Addr} {xs : List V} {g : TG} {tt : TT} {te : TE} {vs : List Nat} {σ0 : L2.St} {End : α → Hp → Prop} {Yd : α → V → Hp → (α → Hp → Prop) → Prop} {a0 : α} {H0 : Hp} (Pv : Nat → α → Hp → Prop) (h0 : Pv 0 a0 H0)
    (hl : ∀ i c H, i ≤ xs.length → Pv i c H → SqT K H a xs)
    (hs : ∀ i x T c H, xs[i]? = some x → H T = none → Pv i c H → g (.ref T) σ0 (upd H T (.tup [.int (i : Nat), x])) fun σ2 H2 => wipe σ2 vs = σ0 ∧ tt σ2 H2 fun b H3 => if b = true then te σ2 H3 fun y H4 => Yd c y H4 (Pv (i + 1)) else Pv (i + 1) c H3) (hd : ∀ c H, Pv xs.length c H → End c H) :
    ∃ W : Nat → Nat → α → Hp → Prop, (∃ m, W 0 m a0 H0) ∧ tGx (IteT K a) g tt te σ0 vs End Yd W := by
  refine ⟨fun i m c H => m = xs.length - i ∧ i ≤ xs.length ∧ Pv i c H, ⟨xs.length, rfl, Nat.zero_le _, h0⟩, ?_⟩
  rintro i m c H ⟨rfl, hi, p⟩
  by_cases hlt : i < xs.length
  · have hx : xs[i]? = some xs[i] := List.getElem?_eq_getElem hlt
    refine .inr ⟨⟨xs, xs[i], hl i c H hi p, hx⟩, Pv (i + 1), fun c' H' p' => ⟨xs.length - (i + 1), by omega, rfl, hlt, p'⟩, fun x H' y => ?_⟩
    obtain ⟨T, x1, rfl, nT, rfl, e1⟩ := y
    exact hs i x1 T c H (e1 xs (hl i c _ hi p)) nT p
  · have e : i = xs.length := by omega
    subst e
    exact .inl ⟨⟨xs, hl _ c H hi p, rfl⟩, hd c H p⟩
theorem gx_str {α : Type} {z : Str} {g : TG} {tt : TT} {te : TE} {vs : List Nat} {σ0 : L2.St} {End : α → Hp → Prop} {Yd : α → V → Hp → (α → Hp → Prop) → Prop} {a0 : α} {H0 : Hp} (Pv : Nat → α → Hp → Prop) (h0 : Pv 0 a0 H0)
    (hs : ∀ i x c H, z.cps[i]? = some x → Pv i c H → g (.str ⟨#[x]⟩) σ0 H fun σ2 H2 => wipe σ2 vs = σ0 ∧ tt σ2 H2 fun b H3 => if b = true then te σ2 H3 fun y H4 => Yd c y H4 (Pv (i + 1)) else Pv (i + 1) c H3) (hd : ∀ c H, Pv z.cps.size c H → End c H) :
    ∃ W : Nat → Nat → α → Hp → Prop, (∃ m, W 0 m a0 H0) ∧ tGx (Its z) g tt te σ0 vs End Yd W := by
  refine ⟨fun i m c H => m = z.cps.size - i ∧ i ≤ z.cps.size ∧ Pv i c H, ⟨z.cps.size, rfl, Nat.zero_le _, h0⟩, ?_⟩
  rintro i m c H ⟨rfl, hi, p⟩
  by_cases hlt : i < z.cps.size
  · refine .inr ⟨hlt, Pv (i + 1), fun c' H' p' => ⟨z.cps.size - (i + 1), by omega, rfl, hlt, p'⟩, fun x H' y => ?_⟩
    obtain ⟨rfl, ch, hc, rfl⟩ := y
    exact hs i ch c _ hc p
  · have e : i = z.cps.size := by omega
    subst e
    exact .inl ⟨Nat.le_refl _, hd c H p⟩

section
variable {P : Program} {w : World} {K : PySem.W.Frag} {mg : Str → Option Value} {base : Heap}
def Row01' (r : List Int) : Prop := ∀ x ∈ r, x = 0 ∨ x = 1
/-! ### covers: the program's own -/
def ChAt (H : Hp) (c : Addr) (a b : List Int) : Prop := ∃ ra rb, H c = some (.tup [.ref ra, .ref rb]) ∧ H ra = some (.tup (a.map V.int)) ∧ H rb = some (.tup (b.map V.int))
theorem ChAt.gr {H H' : Hp} {c : Addr} {a b : List Int} (h : ChAt H c a b) (g : Gr H H') : ChAt H' c a b := by
  obtain ⟨ra, rb, h1, h2, h3⟩ := h
  exact ⟨ra, rb, g.tup h1, g.tup h2, g.tup h3⟩
structure ChOk (m : Nat) (a b : List Int) : Prop where
  la : a.length = m
  lb : b.length = m
  oa : Row01' a
  ob : Row01' b
  m6 : m ≤ 6
def pVs (ps : List (List Nat)) : List V := ps.map fun p => V.str (SX.S p)
def CovAt (H : Hp) (c : Addr) (m : Nat) (ps : List (List Nat)) : Prop := ∃ t, H c = some (.tup [.int m, .ref t]) ∧ H t = some (.tup (pVs ps))
theorem CovAt.gr {H H' : Hp} {c : Addr} {m : Nat} {ps : List (List Nat)} (h : CovAt H c m ps) (g : Gr H H') : CovAt H' c m ps := by
  obtain ⟨t, h1, h2⟩ := h
  exact ⟨t, g.tup h1, g.tup h2⟩
def CovOk (m : Nat) (ps : List (List Nat)) : Prop := ∀ p ∈ ps, ProdOk m p
theorem pV_at {ps : List (List Nat)} {i : Nat} {x : V} (h : (pVs ps)[i]? = some x) : ∃ p, ps[i]? = some p ∧ x = V.str (SX.S p) := by
  unfold pVs at h
  rw [List.getElem?_map] at h
  cases hz : ps[i]? with
  | none => rw [hz] at h; cases h
  | some u => rw [hz] at h; exact ⟨u, rfl, (Option.some.inj h).symm⟩

/-! ### covers drawn -/
theorem CovAt.ts {H H' : Hp} {c : Addr} {m : Nat} {ps : List (List Nat)} (h : CovAt H c m ps) (g : Ts H H') : CovAt H' c m ps := by
  obtain ⟨t, h1, h2⟩ := h
  exact ⟨t, g _ _ h1, g _ _ h2⟩
theorem S_app (a b : List Nat) : SX.S a ++ SX.S b = SX.S (a ++ b) := by
  show (⟨a.toArray ++ b.toArray⟩ : Str) = ⟨(a ++ b).toArray⟩
  congr 1
  simp
theorem cut_S1 {cs : List Nat} {h : Nat} (hl : h ≤ cs.length) : cutS (SX.S cs) none (some (h : Int)) = SX.S (cs.take h) := by
  unfold cutS
  rw [SX.S_len, HT.sIx_none, HT.sIx_nat, Nat.min_eq_left hl]
  show (⟨(((SX.S cs).cps.toList.drop 0).take (h - 0)).toArray⟩ : Str) = _
  rw [List.drop_zero, Nat.sub_zero]
theorem cut_S2 {cs : List Nat} {h : Nat} (hl : h ≤ cs.length) : cutS (SX.S cs) (some (h : Int)) none = SX.S (cs.drop h) := by
  unfold cutS
  rw [SX.S_len, HT.sIx_none, HT.sIx_nat, Nat.min_eq_left hl]
  show (⟨((cs.drop h).take (cs.length - h)).toArray⟩ : Str) = _
  rw [List.take_of_length_le (by rw [List.length_drop]; exact Nat.le_refl _)]
theorem s3c_S : Str.ofString "01-" = SX.S [48, 49, 45] := by decide +kernel
theorem it3 : ∀ k : Nat, k < 3 → ∃ c, (SX.S [48, 49, 45]).cps[k]? = some c ∧ SgOk c := by
  intro k h
  rcases k with _ | _ | _ | k
  · exact ⟨48, rfl, .inr (.inl rfl)⟩
  · exact ⟨49, rfl, .inr (.inr rfl)⟩
  · exact ⟨45, rfl, .inl rfl⟩
  · omega
theorem dpStrs {H : Hp} : ∀ ps : List (List Nat), DpAll K H (pVs ps) (ps.map fun p => PyData.str (SX.S p))
  | [] => .nil
  | p :: r => .cons (.str _) (dpStrs r)
theorem strOk_S {p : List Nat} (h : ∀ c ∈ p, SgOk c) : PyData.canLay0 (.str (SX.S p)) = true := by
  simp only [PyData.canLay0, PyData.strOk]
  rw [Array.all_eq_true_iff_forall_mem]
  intro c hc
  have : c ∈ p := by
    simpa using hc
  refine decide_eq_true ?_
  rcases h c this with rfl | rfl | rfl <;> decide
theorem lay_strs {m : Nat} : ∀ ps : List (List Nat), CovOk m ps → PyData.canLayAll0 (ps.map fun p => PyData.str (SX.S p)) = true
  | [], _ => rfl
  | p :: r, h => by
    have := lay_strs r fun q hq => h q (List.mem_cons_of_mem _ hq)
    show (PyData.canLay0 (.str (SX.S p)) && PyData.canLayAll0 (r.map fun p => PyData.str (SX.S p))) = true
    rw [this, Bool.and_true]
    exact strOk_S (h p (List.mem_cons_self ..)).2
theorem depth_strs : ∀ ps : List (List Nat), PyData.depthAll (ps.map fun p => PyData.str (SX.S p)) ≤ 1
  | [] => Nat.zero_le _
  | p :: r => by
    rw [List.map_cons]
    unfold PyData.depthAll
    have := depth_strs r
    have e : (PyData.str (SX.S p)).depth = 0 := rfl
    rw [e]
    omega
theorem sh_strsL {m : Nat} {ps : List (List Nat)} (h : CovOk m ps) : SeqAt.shaped (.list (ps.map fun p => PyData.str (SX.S p))) = true := by
  unfold SeqAt.shaped
  rw [Bool.and_eq_true]
  refine ⟨?_, decide_eq_true ?_⟩
  · simp only [PyData.canLay0, lay_strs ps h]
  · have := depth_strs ps
    simp only [PyData.depth]
    omega
theorem ne_strs (ps : List (List Nat)) : (!PyData.eqv (.list (ps.map fun p => PyData.str (SX.S p))) (.list [])) = !ps.isEmpty := by cases ps <;> rfl
def sp_cover (K : PySem.W.Frag) : Sp := fun vs H Q _ => ∃ (d l : Addr) (n : Int) (m : Nat), vs = [.ref d, .int m] ∧ DeckD H d l n ∧ n < 700000 ∧ 1 ≤ m ∧ m ≤ 6 ∧ ∀ (c : Addr) (ps : List (List Nat)) (H' : Hp), DeckD H' d l (n + 300) → Fr d l H H' → CovAt H' c m ps → CovOk m ps → ps.length ≤ 16 → Q (.ref c) H'
theorem ok_cover (T : Tx K mg) : FnOk P w K mg base CX0 4 T.f_cover T.fd_cover ["_law_deck_here", "_law_many_here"] (sp_cover K) := by
  refine T.F_cover.ok sc_cover (fun vs H Q E h => ?_) (fun cdv A outer s H vs Q E hr h => ?_)
  · obtain ⟨d, l, n, m, rfl, _⟩ := h
    rfl
  · obtain ⟨d, l, n, m, rfl, D, hn, m1, m6, q⟩ := h
    refine ⟨_, (pss_cons (ps_set (i := 2) sc_cover.nd rfl (by first | exact .inl rfl | exact .inr rfl) (pe_call (ok_draw T) (hr.mono (by decide)) (by rfl) T.g_draw T.F_draw.kp T.b_draw .nil pass0 (pa_cons (pv 0) (pa_cons pe_int pa_nil)))) (pss_cons (ps_set (i := 3) sc_cover.nd rfl (by first | exact .inl rfl | exact .inr rfl) (pe_lst pa_nil)) (pss_cons (ps_for PassesOwn.never rfl (pi_range1 (by rfl) T.m_range (pa_cons (pe_ix ix_list (pe_lst (pa_cons (pe_call (ok_draw T) (hr.mono (by decide)) (by rfl) T.g_draw T.F_draw.kp T.b_draw .nil pass0 (pa_cons (pv 0) (pa_cons pe_int pa_nil))) (pa_cons pe_int pa_nil))) (pe_callTy call_int1 (by rfl) T.m_int (by decide +kernel) (pa_cons (pe_cmpR op_eq (pv 2) pe_int (nomark _)) pa_nil)) (fun _ _ => rfl)) pa_nil)) (pg_name (i := 4) sc_cover.nd rfl (by first | exact .inl rfl | exact .inr rfl)) (pss_cons (ps_set (i := 5) sc_cover.nd rfl (by first | exact .inl rfl | exact .inr rfl) (pe_call (ok_draw T) (hr.mono (by decide)) (by rfl) T.g_draw T.F_draw.kp T.b_draw .nil pass0 (pa_cons (pv 0) (pa_cons pe_int pa_nil)))) (pss_cons (ps_set (i := 6) sc_cover.nd rfl (by first | exact .inl rfl | exact .inr rfl) (pe_call (ok_product T) (hr.mono (by decide)) (by rfl) T.g_product T.F_product.kp T.b_product .nil pass0 (pa_cons (pv 0) (pa_cons (pv 1) pa_nil)))) (C8.pss_cut (ps_if (pt_cut (pw_and (pt_cmpR op_lt (pv 5) pe_int (nomark _)) (pw_and1 (pt_cmpR (op_neD hr.units) (pv 3) (pe_lst pa_nil) (nomark _)))).pt) (pss_one (ps_set (i := 6) sc_cover.nd rfl (by first | exact .inl rfl | exact .inr rfl) (pe_ix ix_list (pv 3) (pe_call (ok_draw T) (hr.mono (by decide)) (by rfl) T.g_draw T.F_draw.kp T.b_draw .nil pass0 (pa_cons (pv 0) (pa_cons (pe_callB call_len_seq (by rfl) T.m_len PySem.boot_len (pa_cons (pv 3) pa_nil)) pa_nil))) (fun _ _ => rfl)))) pss_nil) (C8.pss_cut (ps_if (pt_cmpR op_lt (pv 5) pe_int (nomark _)) (pss_cons (ps_set (i := 7) sc_cover.nd rfl (by first | exact .inl rfl | exact .inr rfl) (pe_call (ok_draw T) (hr.mono (by decide)) (by rfl) T.g_draw T.F_draw.kp T.b_draw .nil pass0 (pa_cons (pv 0) (pa_cons (pv 1) pa_nil)))) (pss_one (ps_set (i := 6) sc_cover.nd rfl (by first | exact .inl rfl | exact .inr rfl) (pe_op op_add_str (pe_op op_add_str (pe_slice sl_str (pv 6) po_none (po_some (pv 7))) (pe_item_str pe_str (pe_call (ok_draw T) (hr.mono (by decide)) (by rfl) T.g_draw T.F_draw.kp T.b_draw .nil pass0 (pa_cons (pv 0) (pa_cons pe_int pa_nil))) (fun _ _ => rfl))) (pe_slice sl_str (pv 6) (po_some (pe_op op_add (pv 7) pe_int)) po_none))))) pss_nil) (pss_one (ps_expr (pe_bm PySem.F.plainAttrs_list PySem.F.slot_list_append PySem.F.type_list_append mt_append (pv 3) (pa_cons (pv 6) pa_nil))))))))) (pss_one (ps_ret (pe_tup (pa_cons (pv 1) (pa_cons (pe_callTy call_tuple_of (by rfl) T.m_tuple (by decide +kernel) (pa_cons (pv 3) pa_nil)) pa_nil)))))))), ?_⟩
    refine ⟨.ref d, rfl, d, l, 8, _, rfl, D, by omega, by decide, by decide, fun H1 x D1 fr1 x0 x1 => ?_⟩
    refine ⟨Nat.zero_le _, fun F nF => ?_⟩
    have sF := same_upd (o := HO.lst []) nF
    have oF := D1.off nF
    have hF0 : (upd H1 F (.lst [])) F = some (.lst (pVs [])) := upd_same
    have D1' := D1.same sF
    have frF : Fr d l H (upd H1 F (.lst [])) := fr1.trans (Fr.new nF)
    have nF0 : H F = none := none_of_frD fr1 D1 nF
    revert hF0 D1' frF
    generalize upd H1 F (.lst []) = H1'
    intro hF0 D1' frF
    refine ⟨.ref d, rfl, d, l, 7, _, rfl, D1', by omega, by decide, by decide, fun H2 y D2 fr2 y0 y1 => ⟨sl2, fun t nt => ?_⟩⟩
    have s3 := same_upd (o := HO.lst [V.int y, .int 16]) nt
    refine ⟨.int x, rfl, rfl, .inr ⟨_, rfl, t, _, _, _, rfl, rfl, SqL.of upd_same, at2i _ _ _, ?_⟩⟩
    obtain ⟨N, eN, hN⟩ : ∃ N : Nat, (if decide (V.int x = V.int 5) = true then 16 else y : Int) = (N : Int) ∧ N ≤ 16 := by
      obtain ⟨k, rfl⟩ := Int.eq_ofNat_of_zero_le y0
      split
      · exact ⟨16, rfl, Nat.le_refl _⟩
      · exact ⟨k, rfl, by omega⟩
    rw [eN]
    refine ⟨(N : Int), rfl, by omega, by omega, ?_⟩
    refine for_range (lo := 0) (n := ((N : Nat) : Int).toNat) (fun i σ H' => ∃ y4 y5 y6 y7, σ = [some (.ref d), some (.int m), some (.int x), some (.ref F), y4, y5, y6, y7] ∧ DeckD H' d l (n + 2 + 12 * i) ∧ Fr d l H H' ∧ ∃ ps, H' F = some (.lst (pVs ps)) ∧ ps.length = i ∧ CovOk m ps)
      ⟨_, _, _, _, rfl, (D2.same s3).mono (by omega), (frF.trans fr2).trans (Fr.of s3), [], s3 _ _ (fr2 _ _ oF.1 oF.2 hF0), rfl, fun p hp => by cases hp⟩ ?_ ?_
    · rintro i σ H4 hi ⟨y4, y5, y6, y7, rfl, D4, fr4, ps, hF4, lps, okp⟩
      have hi' : i < N := by simpa using hi
      refine ⟨.ref d, rfl, d, l, 8, _, rfl, D4, by omega, by decide, by decide, fun H5 z D5 fr5 z0 z1 => ?_⟩
      refine ⟨.ref d, rfl, .int m, rfl, d, l, _, m, rfl, D5, by omega, m1, m6, fun p H6 D6 fr6 okp6 => ?_⟩
      have hF6 := fr6 _ _ oF.1 oF.2 (fr5 _ _ oF.1 oF.2 hF4)
      have fr46 := (fr4.trans fr5).trans fr6
      -- one of those told already
      refine ⟨fun σ H' => ∃ p', σ = [some (.ref d), some (.int m), some (.int x), some (.ref F), some (.int (0 + (i : Int))), some (.int z), some (.str (SX.S p')), y7] ∧ DeckD H' d l (n + 2 + 12 * i + 10) ∧ Fr d l H H' ∧ H' F = some (.lst (pVs ps)) ∧ ProdOk m p', ?_, ?_⟩
      · refine ⟨fun b H' => DeckD H' d l (n + 2 + 12 * i + 9) ∧ Fr d l H H' ∧ H' F = some (.lst (pVs ps)) ∧ (b = true → ps ≠ []), ?_, ?_⟩
        · refine ⟨.int z, rfl, _, _, rfl, rfl, _, rfl, ite2 (fun _ => ?_) (fun _ => ⟨D6.mono (by omega), fr46, hF6, fun e => by cases e⟩)⟩
          refine ⟨.ref F, rfl, Nat.zero_le _, fun e ne => ?_⟩
          have s7 := same_upd (o := HO.lst []) ne
          refine ⟨.list (ps.map fun p => .str (SX.S p)), .list [], .lst (SqL.of (s7 _ _ hF6)) (dpStrs ps), .lst (SqL.of upd_same) .nil, sh_strsL okp, rfl, _, rfl, ?_⟩
          rw [ne_strs]
          refine ⟨(D6.same s7).mono (by omega), fr46.trans (Fr.of s7), s7 _ _ hF6, fun e h => ?_⟩
          rw [h] at e
          cases e
        · rintro b H7 ⟨D7, fr7, hF7, hb⟩
          refine ite2 (fun e => ?_) (fun e => ?_)
          · have hne := hb e
            have lpos : 0 < ps.length := List.length_pos_iff.mpr hne
            have lV : (pVs ps).length = ps.length := by unfold pVs; rw [List.length_map]
            refine ⟨.ref F, rfl, .ref d, rfl, .ref F, rfl, F, _, rfl, .inl (SqL.of hF7), ?_⟩
            rw [lV]
            refine ⟨d, l, _, _, rfl, D7, by omega, by omega, by omega, fun H8 u D8 fr8 u0 u1 => ?_⟩
            obtain ⟨k, rfl⟩ := Int.eq_ofNat_of_zero_le u0
            have hk : k < ps.length := by omega
            have hF8 := fr8 _ _ oF.1 oF.2 hF7
            have hat : atI (pVs ps) ((k : Nat) : Int) = some (.str (SX.S ps[k])) := atI_nat (by unfold pVs; rw [List.getElem?_map, List.getElem?_eq_getElem hk]; rfl)
            refine ⟨F, _, _, _, rfl, rfl, SqL.of hF8, hat, ?_⟩
            exact ⟨ps[k], rfl, D8.mono (by omega), fr7.trans fr8, hF8, okp _ (List.getElem_mem hk)⟩
          · exact ⟨p, rfl, D7.mono (by omega), fr7, hF7, okp6⟩
      · rintro σ H7 ⟨p', rfl, D7, fr7, hF7, okp'⟩
        have lp' := okp'.1
        -- a sign otherwise
        refine ⟨fun σ H' => ∃ p'' y7, σ = [some (.ref d), some (.int m), some (.int x), some (.ref F), some (.int (0 + (i : Int))), some (.int z), some (.str (SX.S p'')), y7] ∧ DeckD H' d l (n + 2 + 12 * i + 12) ∧ Fr d l H H' ∧ H' F = some (.lst (pVs ps)) ∧ ProdOk m p'', ?_, ?_⟩
        · refine ⟨.int z, rfl, _, _, rfl, rfl, _, rfl, ite2 (fun _ => ?_) (fun _ => ⟨p', y7, rfl, D7.mono (by omega), fr7, hF7, okp'⟩)⟩
          refine ⟨.ref d, rfl, .int m, rfl, d, l, m, _, rfl, D7, by omega, by omega, by omega, fun H8 u D8 fr8 u0 u1 => ?_⟩
          obtain ⟨k, rfl⟩ := Int.eq_ofNat_of_zero_le u0
          have hk : k < p'.length := by omega
          have okl : (SX.S p').length ≤ sizeLine := by
            rw [SX.S_len]
            exact Nat.le_trans (show p'.length ≤ 64 by omega) (by decide)
          refine ⟨.str (SX.S p'), rfl, .int (k : Nat), rfl, (k : Int), rfl, SX.S p', rfl, okl, ?_⟩
          rw [cut_S1 (Nat.le_of_lt hk)]
          refine ⟨.ref d, rfl, d, l, 3, _, rfl, D8, by omega, by decide, by decide, fun H9 v D9 fr9 v0 v1 => ?_⟩
          obtain ⟨c, hc, okc⟩ := it3 v.toNat (by omega)
          refine ⟨Str.ofString "01-", v, c, rfl, rfl, v0, by omega, by rw [s3c_S, SX.S_len]; show v < 3; omega, by rw [s3c_S]; exact hc, ?_⟩
          refine ⟨_, _, rfl, rfl, ?_, ?_⟩
          · rw [SX.S_len, List.length_take]
            exact Nat.le_trans (show _ ≤ 64 by show min k p'.length + 1 ≤ 64; omega) (by decide)
          have e1 : SX.S (p'.take k) ++ (⟨#[c]⟩ : Str) = SX.S (p'.take k ++ [c]) := S_app _ [c]
          rw [e1]
          refine ⟨.str (SX.S p'), rfl, .int (k : Nat), rfl, _, _, rfl, rfl, ((k + 1 : Nat) : Int), rfl, ?_⟩
          refine ⟨SX.S p', rfl, okl, ?_⟩
          rw [cut_S2 hk]
          refine ⟨_, _, rfl, rfl, ?_, ?_⟩
          · rw [SX.S_len, SX.S_len, List.length_append, List.length_take, List.length_drop]
            exact Nat.le_trans (show _ ≤ 64 by simp only [List.length_cons, List.length_nil]; omega) (by decide)
          rw [S_app, set_put hk]
          refine ⟨p'.set k c, _, rfl, D9.mono (by omega), (fr7.trans fr8).trans fr9, fr9 _ _ oF.1 oF.2 (fr8 _ _ oF.1 oF.2 hF7), by rw [List.length_set, lp'], fun z hz => ?_⟩
          rcases List.mem_or_eq_of_mem_set hz with h | h
          · exact okp'.2 z h
          · rw [h]; exact okc
        · rintro σ H8 ⟨p'', y7', rfl, D8, fr8, hF8, okp''⟩
          refine ⟨.ref F, rfl, .inl ⟨rfl, _, SqL.of hF8⟩, .str (SX.S p''), rfl, F, _, _, rfl, rfl, hF8, ?_, ?_⟩
          · unfold pVs
            rw [List.length_map]
            exact Nat.lt_of_lt_of_le (show _ < 64 by omega) (by decide)
          · refine ⟨_, _, _, _, rfl, (D8.upd oF.1 oF.2).mono (by push_cast; omega), Fr.upd fr8 nF0, ps ++ [p''], ?_, by rw [List.length_append, lps]; rfl, fun r hr => ?_⟩
            · rw [upd_same]
              unfold pVs
              rw [List.map_append]
              rfl
            · rcases List.mem_append.mp hr with h | h
              · exact okp r h
              · rw [List.mem_singleton.mp h]; exact okp''
    · rintro σ H4 ⟨y4, y5, y6, y7, rfl, D4, fr4, ps, hF4, lps, okp⟩
      have lps' : ps.length = N := by rw [lps]; simp
      refine ⟨.int m, rfl, .ref F, rfl, F, _, rfl, .inl ⟨SqL.of hF4, fun t' nt' => ⟨sl2, fun c nc => ?_⟩⟩⟩
      have s5 := same_upd (o := HO.tup (pVs ps)) nt'
      have s6 := same_upd (o := HO.tup [V.int m, .ref t']) nc
      have sa := s5.trans s6
      exact q c ps _ ((D4.same sa).mono (by have : (((N : Nat) : Int).toNat : Int) ≤ 16 := by omega
                                            omega)) (fr4.trans (Fr.of sa)) ⟨t', upd_same, s6 _ _ upd_same⟩ okp (by omega)

end
end Gk

set_option Elab.async false
set_option linter.all false
set_option maxRecDepth 100000
set_option maxHeartbeats 1000000
set_option pp.maxSteps 1500
set_option pp.deepTerms false
namespace Gk
open PySem PySem.Spec PyProof.Rows L2
/-! ### sizes of what is shown -/
def fineB (n m : Nat) (d : PyData) : Bool := d.showable && (d.leavesShort 200 && (decide (d.weight ≤ n) && decide (d.depth ≤ m)))
theorem fine_iff {n m : Nat} {d : PyData} : fineB n m d = true ↔ d.showable = true ∧ d.leavesShort 200 = true ∧ d.weight ≤ n ∧ d.depth ≤ m := by
  unfold fineB
  rw [Bool.and_eq_true, Bool.and_eq_true, Bool.and_eq_true, decide_eq_true_eq, decide_eq_true_eq]
theorem fine_mono {n m n' m' : Nat} {d : PyData} (h : fineB n m d = true) (a : n ≤ n') (b : m ≤ m') : fineB n' m' d = true := by
  obtain ⟨h1, h2, h3, h4⟩ := fine_iff.mp h
  exact fine_iff.mpr ⟨h1, h2, Nat.le_trans h3 a, Nat.le_trans h4 b⟩
theorem fine_fits {n m : Nat} {d : PyData} (h : fineB n m d = true) (hn : n ≤ 50000) : d.shown.length ≤ sizeLine := by
  obtain ⟨_, h2, h3, _⟩ := fine_iff.mp h
  have := PyData.shown_le 200 (by decide) d h2
  have e : sizeLine = 16777216 := by decide
  rw [e]
  omega
theorem fine_all {n m : Nat} : ∀ {ds : List PyData}, (∀ d ∈ ds, fineB n m d = true) → PyData.showableAll ds = true ∧ PyData.leavesShortAll 200 ds = true ∧ PyData.weightAll ds ≤ ds.length * (n + 1) ∧ PyData.depthAll ds ≤ m
  | [], _ => ⟨rfl, rfl, Nat.zero_le _, Nat.zero_le _⟩
  | d :: r, h => by
    obtain ⟨a1, a2, a3, a4⟩ := fine_iff.mp (h d (List.mem_cons_self ..))
    obtain ⟨b1, b2, b3, b4⟩ := fine_all (ds := r) fun x hx => h x (List.mem_cons_of_mem _ hx)
    refine ⟨?_, ?_, ?_, ?_⟩
    · unfold PyData.showableAll
      rw [a1, b1]
      rfl
    · unfold PyData.leavesShortAll
      rw [a2, b2]
      rfl
    · unfold PyData.weightAll
      rw [List.length_cons, Nat.succ_mul]
      omega
    · unfold PyData.depthAll
      omega
theorem fine_tup {n m k : Nat} {ds : List PyData} (h : ∀ d ∈ ds, fineB n m d = true) (hk : ds.length ≤ k) : fineB (k * (n + 1)) (m + 1) (.tuple ds) = true := by
  obtain ⟨b1, b2, b3, b4⟩ := fine_all h
  refine fine_iff.mpr ⟨b1, b2, ?_, ?_⟩
  · show PyData.weightAll ds ≤ _
    exact Nat.le_trans b3 (Nat.mul_le_mul_right _ hk)
  · show PyData.depthAll ds + 1 ≤ _
    omega
theorem fine_lst {n m k : Nat} {ds : List PyData} (h : ∀ d ∈ ds, fineB n m d = true) (hk : ds.length ≤ k) : fineB (k * (n + 1)) (m + 1) (.list ds) = true := by
  obtain ⟨b1, b2, b3, b4⟩ := fine_all h
  refine fine_iff.mpr ⟨b1, b2, ?_, ?_⟩
  · show PyData.weightAll ds ≤ _
    exact Nat.le_trans b3 (Nat.mul_le_mul_right _ hk)
  · show PyData.depthAll ds + 1 ≤ _
    omega

mutual
theorem Sh.gr {H H' : Hp} (s : Gr H H') : ∀ {v : V} {d : PyData}, Sh H v d → Sh H' v d
  | _, _, .non => .non
  | _, _, .bl b => .bl b
  | _, _, .int i => .int i
  | _, _, .str x => .str x
  | _, _, .lst h n t => .lst (s.lst h) n (t.gr s)
  | _, _, .tup h t => .tup (s.tup h) (t.gr s)
  | _, _, .dic h t => .dic (s.1 _ _ (fun _ z => by cases z) h) (t.gr s)
theorem ShAll.gr {H H' : Hp} (s : Gr H H') : ∀ {vs : List V} {ds : List PyData}, ShAll H vs ds → ShAll H' vs ds
  | _, _, .nil => .nil
  | _, _, .cons h t => .cons (h.gr s) (t.gr s)
end
theorem ShAll.get {H : Hp} : ∀ {xs : List V} {ds : List PyData} {j : Nat} {x : V}, ShAll H xs ds → xs[j]? = some x → ∃ d, ds[j]? = some d ∧ Sh H x d
  | _, _, _, _, .nil, h => by simp at h
  | _, _, 0, _, .cons (d := d) a _, h => by
    cases (Option.some.inj h)
    exact ⟨d, rfl, a⟩
  | _, _, j + 1, _, .cons _ t, h => t.get h
theorem ShAll.append {H : Hp} : ∀ {xs ys : List V} {ds es : List PyData}, ShAll H xs ds → ShAll H ys es → ShAll H (xs ++ ys) (ds ++ es)
  | _, _, _, _, .nil, t => t
  | _, _, _, _, .cons a r, t => .cons a (r.append t)
theorem ShAll.take {H : Hp} : ∀ {xs : List V} {ds : List PyData} (n : Nat), ShAll H xs ds → ShAll H (xs.take n) (ds.take n)
  | _, _, 0, _ => by rw [List.take_zero, List.take_zero]; exact .nil
  | _, _, n + 1, .nil => .nil
  | _, _, n + 1, .cons a r => .cons a (r.take n)
theorem ShAll.drop {H : Hp} : ∀ {xs : List V} {ds : List PyData} (n : Nat), ShAll H xs ds → ShAll H (xs.drop n) (ds.drop n)
  | _, _, 0, h => h
  | _, _, n + 1, .nil => .nil
  | _, _, n + 1, .cons _ r => r.drop n
theorem notT {b : Bool} (h : (!b) = true) : ¬ b = true := by cases b <;> simp_all
theorem notF {b : Bool} (h : ¬ (!b) = true) : b = true := by cases b <;> simp_all

section
variable {P : Program} {w : World} {K : PySem.W.Frag} {mg : Str → Option Value} {base : Heap}
/-! ### kinds of data -/
def isIntD : PyData → Bool
  | .int _ => true
  | .bool _ => true
  | _ => false
def isBoolD : PyData → Bool
  | .bool _ => true
  | _ => false
def isTupD : PyData → Bool
  | .tuple _ => true
  | _ => false
def isStrD : PyData → Bool
  | .str _ => true
  | _ => false
theorem kitInt : ∀ d : PyData, kitB (tyD d) "int" = some (isIntD d)
  | .none => (by decide +kernel : kitB "NoneType" "int" = some false)
  | .bool _ => (by decide +kernel : kitB "bool" "int" = some true)
  | .int _ => (by decide +kernel : kitB "int" "int" = some true)
  | .str _ => (by decide +kernel : kitB "str" "int" = some false)
  | .list _ => (by decide +kernel : kitB "list" "int" = some false)
  | .tuple _ => (by decide +kernel : kitB "tuple" "int" = some false)
  | .dict _ => (by decide +kernel : kitB "dict" "int" = some false)
theorem kitBool : ∀ d : PyData, kitB (tyD d) "bool" = some (isBoolD d)
  | .none => (by decide +kernel : kitB "NoneType" "bool" = some false)
  | .bool _ => (by decide +kernel : kitB "bool" "bool" = some true)
  | .int _ => (by decide +kernel : kitB "int" "bool" = some false)
  | .str _ => (by decide +kernel : kitB "str" "bool" = some false)
  | .list _ => (by decide +kernel : kitB "list" "bool" = some false)
  | .tuple _ => (by decide +kernel : kitB "tuple" "bool" = some false)
  | .dict _ => (by decide +kernel : kitB "dict" "bool" = some false)
theorem kitTup : ∀ d : PyData, kitB (tyD d) "tuple" = some (isTupD d)
  | .none => (by decide +kernel : kitB "NoneType" "tuple" = some false)
  | .bool _ => (by decide +kernel : kitB "bool" "tuple" = some false)
  | .int _ => (by decide +kernel : kitB "int" "tuple" = some false)
  | .str _ => (by decide +kernel : kitB "str" "tuple" = some false)
  | .list _ => (by decide +kernel : kitB "list" "tuple" = some false)
  | .tuple _ => (by decide +kernel : kitB "tuple" "tuple" = some true)
  | .dict _ => (by decide +kernel : kitB "dict" "tuple" = some false)
theorem kitStr : ∀ d : PyData, kitB (tyD d) "str" = some (isStrD d)
  | .none => (by decide +kernel : kitB "NoneType" "str" = some false)
  | .bool _ => (by decide +kernel : kitB "bool" "str" = some false)
  | .int _ => (by decide +kernel : kitB "int" "str" = some false)
  | .str _ => (by decide +kernel : kitB "str" "str" = some true)
  | .list _ => (by decide +kernel : kitB "list" "str" = some false)
  | .tuple _ => (by decide +kernel : kitB "tuple" "str" = some false)
  | .dict _ => (by decide +kernel : kitB "dict" "str" = some false)
def wholeD : PyData → Bool
  | .int _ => true
  | _ => false
def worthD : PyData → Bool
  | .int i => decide (0 ≤ i) && decide (i ≤ 1)
  | _ => false
theorem whole_of : ∀ {d : PyData}, isIntD d = true → wholeD d = !isBoolD d
  | .int _, _ => rfl
  | .bool _, _ => rfl
  | .none, h => by cases h
  | .str _, h => by cases h
  | .list _, h => by cases h
  | .tuple _, h => by cases h
  | .dict _, h => by cases h
theorem whole_not : ∀ {d : PyData}, ¬ isIntD d = true → wholeD d = false
  | .int _, h => absurd rfl h
  | .bool _, h => absurd rfl h
  | .none, _ => rfl
  | .str _, _ => rfl
  | .list _, _ => rfl
  | .tuple _, _ => rfl
  | .dict _, _ => rfl
theorem whole_int : ∀ {d : PyData}, wholeD d = true → ∃ i, d = .int i
  | .int i, _ => ⟨i, rfl⟩
  | .bool _, h => by cases h
  | .none, h => by cases h
  | .str _, h => by cases h
  | .list _, h => by cases h
  | .tuple _, h => by cases h
  | .dict _, h => by cases h
theorem worth_not : ∀ {d : PyData}, ¬ wholeD d = true → worthD d = false
  | .int _, h => absurd rfl h
  | .bool _, _ => rfl
  | .none, _ => rfl
  | .str _, _ => rfl
  | .list _, _ => rfl
  | .tuple _, _ => rfl
  | .dict _, _ => rfl
theorem tup_of : ∀ {d : PyData}, isTupD d = true → ∃ ds, d = .tuple ds
  | .tuple ds, _ => ⟨ds, rfl⟩
  | .bool _, h => by cases h
  | .none, h => by cases h
  | .str _, h => by cases h
  | .list _, h => by cases h
  | .int _, h => by cases h
  | .dict _, h => by cases h
def sp_is_whole (K : PySem.W.Frag) : Sp := fun vs H Q _ => ∃ (v : V) (d : PyData), vs = [v] ∧ Sh H v d ∧ Q (.bl (wholeD d)) H
theorem ok_is_whole (T : Tx K mg) : FnOk P w K mg base CX0 1 T.f_is_whole T.fd_is_whole ["thing"] (sp_is_whole K) := by
  refine T.F_is_whole.ok sc_is_whole (fun vs H Q E h => ?_) (fun cdv A outer s H vs Q E hr h => ?_)
  · obtain ⟨v, d, rfl, _⟩ := h
    rfl
  · obtain ⟨v, d, rfl, sh, q⟩ := h
    refine ⟨_, (pss_one (ps_ret (pe_and (pe_callB call_isi (by rfl) T.m_isinstance (by decide +kernel) (pa_cons (pv 0) (pa_cons (pe_bltn (v := .ty "int") (u := .type "int") (by rfl) T.m_int (by decide +kernel) rfl) pa_nil))) (pe_one (pe_not (pe_callB call_isi (by rfl) T.m_isinstance (by decide +kernel) (pa_cons (pv 0) (pa_cons (pe_bltn (v := .ty "bool") (u := .type "bool") (by rfl) T.m_bool (by decide +kernel) rfl) pa_nil)))))))), ?_⟩
    refine ⟨v, rfl, _, _, _, _, _, rfl, .ty _, sh.ty, kit_ty (kitInt d), _, rfl, ite2 (fun e => ?_) (fun e => ?_)⟩
    · refine ⟨v, rfl, _, _, _, _, _, rfl, .ty _, sh.ty, kit_ty (kitBool d), _, rfl, ?_⟩
      rw [← whole_of e]
      exact q
    · rw [whole_not e] at q
      exact q

/-! ### products and covers, of anything -/
def sgB (c : Nat) : Bool := decide (c ∈ (Str.ofString "01-").cps.toList)
def isProdD (m : Int) : PyData → Bool
  | .str x => decide ((x.length : Int) = m) && x.cps.toList.all sgB
  | _ => false
def covParts (a b : PyData) : Bool :=
  match a with
  | .int m => (match b with
    | .tuple ds => decide (1 ≤ m) && (decide (m ≤ 6) && ds.all (isProdD m))
    | _ => false)
  | _ => false
def isCovD : PyData → Bool
  | .tuple ds => (match ds with
    | [a, b] => covParts a b
    | _ => false)
  | _ => false
theorem prod_not {m : Int} : ∀ {d : PyData}, ¬ isStrD d = true → isProdD m d = false
  | .str _, h => absurd rfl h
  | .bool _, _ => rfl
  | .none, _ => rfl
  | .tuple _, _ => rfl
  | .list _, _ => rfl
  | .int _, _ => rfl
  | .dict _, _ => rfl
theorem cov_not : ∀ {d : PyData}, ¬ isTupD d = true → isCovD d = false
  | .tuple _, h => absurd rfl h
  | .bool _, _ => rfl
  | .none, _ => rfl
  | .str _, _ => rfl
  | .list _, _ => rfl
  | .int _, _ => rfl
  | .dict _, _ => rfl
theorem cov_len : ∀ {ds : List PyData}, ¬ ds.length = 2 → isCovD (.tuple ds) = false
  | [], _ => rfl
  | [_], _ => rfl
  | [_, _], h => absurd rfl h
  | _ :: _ :: _ :: _, _ => rfl
theorem cov_int : ∀ {a : PyData} (b : PyData), ¬ wholeD a = true → covParts a b = false
  | .int _, _, h => absurd rfl h
  | .bool _, _, _ => rfl
  | .none, _, _ => rfl
  | .str _, _, _ => rfl
  | .list _, _, _ => rfl
  | .tuple _, _, _ => rfl
  | .dict _, _, _ => rfl
theorem cov_tup (m : Int) : ∀ {b : PyData}, ¬ isTupD b = true → covParts (.int m) b = false
  | .tuple _, h => absurd rfl h
  | .bool _, _ => rfl
  | .none, _ => rfl
  | .str _, _ => rfl
  | .list _, _ => rfl
  | .int _, _ => rfl
  | .dict _, _ => rfl
theorem strD_of : ∀ {d : PyData}, isStrD d = true → ∃ z, d = .str z
  | .str z, _ => ⟨z, rfl⟩
  | .bool _, h => by cases h
  | .none, h => by cases h
  | .tuple _, h => by cases h
  | .list _, h => by cases h
  | .int _, h => by cases h
  | .dict _, h => by cases h
theorem w_line {x : Str} (h : (PyData.str x).weight ≤ 50000) : x.length ≤ sizeLine := Nat.le_trans (show x.length ≤ 50000 from h) (by decide)
theorem len_eqI {n : Nat} {m : Int} : decide (V.int (n : Int) = V.int m) = decide ((n : Int) = m) := by
  by_cases h : (n : Int) = m
  · rw [decide_eq_true h, decide_eq_true (by rw [h])]
  · rw [decide_eq_false h, decide_eq_false fun z => h (V.int.inj z)]
theorem cps_at {x : Str} {j c : Nat} (h : x.cps[j]? = some c) : x.cps.toList[j]? = some c := by rw [Array.getElem?_toList]; exact h
theorem all_stop {α : Type} {f : α → Bool} {l : List α} {j : Nat} {x : α} (h : l[j]? = some x) (n : ¬ f x = true) : l.all f = false := by
  cases e : l.all f with
  | false => rfl
  | true => exact absurd (List.all_eq_true.mp e x (List.mem_of_getElem? h)) n
theorem all_take {α : Type} {f : α → Bool} {l : List α} {j : Nat} {x : α} (h : l[j]? = some x) (p : (l.take j).all f = true) (hx : f x = true) : (l.take (j + 1)).all f = true := by
  rw [List.take_add_one, h, List.all_append, p, Bool.true_and]
  show (f x && true) = true
  rw [hx]
  rfl
def sp_is_product (T : Tx K mg) : Sp := fun vs H Q _ => ∃ (m : Int) (v : V) (d : PyData), vs = [.int m, v] ∧ Sh H v d ∧ d.weight ≤ 50000 ∧ GxR.TabG H T.P_is_product ∧ ∀ H', Gr H H' → Q (.bl (isProdD m d)) H'
theorem ok_is_product (T : Tx K mg) (B : Tb base T) : FnOk P w K mg base CX0 2 T.f_is_product T.fd_is_product ["many", "thing"] (sp_is_product T) := by
  refine okC T.F_is_product sc_is_product (fun vs H Q E h => ?_) (fun A outer s H vs Q E hr h => ?_)
  · obtain ⟨m, v, d, rfl, _⟩ := h
    rfl
  · obtain ⟨m, v, d, rfl, sh, wt, tab, q⟩ := h
    refine ⟨_, (pss_one (ps_ret (pe_and (pe_callB call_isi (by rfl) T.m_isinstance (by decide +kernel) (pa_cons (pv 1) (pa_cons (pe_bltn (v := .ty "str") (u := .type "str") (by rfl) T.m_str (by decide +kernel) rfl) pa_nil))) (pe_and (pe_cmpR op_eq (pe_callB call_len_str (by rfl) T.m_len PySem.boot_len (pa_cons (pv 1) pa_nil)) (pv 0) (nomark _)) (pe_one (pe_allX (own := [("sign", 2)]) (k := 0) (hr.mono (by decide)) rfl sc_is_product.nd (by rfl) T.m_all (by decide +kernel) B.TB_is_product T.cd_is_product rfl rfl (by decide +kernel) (blkOk_by (own := [("sign", 2)]) (N := ["many", "thing", "sign"]) (sc := defScope s_is_product) (by decide +kernel)) (pi_str (pv 1)) (fun _ _ _ _ _ _ _ hr gd => (pg_name (i := 2) sc_is_product.nd rfl (by first | exact .inl rfl | exact .inr rfl))) (fun _ _ _ _ _ _ _ hr gd => pts_nil) (fun _ _ _ _ _ _ _ hr gd => (pe_cmpR op_in_sign (pv 2) pe_str rfl)) (fun _ => rfl))))))), ?_⟩
    refine ⟨v, rfl, _, _, _, _, _, rfl, .ty _, sh.ty, kit_ty (kitStr d), _, rfl, ite2 (fun e => ?_) (fun e => ?_)⟩
    · obtain ⟨x, rfl⟩ := strD_of e
      cases sh
      refine ⟨.str x, rfl, x, rfl, w_line wt, .int m, rfl, rfl, _, rfl, ?_⟩
      rw [len_eqI]
      refine ite2 (fun e1 => ?_) (fun e1 => ?_)
      · refine ⟨.str x, rfl, x, rfl, tab, fun H2 tb => ?_⟩
        have g2 := Gr.tab tab tb
        refine gx_str (z := x) (fun j _ H' => H' = H2 ∧ (x.cps.toList.take j).all sgB = true) ⟨rfl, rfl⟩ ?_ ?_
        · rintro j c _ H' hx ⟨rfl, ih⟩
          have hc := cps_at hx
          refine ⟨rfl, .str ⟨#[c]⟩, rfl, c, _, rfl, rfl, _, rfl, ite2 (fun z => ⟨rfl, all_take hc ih z⟩) (fun z => ?_)⟩
          have q' := q H' g2
          have : isProdD m (.str x) = false := by
            show (decide ((x.length : Int) = m) && x.cps.toList.all sgB) = false
            rw [all_stop hc z, Bool.and_false]
          rw [this] at q'
          exact q'
        · rintro _ H' ⟨rfl, ih⟩
          have : x.cps.size = x.cps.toList.length := Array.length_toList.symm
          rw [this, List.take_length] at ih
          have q' := q H' g2
          have : isProdD m (.str x) = true := by
            show (decide ((x.length : Int) = m) && x.cps.toList.all sgB) = true
            rw [ih, e1]
            rfl
          rw [this] at q'
          exact q'
      · have q' := q H Gr.refl
        have : isProdD m (.str x) = false := by
          show (decide ((x.length : Int) = m) && x.cps.toList.all sgB) = false
          rw [Bool.eq_false_iff.mpr e1, Bool.false_and]
        rw [this] at q'
        exact q'
    · have q' := q H Gr.refl
      rw [prod_not e] at q'
      exact q'
theorem weight_get {ds : List PyData} {j : Nat} {d : PyData} (h : ds[j]? = some d) : d.weight ≤ PyData.weightAll ds := by
  induction ds generalizing j with
  | nil => simp at h
  | cons x r ih =>
    cases j with
    | zero =>
      cases Option.some.inj h
      show d.weight ≤ d.weight + 1 + PyData.weightAll r
      omega
    | succ j =>
      have := ih (j := j) h
      show d.weight ≤ x.weight + 1 + PyData.weightAll r
      omega
theorem two_of {ds : List PyData} (h : ds.length = 2) : ∃ a b, ds = [a, b] := by
  match ds, h with
  | [a, b], _ => exact ⟨a, b, rfl⟩
def sp_is_cover (T : Tx K mg) : Sp := fun vs H Q _ => ∃ (v : V) (d : PyData), vs = [v] ∧ Sh H v d ∧ d.weight ≤ 50000 ∧ GxR.TabG H T.P_is_product ∧ GxR.TabG H T.P_is_cover ∧ ∀ H', Gr H H' → Q (.bl (isCovD d)) H'
theorem ok_is_cover (T : Tx K mg) (B : Tb base T) : FnOk P w K mg base CX0 4 T.f_is_cover T.fd_is_cover ["thing"] (sp_is_cover T) := by
  refine okC T.F_is_cover sc_is_cover (fun vs H Q E h => ?_) (fun A outer s H vs Q E hr h => ?_)
  · obtain ⟨v, d, rfl, _⟩ := h
    rfl
  · obtain ⟨v, d, rfl, sh, wt, tab0, tab, q⟩ := h
    refine ⟨_, (pss_cons (ps_if (pw_or (pt_not (pt_val (pe_callB call_isi (by rfl) T.m_isinstance (by decide +kernel) (pa_cons (pv 0) (pa_cons (pe_bltn (v := .ty "tuple") (u := .type "tuple") (by rfl) T.m_tuple (by decide +kernel) rfl) pa_nil))))) (pw_or1 (pt_cmpR op_ne (pe_callB call_len_seq (by rfl) T.m_len PySem.boot_len (pa_cons (pv 0) pa_nil)) pe_int (nomark _)))).pt (pss_one (ps_ret pe_bl)) pss_nil) (pss_cons (ps_asg (pv 0) (pg_tup rfl (pgs_cons (pg_name (i := 1) sc_is_cover.nd rfl (by first | exact .inl rfl | exact .inr rfl)) (pgs_cons (pg_name (i := 2) sc_is_cover.nd rfl (by first | exact .inl rfl | exact .inr rfl)) pgs_nil)))) (pss_cons (ps_if (pw_or (pt_not (pt_val (pe_call (ok_is_whole T) (hr.mono (by decide)) (by rfl) T.g_is_whole T.F_is_whole.kp T.b_is_whole .nil pass0 (pa_cons (pv 1) pa_nil)))) (pw_or1 (pt_not (pt_chain op_le op_le pe_int (pv 1) (pe_glob (v := .int 6) (by rfl) T.k_MOST_INPUTS.choose_spec ⟨_, rfl⟩))))).pt (pss_one (ps_ret pe_bl)) pss_nil) (pss_one (ps_ret (pe_and (pe_callB call_isi (by rfl) T.m_isinstance (by decide +kernel) (pa_cons (pv 2) (pa_cons (pe_bltn (v := .ty "tuple") (u := .type "tuple") (by rfl) T.m_tuple (by decide +kernel) rfl) pa_nil))) (pe_one (pe_allX (own := [("product", 3)]) (k := 2) (hr.mono (by decide)) rfl sc_is_cover.nd (by rfl) T.m_all (by decide +kernel) B.TB_is_cover T.cd_is_cover rfl rfl (by decide +kernel) (blkOk_by (own := [("product", 3)]) (N := ["thing", "many", "products", "product"]) (sc := defScope s_is_cover) (by decide +kernel)) (pi_tup (pv 2)) (fun _ _ _ _ _ _ _ hr gd => (pg_name (i := 3) sc_is_cover.nd rfl (by first | exact .inl rfl | exact .inr rfl))) (fun _ _ _ _ _ _ _ hr gd => pts_nil) (fun _ _ _ _ _ _ _ hr gd => (pe_call (ok_is_product T B) (hr.mono (by decide)) (by rfl) T.g_is_product T.F_is_product.kp T.b_is_product .nil pass0 (pa_cons (pv 1) (pa_cons (pv 3) pa_nil)))) (fun _ => rfl))))))))), ?_⟩
    refine ⟨v, rfl, _, _, _, _, _, rfl, .ty _, sh.ty, kit_ty (kitTup d), _, rfl, ite2 (fun e => ?_) (fun e => ?_)⟩
    · have q' := q H Gr.refl
      rw [cov_not (notT e)] at q'
      exact q'
    obtain ⟨ds, rfl⟩ := tup_of (notF e)
    cases sh with
    | @tup a xs _ h t =>
      have lx := t.length
      refine ⟨.ref a, rfl, a, xs, rfl, .inr (SqT.of h), rfl, _, rfl, ?_⟩
      have e2 : decide (V.int (xs.length : Int) = V.int 2) = decide (ds.length = 2) := by
        rw [lx, len_eqI]
        by_cases z : ds.length = 2
        · rw [decide_eq_true z, decide_eq_true (by omega)]
        · rw [decide_eq_false z, decide_eq_false (by omega)]
      rw [e2]
      refine ite2 (fun e1 => ?_) (fun e1 => ?_)
      · have q' := q H Gr.refl
        rw [cov_len (fun z => by rw [z] at e1; cases e1)] at q'
        exact q'
      obtain ⟨d0, d1, rfl⟩ := two_of (ds := ds) (of_decide_eq_true (notF e1))
      cases t with
      | @cons v0 _ _ _ t0 t1 =>
        cases t1 with
        | @cons v1 _ _ _ t1 t2 =>
          cases t2
          refine ⟨.ref a, rfl, a, _, rfl, SqT.of h, rfl, _, _, rfl, _, _, rfl, rfl, ?_⟩
          refine ⟨v0, rfl, v0, d0, rfl, t0, _, rfl, ite2 (fun e3 => ?_) (fun e3 => ?_)⟩
          · have q' := q H Gr.refl
            have : isCovD (.tuple [d0, d1]) = false := cov_int d1 (notT e3)
            rw [this] at q'
            exact q'
          obtain ⟨m, rfl⟩ := whole_int (notF e3)
          cases t0
          have no : (decide (1 ≤ m) && (decide (m ≤ 6) && true)) = false → isCovD (.tuple [.int m, d1]) = false := fun z => by
            show covParts (.int m) d1 = false
            by_cases hb : isTupD d1 = true
            · obtain ⟨ds, rfl⟩ := tup_of hb
              show (decide (1 ≤ m) && (decide (m ≤ 6) && ds.all (isProdD m))) = false
              cases h1 : decide (1 ≤ m)
              · rfl
              · rw [h1] at z
                cases h2 : decide (m ≤ 6)
                · rfl
                · rw [h2] at z; cases z
            · exact cov_tup m hb
          refine ⟨.int m, rfl, 1, _, rfl, rfl, _, rfl, ite2 (fun e4 => ?_) (fun e4 => ?_)⟩
          · refine ⟨_, 6, rfl, rfl, _, rfl, ite2 (fun e5 => ?_) (fun e5 => ?_)⟩
            · have q' := q H Gr.refl
              have e5 : decide (m ≤ 6) = false := by simpa using e5
              rw [no (by rw [e5, Bool.false_and, Bool.and_false])] at q'
              exact q'
            have e5 : decide (m ≤ 6) = true := by simpa using e5
            refine ⟨v1, rfl, _, _, _, _, _, rfl, .ty _, t1.ty, kit_ty (kitTup d1), _, rfl, ite2 (fun e6 => ?_) (fun e6 => ?_)⟩
            · obtain ⟨ds, rfl⟩ := tup_of e6
              cases t1 with
              | @tup b ys _ hb tb =>
                have ly := tb.length
                have val : isCovD (.tuple [.int m, .tuple ds]) = ds.all (isProdD m) := by
                  show (decide (1 ≤ m) && (decide (m ≤ 6) && ds.all (isProdD m))) = _
                  rw [e4, e5]
                  rfl
                rw [val] at q
                have wd : PyData.weightAll ds ≤ 50000 := by
                  have : m.natAbs + 0 ≤ m.natAbs := Nat.le_refl _
                  have w2 := weight_get (ds := [.int m, .tuple ds]) (j := 1) (d := .tuple ds) rfl
                  have w3 : (PyData.tuple [.int m, .tuple ds]).weight = PyData.weightAll [.int m, .tuple ds] := rfl
                  have w4 : (PyData.tuple ds).weight = PyData.weightAll ds := rfl
                  omega
                refine ⟨.ref b, rfl, b, rfl, ⟨_, SqT.of hb⟩, tab, fun H2 tb2 => ?_⟩
                have g2 := Gr.tab tab tb2
                refine gx_tup (K := K) (a := b) (xs := ys) (fun j _ H' => Gr H H' ∧ (ds.take j).all (isProdD m) = true) ⟨g2, rfl⟩ (fun j _ H' _ e => SqT.of (e.1.tup hb)) ?_ ?_
                · rintro j x _ H' hx ⟨g3, p⟩
                  obtain ⟨e0, he0, te0⟩ := tb.get hx
                  refine ⟨rfl, .int m, rfl, x, rfl, m, x, e0, rfl, te0.gr g3, Nat.le_trans (weight_get he0) wd, g3.2 _ tab0, fun H4 g4 => ⟨_, rfl, ite2 (fun z => ⟨g3.trans g4, all_take he0 p z⟩) (fun z => ?_)⟩⟩
                  have q' := q H4 (g3.trans g4)
                  rw [all_stop he0 z] at q'
                  exact q'
                · rintro _ H' ⟨g3, p⟩
                  rw [ly, List.take_length] at p
                  have q' := q H' g3
                  rw [p] at q'
                  exact q'
            · have q' := q H Gr.refl
              have : isCovD (.tuple [.int m, d1]) = false := cov_tup m e6
              rw [this] at q'
              exact q'
          · have q' := q H Gr.refl
            have e4 : decide (1 ≤ m) = false := by simpa using e4
            rw [no (by rw [e4]; rfl)] at q'
            exact ⟨false, rfl, iteT q'⟩

end
end Gk

set_option Elab.async false
set_option linter.all false
set_option maxRecDepth 100000
set_option maxHeartbeats 1000000
set_option pp.maxSteps 1500
set_option pp.deepTerms false
namespace Gk
open PySem PySem.Spec PyProof.Rows L2
theorem str_len (x : String) : (Str.ofString x).length = x.length := PySem.ofString_length x
/-! ### what is spoilt stays small -/
mutual
def gd (B : Nat) : PyData → Bool
  | .none => true
  | .bool _ => true
  | .int i => decide (i.natAbs ≤ B)
  | .str x => x.cps.toList.all fun c => decide (c < 128)
  | .list xs => gds B xs
  | .tuple xs => gds B xs
  | .dict kvs => kvs.isEmpty
def gds (B : Nat) : List PyData → Bool
  | [] => true
  | x :: r => gd B x && gds B r
end
theorem gds_iff {B : Nat} : ∀ {l : List PyData}, gds B l = true ↔ ∀ x ∈ l, gd B x = true
  | [] => ⟨fun _ x hx => (by cases hx), fun _ => rfl⟩
  | y :: r => by
    show (gd B y && gds B r) = true ↔ _
    rw [Bool.and_eq_true, gds_iff (l := r)]
    exact ⟨fun ⟨a, b⟩ x hx => (List.mem_cons.mp hx).elim (fun e => e ▸ a) (b x), fun h => ⟨h y (List.mem_cons_self ..), fun x hx => h x (List.mem_cons_of_mem _ hx)⟩⟩
mutual
theorem gd_mono {B C : Nat} (h : B ≤ C) : ∀ {d : PyData}, gd B d = true → gd C d = true
  | .none, _ => rfl
  | .bool _, _ => rfl
  | .int _, e => decide_eq_true (Nat.le_trans (of_decide_eq_true e) h)
  | .str _, e => e
  | .list _, e => gds_mono h e
  | .tuple _, e => gds_mono h e
  | .dict _, e => e
theorem gds_mono {B C : Nat} (h : B ≤ C) : ∀ {l : List PyData}, gds B l = true → gds C l = true
  | [], _ => rfl
  | _ :: _, e => by
    have e' := Bool.and_eq_true_iff.mp e
    exact Bool.and_eq_true_iff.mpr ⟨gd_mono h e'.1, gds_mono h e'.2⟩
end
theorem small_log {i : Int} {B : Nat} (h : i.natAbs ≤ B) (hB : B < 2 ^ 190) : i.natAbs.log2 < 190 := by
  by_cases z : i.natAbs = 0
  · rw [z]; decide
  · exact (Nat.log2_lt z).mpr (Nat.lt_of_le_of_lt h hB)
mutual
theorem gd_show {B : Nat} (hB : B < 2 ^ 190) : ∀ {d : PyData}, gd B d = true → d.showable = true ∧ d.leavesShort 200 = true
  | .none, _ => ⟨rfl, rfl⟩
  | .bool _, _ => ⟨rfl, rfl⟩
  | .int i, e => by
    have l := small_log (of_decide_eq_true e) hB
    refine ⟨decide_eq_true (Nat.lt_trans l (by decide)), decide_eq_true ?_⟩
    have := PySem.int_text_length_le (a := i) (k := 190) (by decide) l
    show (Str.ofString (toString i)).length ≤ 200
    rw [str_len]
    omega
  | .str x, e => by
    refine ⟨rfl, ?_⟩
    show (x.cps.toList.all fun c => decide (c < 16 ^ 8)) = true
    refine List.all_eq_true.mpr fun c hc => decide_eq_true (Nat.lt_trans (of_decide_eq_true (List.all_eq_true.mp e c hc)) (by decide))
  | .list _, e => gds_show hB e
  | .tuple _, e => gds_show hB e
  | .dict [], _ => ⟨rfl, rfl⟩
  | .dict (_ :: _), e => by cases e
theorem gds_show {B : Nat} (hB : B < 2 ^ 190) : ∀ {l : List PyData}, gds B l = true → PyData.showableAll l = true ∧ PyData.leavesShortAll 200 l = true
  | [], _ => ⟨rfl, rfl⟩
  | _ :: _, e => by
    have e' := Bool.and_eq_true_iff.mp e
    have a := gd_show hB e'.1
    have b := gds_show hB e'.2
    exact ⟨Bool.and_eq_true_iff.mpr ⟨a.1, b.1⟩, Bool.and_eq_true_iff.mpr ⟨a.2, b.2⟩⟩
end
def Fit (B n m : Nat) (d : PyData) : Prop := gd B d = true ∧ d.weight ≤ n ∧ d.depth ≤ m
def FitL (B n m : Nat) (ds : List PyData) : Prop := gds B ds = true ∧ PyData.weightAll ds ≤ n ∧ PyData.depthAll ds ≤ m
theorem Fit.mono {B n m B' n' m' : Nat} {d : PyData} (h : Fit B n m d) (a : B ≤ B') (b : n ≤ n') (c : m ≤ m') : Fit B' n' m' d := ⟨gd_mono a h.1, Nat.le_trans h.2.1 b, Nat.le_trans h.2.2 c⟩
theorem Fit.tup {B n m : Nat} {ds : List PyData} (h : FitL B n m ds) : Fit B n (m + 1) (.tuple ds) := ⟨h.1, h.2.1, Nat.succ_le_succ h.2.2⟩
theorem Fit.lst {B n m : Nat} {ds : List PyData} (h : FitL B n m ds) : Fit B n (m + 1) (.list ds) := ⟨h.1, h.2.1, Nat.succ_le_succ h.2.2⟩
theorem Fit.inv {B n m : Nat} {ds : List PyData} (h : Fit B n (m + 1) (.tuple ds)) : FitL B n m ds := ⟨h.1, h.2.1, Nat.le_of_succ_le_succ h.2.2⟩
theorem Fit.fine {B n m : Nat} {d : PyData} (h : Fit B n m d) (hB : B < 2 ^ 190) (hn : n ≤ 50000) (hm : m ≤ 50) : d.showable = true ∧ d.shown.length ≤ sizeLine ∧ d.depth ≤ 50 := by
  have s := gd_show hB h.1
  exact ⟨s.1, fine_fits (n := n) (m := m) (fine_iff.mpr ⟨s.1, s.2, h.2.1, h.2.2⟩) hn, Nat.le_trans h.2.2 hm⟩
theorem weight_app : ∀ a b : List PyData, PyData.weightAll (a ++ b) = PyData.weightAll a + PyData.weightAll b
  | [], b => (Nat.zero_add _).symm
  | x :: r, b => by
    show x.weight + 1 + PyData.weightAll (r ++ b) = x.weight + 1 + PyData.weightAll r + PyData.weightAll b
    rw [weight_app r b]
    omega
theorem depth_app : ∀ a b : List PyData, PyData.depthAll (a ++ b) = max (PyData.depthAll a) (PyData.depthAll b)
  | [], b => (Nat.zero_max _).symm
  | x :: r, b => by
    show max x.depth (PyData.depthAll (r ++ b)) = max (max x.depth (PyData.depthAll r)) (PyData.depthAll b)
    rw [depth_app r b, Nat.max_assoc]
theorem FitL.app {B n n' m : Nat} {a b : List PyData} (h : FitL B n m a) (g : FitL B n' m b) : FitL B (n + n') m (a ++ b) := by
  refine ⟨gds_iff.mpr fun x hx => ?_, ?_, ?_⟩
  · rcases List.mem_append.mp hx with z | z
    · exact gds_iff.mp h.1 x z
    · exact gds_iff.mp g.1 x z
  · rw [weight_app]
    exact Nat.add_le_add h.2.1 g.2.1
  · rw [depth_app]
    exact Nat.max_le.mpr ⟨h.2.2, g.2.2⟩
theorem FitL.parts {B n m : Nat} {a b : List PyData} (h : FitL B n m (a ++ b)) : FitL B n m a ∧ FitL B n m b := by
  obtain ⟨h1, h2, h3⟩ := h
  rw [weight_app] at h2
  rw [depth_app] at h3
  exact ⟨⟨gds_iff.mpr fun x hx => gds_iff.mp h1 x (List.mem_append_left _ hx), by omega, by omega⟩, ⟨gds_iff.mpr fun x hx => gds_iff.mp h1 x (List.mem_append_right _ hx), by omega, by omega⟩⟩
theorem FitL.take {B n m : Nat} {a : List PyData} (h : FitL B n m a) (k : Nat) : FitL B n m (a.take k) := by
  rw [← List.take_append_drop k a] at h
  exact h.parts.1
theorem FitL.drop {B n m : Nat} {a : List PyData} (h : FitL B n m a) (k : Nat) : FitL B n m (a.drop k) := by
  rw [← List.take_append_drop k a] at h
  exact h.parts.2
theorem FitL.one {B n m : Nat} {d : PyData} (h : Fit B n m d) : FitL B (n + 1) m [d] := by
  refine ⟨gds_iff.mpr fun x hx => by rw [List.mem_singleton.mp hx]; exact h.1, ?_, ?_⟩
  · show d.weight + 1 + 0 ≤ n + 1
    have := h.2.1
    omega
  · show max d.depth 0 ≤ m
    have := h.2.2
    omega
theorem FitL.get {B n m : Nat} {ds : List PyData} (h : FitL B n m ds) {j : Nat} {d : PyData} (e : ds[j]? = some d) : Fit B n m d := by
  have s : ds = ds.take j ++ [d] ++ ds.drop (j + 1) := by
    obtain ⟨hl, e'⟩ := List.getElem?_eq_some_iff.mp e
    rw [← e', List.append_assoc, List.singleton_append, List.getElem_cons_drop, List.take_append_drop]
  rw [s] at h
  obtain ⟨h1, h2, h3⟩ := h.parts.1.parts.2
  refine ⟨gds_iff.mp h1 d (List.mem_singleton.mpr rfl), ?_, ?_⟩
  · have : d.weight + 1 + 0 ≤ n := h2
    omega
  · have : max d.depth 0 ≤ m := h3
    omega
theorem weight_rev (a : List PyData) : PyData.weightAll a.reverse = PyData.weightAll a := by
  induction a with
  | nil => rfl
  | cons x r ih =>
    rw [List.reverse_cons, weight_app, ih]
    show PyData.weightAll r + (x.weight + 1 + 0) = x.weight + 1 + PyData.weightAll r
    omega
theorem depth_rev (a : List PyData) : PyData.depthAll a.reverse = PyData.depthAll a := by
  induction a with
  | nil => rfl
  | cons x r ih =>
    rw [List.reverse_cons, depth_app, ih]
    show max (PyData.depthAll r) (max x.depth 0) = max x.depth (PyData.depthAll r)
    omega
theorem FitL.rev {B n m : Nat} {a : List PyData} (h : FitL B n m a) : FitL B n m a.reverse :=
  ⟨gds_iff.mpr fun x hx => gds_iff.mp h.1 x (List.mem_reverse.mp hx), by rw [weight_rev]; exact h.2.1, by rw [depth_rev]; exact h.2.2⟩
theorem ShAll.rev {H : Hp} : ∀ {xs : List V} {ds : List PyData}, ShAll H xs ds → ShAll H xs.reverse ds.reverse
  | _, _, .nil => .nil
  | _, _, .cons a r => by
    rw [List.reverse_cons, List.reverse_cons]
    exact (ShAll.rev r).append (.cons a .nil)

section
variable {P : Program} {w : World} {K : PySem.W.Frag} {mg : Str → Option Value} {base : Heap}
/-! ### the law's own judges -/
theorem sg_dec {c k : Nat} {z : Str} (hz : z = SX.S [k]) : decide (V.str (⟨#[c]⟩ : Str) = V.str z) = decide (c = k) := by
  subst hz
  by_cases h : c = k
  · subst h
    exact (decide_eq_true (show V.str (⟨#[c]⟩ : Str) = V.str (SX.S [c]) from rfl)).trans (decide_eq_true (show c = c from rfl)).symm
  · rw [decide_eq_false h]
    refine decide_eq_false fun e => h ?_
    have e1 : (⟨#[c]⟩ : Str) = SX.S [k] := V.str.inj e
    have e2 : SX.S [c] = SX.S [k] := e1
    have := SX.S_inj e2
    simpa using this
theorem z0_S : Str.ofString "0" = SX.S [48] := by decide +kernel
theorem z1_S : Str.ofString "1" = SX.S [49] := by decide +kernel
theorem zd_S : Str.ofString "-" = SX.S [45] := by decide +kernel
theorem sgB_iff {c : Nat} : sgB c = true ↔ c = 48 ∨ c = 49 ∨ c = 45 := by
  unfold sgB
  rw [decide_eq_true_eq, s3c_S]
  show c ∈ ([48, 49, 45] : List Nat) ↔ _
  simp
def cv (c : Nat) : V := .str ⟨#[c]⟩
def cd (c : Nat) : PyData := .str ⟨#[c]⟩
theorem dpCs {H : Hp} : ∀ cs : List Nat, DpAll K H (cs.map cv) (cs.map cd)
  | [] => .nil
  | _ :: r => .cons (.str _) (dpCs r)
theorem lay_cs : ∀ cs : List Nat, (∀ c ∈ cs, c < 128) → PyData.canLayAll0 (cs.map cd) = true
  | [], _ => rfl
  | c :: r, h => by
    show (PyData.canLay0 (.str ⟨#[c]⟩) && PyData.canLayAll0 (r.map cd)) = true
    rw [lay_cs r fun x hx => h x (List.mem_cons_of_mem _ hx), Bool.and_true]
    simp only [PyData.canLay0, PyData.strOk]
    rw [Array.all_eq_true_iff_forall_mem]
    intro x hx
    have : x = c := by simpa using hx
    have hc := h c (List.mem_cons_self ..)
    refine decide_eq_true ?_
    rw [this]
    exact Nat.lt_of_lt_of_le hc (by decide)
theorem dep_cs : ∀ cs : List Nat, PyData.depthAll (cs.map cd) ≤ 0
  | [] => Nat.le_refl _
  | c :: r => by
    rw [List.map_cons]
    unfold PyData.depthAll
    have := dep_cs r
    have e : (cd c).depth = 0 := rfl
    rw [e]
    omega
theorem sh_cs {cs : List Nat} (h : ∀ c ∈ cs, c < 128) : SeqAt.shaped (.list (cs.map cd)) = true := by
  unfold SeqAt.shaped
  rw [Bool.and_eq_true]
  refine ⟨?_, decide_eq_true ?_⟩
  · simp only [PyData.canLay0, lay_cs cs h]
  · have := dep_cs cs
    simp only [PyData.depth]
    omega
theorem eq_cs (cs : List Nat) : PyData.eqv (.list (cs.map cd)) (.list []) = cs.isEmpty := by cases cs <;> rfl
theorem fil_all (cs : List Nat) : (cs.filter fun c => !sgB c).isEmpty = cs.all sgB := by
  induction cs with
  | nil => rfl
  | cons c r ih =>
    rw [List.filter_cons, List.all_cons]
    cases h : sgB c
    · rfl
    · exact ih
def sp_l_is_product (K : PySem.W.Frag) : Sp := fun vs H Q _ => ∃ (m : Int) (v : V) (d : PyData) (B : Nat), vs = [.int m, v] ∧ Sh H v d ∧ d.weight ≤ 50000 ∧ gd B d = true ∧ ∀ H', Same H H' → Q (.bl (isProdD m d)) H'
theorem ok_l_is_product (T : Tx K mg) : FnOk P w K mg base CX0 1 T.f_l_is_product T.fd_l_is_product ["_law_many_here", "_law_thing"] (sp_l_is_product K) := by
  refine T.F_l_is_product.ok sc_l_is_product (fun vs H Q E h => ?_) (fun cdv A outer s H vs Q E hr h => ?_)
  · obtain ⟨m, v, d, B, rfl, _⟩ := h
    rfl
  · obtain ⟨m, v, d, B, rfl, sh, wt, g, q⟩ := h
    refine ⟨_, (pss_cons (ps_if (pw_or (pt_not (pt_val (pe_callB call_isi (by rfl) T.m_isinstance (by decide +kernel) (pa_cons (pv 1) (pa_cons (pe_bltn (v := .ty "str") (u := .type "str") (by rfl) T.m_str (by decide +kernel) rfl) pa_nil))))) (pw_or1 (pt_cmpR op_ne (pe_callB call_len_str (by rfl) T.m_len PySem.boot_len (pa_cons (pv 1) pa_nil)) (pv 0) (nomark _)))).pt (pss_one (ps_ret pe_bl)) pss_nil) (pss_one (ps_ret (pe_cmpR (op_eqD hr.units) (pe_lc (own := [("_law_sign", 2)]) (by rfl) sc_l_is_product.nd (pi_str (pv 1)) (blkOk_by (own := [("_law_sign", 2)]) (N := ["_law_many_here", "_law_thing", "_law_sign"]) (sc := defScope s_l_is_product) (by decide +kernel)) (fun _ _ _ _ _ => (pg_name (i := 2) sc_l_is_product.nd rfl (by first | exact .inl rfl | exact .inr rfl))) (fun _ _ _ _ _ => (pts_one (PW.pt (pw_and (pt_cmpR op_ne (pv 2) pe_str (nomark _)) (pw_and (pt_cmpR op_ne (pv 2) pe_str (nomark _)) (pw_and1 (pt_cmpR op_ne (pv 2) pe_str (nomark _)))))))) (fun _ _ _ _ _ => (pv 2))) (pe_lst pa_nil) (nomark _))))), ?_⟩
    refine ⟨v, rfl, _, _, _, _, _, rfl, .ty _, sh.ty, kit_ty (kitStr d), _, rfl, ite2 (fun e => ?_) (fun e => ?_)⟩
    · have q' := q H (Same.refl _)
      rw [prod_not (notT e)] at q'
      exact q'
    obtain ⟨x, rfl⟩ := strD_of (notF e)
    cases sh
    have lx : x.length ≤ 50000 := wt
    have c128 : ∀ c ∈ x.cps.toList, c < 128 := fun c hc => of_decide_eq_true (List.all_eq_true.mp g c hc)
    refine ⟨.str x, rfl, x, rfl, w_line wt, .int m, rfl, rfl, _, rfl, ?_⟩
    rw [len_eqI]
    refine ite2 (fun e1 => ?_) (fun e1 => ?_)
    · have q' := q H (Same.refl _)
      have : isProdD m (.str x) = false := by
        show (decide ((x.length : Int) = m) && x.cps.toList.all sgB) = false
        have e1 : decide ((x.length : Int) = m) = false := by simpa using e1
        rw [e1, Bool.false_and]
      rw [this] at q'
      exact q'
    have e1 : decide ((x.length : Int) = m) = true := by simpa using e1
    refine ⟨.str x, rfl, x, rfl, fun L nL => ?_⟩
    refine lc_str (z := x) (fun j H' => Same H (hd1 L H') ∧ H' L = some (.lst (((x.cps.toList.take j).filter fun c => !sgB c).map cv))) ⟨hd1_of (same_upd nL) nL, upd_same⟩ ?_ ?_
    · rintro j c H1 hx ⟨s1, hL⟩
      have hc := cps_at hx
      have hjl := (List.getElem?_eq_some_iff.mp hc).1
      rw [Array.length_toList] at hjl
      have hjl : j < x.length := hjl
      have keep : sgB c = true → Same H (hd1 L H1) ∧ H1 L = some (.lst (((x.cps.toList.take (j + 1)).filter fun c => !sgB c).map cv)) := fun z => by
        refine ⟨s1, ?_⟩
        rw [hL, List.take_add_one, hc, List.filter_append]
        show _ = some (HO.lst ((_ ++ [c].filter fun c => !sgB c).map cv))
        rw [List.filter_cons, z]
        show _ = some (HO.lst ((_ ++ []).map cv))
        rw [List.append_nil]
      refine ⟨rfl, .str ⟨#[c]⟩, rfl, rfl, _, rfl, ?_⟩
      rw [sg_dec z0_S]
      refine ite2 (fun z => ?_) (fun z => keep (sgB_iff.mpr (.inl (by simpa using z))))
      refine ⟨.str ⟨#[c]⟩, rfl, rfl, _, rfl, ?_⟩
      rw [sg_dec z1_S]
      refine ite2 (fun z1 => ?_) (fun z1 => keep (sgB_iff.mpr (.inr (.inl (by simpa using z1)))))
      refine ⟨.str ⟨#[c]⟩, rfl, rfl, _, rfl, ?_⟩
      rw [sg_dec zd_S]
      refine ite2 (fun z2 => ?_) (fun z2 => keep (sgB_iff.mpr (.inr (.inr (by simpa using z2)))))
      have ng : sgB c = false := by
        cases h : sgB c
        · rfl
        · rcases sgB_iff.mp h with y | y | y
          · rw [y] at z; cases z
          · rw [y] at z1; cases z1
          · rw [y] at z2; cases z2
      refine ⟨.str ⟨#[c]⟩, rfl, _, hL, ?_, s1.trans hd1_upd, ?_⟩
      · rw [List.length_map]
        have := List.length_filter_le (fun c => !sgB c) (x.cps.toList.take j)
        rw [List.length_take] at this
        exact Nat.lt_of_lt_of_le (show _ < 60000 by omega) (by decide)
      · rw [upd_same, List.take_add_one, hc, List.filter_append]
        show _ = some (HO.lst ((_ ++ [c].filter fun c => !sgB c).map cv))
        rw [List.filter_cons, ng]
        show _ = some (HO.lst ((_ ++ [c]).map cv))
        rw [List.map_append]
        rfl
    · rintro H1 ⟨s1, hL⟩
      have es : x.cps.size = x.cps.toList.length := Array.length_toList.symm
      rw [es, List.take_length] at hL
      refine ⟨Nat.zero_le _, fun e0 ne0 => ?_⟩
      have s2 := same_upd (o := HO.lst []) ne0
      refine ⟨.list (((x.cps.toList).filter fun c => !sgB c).map cd), .list [], .lst (SqL.of (s2 _ _ hL)) (dpCs _), .lst (SqL.of upd_same) .nil, sh_cs fun c hc => c128 c (List.mem_filter.mp hc).1, rfl, ?_⟩
      rw [eq_cs, fil_all]
      have q' := q _ (Same.trans (fun b o e => hd1_le _ _ (s1 _ _ e)) s2)
      have : isProdD m (.str x) = x.cps.toList.all sgB := by
        show (decide ((x.length : Int) = m) && x.cps.toList.all sgB) = _
        rw [e1, Bool.true_and]
      rw [this] at q'
      exact q'
theorem gds_get {B : Nat} {ds : List PyData} {j : Nat} {d : PyData} (h : gds B ds = true) (e : ds[j]? = some d) : gd B d = true := gds_iff.mp h d (List.mem_of_getElem? e)
def sp_l_is_cover (K : PySem.W.Frag) : Sp := fun vs H Q _ => ∃ (v : V) (d : PyData) (B : Nat), vs = [v] ∧ Sh H v d ∧ d.weight ≤ 50000 ∧ gd B d = true ∧ ∀ H', Same H H' → Q (.bl (isCovD d)) H'
theorem ok_l_is_cover (T : Tx K mg) : FnOk P w K mg base CX0 2 T.f_l_is_cover T.fd_l_is_cover ["_law_thing"] (sp_l_is_cover K) := by
  refine T.F_l_is_cover.ok sc_l_is_cover (fun vs H Q E h => ?_) (fun cdv A outer s H vs Q E hr h => ?_)
  · obtain ⟨v, d, B, rfl, _⟩ := h
    rfl
  · obtain ⟨v, d, B, rfl, sh, wt, g, q⟩ := h
    refine ⟨_, (pss_cons (ps_if (pw_or (pt_not (pt_val (pe_callB call_isi (by rfl) T.m_isinstance (by decide +kernel) (pa_cons (pv 0) (pa_cons (pe_bltn (v := .ty "tuple") (u := .type "tuple") (by rfl) T.m_tuple (by decide +kernel) rfl) pa_nil))))) (pw_or (pt_cmpR op_ne (pe_callB call_len_seq (by rfl) T.m_len PySem.boot_len (pa_cons (pv 0) pa_nil)) pe_int (nomark _)) (pw_or1 (pt_not (pt_val (pe_callB call_isi (by rfl) T.m_isinstance (by decide +kernel) (pa_cons (pe_ix ix_tup (pv 0) pe_int (fun _ _ => rfl)) (pa_cons (pe_bltn (v := .ty "tuple") (u := .type "tuple") (by rfl) T.m_tuple (by decide +kernel) rfl) pa_nil)))))))).pt (pss_one (ps_ret pe_bl)) pss_nil) (pss_cons (ps_if (pw_or (pt_not (pt_val (pe_callB call_isi (by rfl) T.m_isinstance (by decide +kernel) (pa_cons (pe_ix ix_tup (pv 0) pe_int (fun _ _ => rfl)) (pa_cons (pe_bltn (v := .ty "int") (u := .type "int") (by rfl) T.m_int (by decide +kernel) rfl) pa_nil))))) (pw_or (pt_val (pe_callB call_isi (by rfl) T.m_isinstance (by decide +kernel) (pa_cons (pe_ix ix_tup (pv 0) pe_int (fun _ _ => rfl)) (pa_cons (pe_bltn (v := .ty "bool") (u := .type "bool") (by rfl) T.m_bool (by decide +kernel) rfl) pa_nil)))) (pw_or (pt_cmpR op_lt (pe_ix ix_tup (pv 0) pe_int (fun _ _ => rfl)) pe_int (nomark _)) (pw_or1 (pt_cmpR op_gt (pe_ix ix_tup (pv 0) pe_int (fun _ _ => rfl)) pe_int (nomark _)))))).pt (pss_one (ps_ret pe_bl)) pss_nil) (pss_one (ps_ret (pe_callB (cr_all rfl) (by rfl) T.m_all (by decide +kernel) (pa_cons (pe_lc (own := [("_law_product_here", 1)]) (by rfl) sc_l_is_cover.nd (pi_tup (pe_ix ix_tup (pv 0) pe_int (fun _ _ => rfl))) (blkOk_by (own := [("_law_product_here", 1)]) (N := ["_law_thing", "_law_product_here"]) (sc := defScope s_l_is_cover) (by decide +kernel)) (fun _ _ _ _ _ => (pg_name (i := 1) sc_l_is_cover.nd rfl (by first | exact .inl rfl | exact .inr rfl))) (fun _ _ _ _ _ => pts_nil) (fun _ _ _ _ _ => (pe_call (ok_l_is_product T) (hr.mono (by decide)) (by rfl) T.g_l_is_product T.F_l_is_product.kp T.b_l_is_product .nil pass0 (pa_cons (pe_ix (show IxR _ (rIxT K) from ix_tup) (pv 0) pe_int (fun _ _ => rfl)) (pa_cons (pv 1) pa_nil))))) pa_nil)))))), ?_⟩
    refine ⟨v, rfl, _, _, _, _, _, rfl, .ty _, sh.ty, kit_ty (kitTup d), _, rfl, ite2 (fun e => ?_) (fun e => ?_)⟩
    · have q' := q H (Same.refl _)
      rw [cov_not (notT e)] at q'
      exact q'
    obtain ⟨ds, rfl⟩ := tup_of (notF e)
    cases sh with
    | @tup a xs _ h t =>
      have lx := t.length
      refine ⟨.ref a, rfl, a, xs, rfl, .inr (SqT.of h), rfl, _, rfl, ?_⟩
      have e2 : decide (V.int (xs.length : Int) = V.int 2) = decide (ds.length = 2) := by
        rw [lx, len_eqI]
        by_cases z : ds.length = 2
        · rw [decide_eq_true z, decide_eq_true (by omega)]
        · rw [decide_eq_false z, decide_eq_false (by omega)]
      rw [e2]
      refine ite2 (fun e1 => ?_) (fun e1 => ?_)
      · have q' := q H (Same.refl _)
        rw [cov_len (fun z => by rw [z] at e1; cases e1)] at q'
        exact q'
      obtain ⟨d0, d1, rfl⟩ := two_of (ds := ds) (of_decide_eq_true (notF e1))
      cases t with
      | @cons v0 _ _ _ t0 t1 =>
        cases t1 with
        | @cons v1 _ _ _ t1 t2 =>
          cases t2
          refine ⟨.ref a, rfl, a, _, 1, v1, rfl, rfl, SqT.of h, rfl, _, _, _, _, _, rfl, .ty _, t1.ty, kit_ty (kitTup d1), _, rfl, ite2 (fun e3 => ?_) (fun e3 => ?_)⟩
          · have q' := q H (Same.refl _)
            have : isCovD (.tuple [d0, d1]) = false := by
              show covParts d0 d1 = false
              by_cases z : wholeD d0 = true
              · obtain ⟨m, rfl⟩ := whole_int z
                exact cov_tup m (notT e3)
              · exact cov_int d1 z
            rw [this] at q'
            exact q'
          obtain ⟨ds, rfl⟩ := tup_of (notF e3)
          refine ⟨.ref a, rfl, a, _, 0, v0, rfl, rfl, SqT.of h, rfl, _, _, _, _, _, rfl, .ty _, t0.ty, kit_ty (kitInt d0), _, rfl, ite2 (fun e4 => ?_) (fun e4 => ?_)⟩
          · have q' := q H (Same.refl _)
            have : isCovD (.tuple [d0, .tuple ds]) = false := show covParts d0 (.tuple ds) = false from cov_int _ (by rw [whole_not (notT e4)]; decide)
            rw [this] at q'
            exact q'
          refine ⟨.ref a, rfl, a, _, 0, v0, rfl, rfl, SqT.of h, rfl, _, _, _, _, _, rfl, .ty _, t0.ty, kit_ty (kitBool d0), _, rfl, ite2 (fun e5 => ?_) (fun e5 => ?_)⟩
          · have q' := q H (Same.refl _)
            have : isCovD (.tuple [d0, .tuple ds]) = false := show covParts d0 (.tuple ds) = false from cov_int _ (by rw [whole_of (notF e4), e5]; decide)
            rw [this] at q'
            exact q'
          obtain ⟨m, rfl⟩ := whole_int (d := d0) (by rw [whole_of (notF e4), Bool.eq_false_iff.mpr e5]; rfl)
          cases t0
          have val : isCovD (.tuple [.int m, .tuple ds]) = (decide (1 ≤ m) && (decide (m ≤ 6) && ds.all (isProdD m))) := rfl
          refine ⟨.ref a, rfl, a, _, 0, .int m, rfl, rfl, SqT.of h, rfl, _, _, rfl, rfl, _, rfl, ite2 (fun e6 => ?_) (fun e6 => ?_)⟩
          · have q' := q H (Same.refl _)
            have e6 := of_decide_eq_true e6
            rw [val, decide_eq_false (show ¬ 1 ≤ m by omega), Bool.false_and] at q'
            exact q'
          have e6 : ¬ m < 1 := fun z => e6 (decide_eq_true z)
          refine ⟨.ref a, rfl, a, _, 0, .int m, rfl, rfl, SqT.of h, rfl, _, _, rfl, rfl, _, rfl, ite2 (fun e7 => ?_) (fun e7 => ?_)⟩
          · have q' := q H (Same.refl _)
            have e7 := of_decide_eq_true e7
            rw [val, decide_eq_false (show ¬ m ≤ 6 by omega), Bool.false_and, Bool.and_false] at q'
            exact q'
          have e7 : ¬ m > 6 := fun z => e7 (decide_eq_true z)
          have val : isCovD (.tuple [.int m, .tuple ds]) = ds.all (isProdD m) := by
            rw [val, decide_eq_true (show 1 ≤ m by omega), decide_eq_true (show m ≤ 6 by omega)]
            rfl
          rw [val] at q
          cases t1 with
          | @tup b ys _ hb tb =>
            have ly := tb.length
            have wd : PyData.weightAll ds ≤ 50000 := by
              have w2 := weight_get (ds := [.int m, .tuple ds]) (j := 1) (d := .tuple ds) rfl
              have w3 : (PyData.tuple [.int m, .tuple ds]).weight = PyData.weightAll [.int m, .tuple ds] := rfl
              have w4 : (PyData.tuple ds).weight = PyData.weightAll ds := rfl
              omega
            have gds' : gds B ds = true := gds_get (B := B) (ds := [.int m, .tuple ds]) (j := 1) (d := .tuple ds) g rfl
            have few : ds.length ≤ 50000 := by
              have : ∀ l : List PyData, l.length ≤ PyData.weightAll l := fun l => by
                induction l with
                | nil => exact Nat.le_refl _
                | cons x r ih =>
                  show r.length + 1 ≤ x.weight + 1 + PyData.weightAll r
                  omega
              exact Nat.le_trans (this ds) wd
            refine ⟨.ref a, rfl, a, _, 1, .ref b, rfl, rfl, SqT.of h, rfl, b, rfl, ⟨_, SqT.of hb⟩, fun L nL => ?_⟩
            refine lc_tup (K := K) (a := b) (xs := ys) (fun j H' => Same H (hd1 L H') ∧ H' L = some (.lst (((ds.take j).map (isProdD m)).map V.bl))) ⟨hd1_of (same_upd nL) nL, upd_same⟩ (fun j H' _ z => SqT.of (hd1_le _ _ (z.1 _ _ hb))) ?_ ?_
            · rintro j x H1 hx ⟨s1, hL⟩
              obtain ⟨e0, he0, te0⟩ := tb.get hx
              have hjl := (List.getElem?_eq_some_iff.mp he0).1
              have s1' : Same H H1 := fun b o e => hd1_le _ _ (s1 _ _ e)
              refine ⟨rfl, .ref a, rfl, a, _, 0, .int m, rfl, rfl, SqT.of (s1' _ _ h), rfl, x, rfl, m, x, e0, B, rfl, te0.same s1', Nat.le_trans (weight_get he0) wd, gds_get gds' he0, fun H2 s2 => ⟨_, s2 _ _ hL, ?_, (s1.trans (hd1_same s2)).trans hd1_upd, ?_⟩⟩
              · rw [List.length_map, List.length_map, List.length_take]
                exact Nat.lt_of_lt_of_le (show _ < 60000 by omega) (by decide)
              · rw [upd_same, List.take_add_one, he0]
                show some (HO.lst (_ ++ [_])) = some (HO.lst (((_ ++ [e0]).map _).map V.bl))
                rw [List.map_append, List.map_append]
                rfl
            · rintro H1 ⟨s1, hL⟩
              rw [ly, List.take_length] at hL
              refine ⟨L, ds.map (isProdD m), rfl, SqL.of hL, ?_⟩
              have e : (ds.map (isProdD m)).all id = ds.all (isProdD m) := by rw [List.all_map]; rfl
              rw [e]
              exact q H1 fun b o e => hd1_le _ _ (s1 _ _ e)

end
end Gk

set_option Elab.async false
set_option linter.all false
set_option maxRecDepth 100000
set_option maxHeartbeats 1000000
set_option pp.maxSteps 1500
set_option pp.deepTerms false
namespace Gk
open PySem PySem.Spec PyProof.Rows L2
/-! ### numbers, truths among them -/
namespace NumZ
section
variable {X : Cx}
def nz : V → Option Int
  | .int i => some i
  | .bl b => some (if b = true then 1 else 0)
  | _ => none
def rAddZ : R2 := fun x y H Q => ∃ i j, nz x = some i ∧ y = .int j ∧ Q (.int (i + j)) H
theorem op_addZ : OpR X (binaryOp .Add) rAddZ := by
  intro pins s σ H x y v u Q I rx ry h
  obtain ⟨i, j, hx, rfl, q⟩ := h
  cases x with
  | int k =>
    cases Option.some.inj hx
    exact op_add pins s σ H (.int i) (.int j) v u Q I rx ry ⟨i, j, rfl, rfl, q⟩
  | bl b =>
    cases Option.some.inj hx
    cases (show v = Value.bool b from rx)
    obtain ⟨t, rfl⟩ := ry
    exact PySem.IntBool.add_bool_int ⟨.int _, H, I.tok _, ⟨_, rfl⟩, q⟩
  | _ => cases hx
def rSubZ : R2 := fun x y H Q => ∃ i j, nz x = some i ∧ nz y = some j ∧ ((∃ k, x = .int k) ∨ ∃ k, y = .int k) ∧ Q (.int (i - j)) H
theorem op_subZ : OpR X (binaryOp .Sub) rSubZ := by
  intro pins s σ H x y v u Q I rx ry h
  obtain ⟨i, j, hx, hy, one, q⟩ := h
  cases x with
  | int k =>
    cases Option.some.inj hx
    cases y with
    | int m =>
      cases Option.some.inj hy
      exact op_sub pins s σ H (.int i) (.int j) v u Q I rx ry ⟨i, j, rfl, rfl, q⟩
    | bl b =>
      cases Option.some.inj hy
      obtain ⟨t, rfl⟩ := rx
      cases (show u = Value.bool b from ry)
      exact PySem.IntBool.sub_int_bool ⟨.int _, H, I.tok _, ⟨_, rfl⟩, q⟩
    | _ => cases hy
  | bl b =>
    cases Option.some.inj hx
    cases y with
    | int m =>
      cases Option.some.inj hy
      cases (show v = Value.bool b from rx)
      obtain ⟨t, rfl⟩ := ry
      exact PySem.IntBool.sub_bool_int ⟨.int _, H, I.tok _, ⟨_, rfl⟩, q⟩
    | bl c =>
      rcases one with ⟨k, z⟩ | ⟨k, z⟩ <;> cases z
    | _ => cases hy
  | _ => cases hx
def strZ : V → Str
  | .int i => toString i
  | .bl b => if b = true then Str.ofString "True" else Str.ofString "False"
  | _ => Str.empty
def rStrZ : List V → Hp → VK → Prop := fun xs H Q => ∃ x i, xs = [x] ∧ nz x = some i ∧ i.natAbs.log2 < 1920 ∧ Q (.str (strZ x)) H
theorem call_strZ : CallR X (.type "str") rStrZ := by
  intro pins s σ H xs us Q I r h
  obtain ⟨x, i, rfl, hx, small, q⟩ := h
  cases x with
  | int k =>
    cases Option.some.inj hx
    exact call_str_int pins s σ H [.int i] us Q I r ⟨i, rfl, small, q⟩
  | bl b =>
    obtain ⟨u, rfl, ru⟩ := vals1 r
    cases (show u = Value.bool b from ru)
    refine PySem.P.str_of_bool ⟨.str _, H, I.tok _, ⟨_, rfl⟩, ?_⟩
    cases b <;> exact q
  | _ => cases hx
/-- list(t), a list that is none of the interpreter's own -/
def rListN (K : PySem.W.Frag) : List V → Hp → VK → Prop := fun xs H Q => ∃ p ys, xs = [.ref p] ∧ SqT K H p ys ∧ ∀ l, H l = none → l ≠ sysModules → Q (.ref l) (upd H l (.lst ys))
theorem call_listN : CallR X (.type "list") (rListN X.K) := by
  intro pins s σ H xs us Q I r h
  obtain ⟨p, ys, rfl, src, q⟩ := h
  obtain ⟨u, rfl, rx⟩ := vals1 r
  cases rx
  obtain ⟨items, rv, ⟨o, ho, hc, n, hd⟩, few⟩ := I.tuple src
  refine call_list_seq p (.inr rfl) ho hc hd (fun hp c keep made => ?_) (by rw [List.size_toArray, ← rv.length]; exact few)
  exact ⟨.ref s.heap.objs.size, _, I.laid (t' := s.toks) keep (Nat.le_refl _) (show ObjOk X.prog X.w _ hp _ (.lst ys) from ⟨few, items, c, rv, made⟩), rfl, q _ (I.hok.fresh (Nat.le_refl _)) (Nat.ne_of_gt I.big)⟩
end
end NumZ

/-! ### heaps without some places -/
def hid (as : List Addr) (H : Hp) : Hp := fun b => if b ∈ as then none else H b
theorem hid_at {as : List Addr} {H : Hp} {b : Addr} (h : b ∉ as) : hid as H b = H b := if_neg h
theorem hid_in {as : List Addr} {H : Hp} {b : Addr} (h : b ∈ as) : hid as H b = none := if_pos h
theorem hid_le {as : List Addr} {H : Hp} : Same (hid as H) H := fun b o e => by
  by_cases h : b ∈ as
  · rw [hid_in h] at e; cases e
  · rw [hid_at h] at e; exact e
theorem hid_sub {as bs : List Addr} {H : Hp} (h : ∀ b ∈ bs, b ∈ as) : Same (hid as H) (hid bs H) := fun b o e => by
  by_cases ha : b ∈ as
  · rw [hid_in ha] at e; cases e
  · rw [hid_at ha] at e
    rw [hid_at (fun z => ha (h b z))]
    exact e
theorem hid_same {as : List Addr} {H H' : Hp} (s : Same H H') : Same (hid as H) (hid as H') := fun b o e => by
  by_cases ha : b ∈ as
  · rw [hid_in ha] at e; cases e
  · rw [hid_at ha] at e ⊢
    exact s _ _ e
theorem hid_fr {as : List Addr} {d l : Addr} {H H' : Hp} (f : Fr d l H H') (hd : d ∈ as) (hl : l ∈ as) : Same (hid as H) (hid as H') := fun b o e => by
  by_cases ha : b ∈ as
  · rw [hid_in ha] at e; cases e
  · rw [hid_at ha] at e ⊢
    exact f _ _ (fun z => ha (z ▸ hd)) (fun z => ha (z ▸ hl)) e
theorem hid_upd {as : List Addr} {H : Hp} {p : Addr} {o : HO} (h : p ∈ as) : Same (hid as H) (hid as (upd H p o)) := fun b x e => by
  by_cases ha : b ∈ as
  · rw [hid_in ha] at e; cases e
  · rw [hid_at ha] at e ⊢
    rw [upd_ne (show b ≠ p from fun z => ha (by rw [z]; exact h))]
    exact e

/-! ### the deck hidden -/
theorem DeckD.out {H : Hp} {d l p : Addr} {n : Int} (D : DeckD H d l n) (h : H p = none) : p ∉ [d, l] := by
  obtain ⟨a, b⟩ := D.off h
  intro z
  rcases List.mem_cons.mp z with z | z
  · exact a z
  · exact b (List.mem_singleton.mp z)
theorem in_d {d l : Addr} : d ∈ [d, l] := List.mem_cons_self ..
theorem in_l {d l : Addr} : l ∈ [d, l] := List.mem_cons_of_mem _ (List.mem_cons_self ..)
theorem pick_sh {H : Hp} {xs : List V} {ds : List PyData} {B n m : Nat} (t : ShAll H xs ds) (f : ∀ d ∈ ds, Fit B n m d) {j : Int} (h0 : 0 ≤ j) (h1 : j < xs.length) : ∃ x d, atI xs j = some x ∧ Sh H x d ∧ Fit B n m d := by
  obtain ⟨k, rfl⟩ := Int.eq_ofNat_of_zero_le h0
  have hk : k < xs.length := by omega
  obtain ⟨d, hd, td⟩ := t.get (List.getElem?_eq_getElem hk)
  exact ⟨_, d, atI_nat (List.getElem?_eq_getElem hk), td, f d (List.mem_of_getElem? hd)⟩
structure DA (as : List Addr) (H : Hp) (d l : Addr) (n : Int) : Prop where
  d1 : DeckD H d l n
  hd : d ∈ as
  hl : l ∈ as
  liv : ∀ b ∈ as, ∃ o, H b = some o ∧ ∀ xs, o ≠ HO.tup xs
theorem DA.same {as : List Addr} {H H' : Hp} {d l : Addr} {n : Int} (D : DA as H d l n) (s : Same H H') : DA as H' d l n := ⟨D.d1.same s, D.hd, D.hl, fun b hb => by
  obtain ⟨o, e, no⟩ := D.liv b hb
  exact ⟨o, s _ _ e, no⟩⟩
theorem DA.mono {as : List Addr} {H : Hp} {d l : Addr} {n m : Int} (D : DA as H d l n) (h : n ≤ m) : DA as H d l m := ⟨D.d1.mono h, D.hd, D.hl, D.liv⟩
theorem DA.off {as : List Addr} {H : Hp} {d l p : Addr} {n : Int} (D : DA as H d l n) (h : H p = none) : p ≠ d ∧ p ≠ l := D.d1.off h
theorem DA.out {as : List Addr} {H : Hp} {d l p : Addr} {n : Int} (D : DA as H d l n) (h : H p = none) : p ∉ as := fun z => by
  obtain ⟨o, e, _⟩ := D.liv p z
  rw [h] at e
  cases e
theorem DA.tupOut {as : List Addr} {H : Hp} {d l p : Addr} {n : Int} {xs : List V} (D : DA as H d l n) (h : H p = some (.tup xs)) : p ∉ as := fun z => by
  obtain ⟨o, e, no⟩ := D.liv p z
  rw [h] at e
  exact no xs (Option.some.inj e).symm
theorem DA.fr {as : List Addr} {H H' : Hp} {d l : Addr} {n m : Int} (D : DA as H d l n) (D' : DeckD H' d l m) (f : Fr d l H H') : DA as H' d l m := ⟨D', D.hd, D.hl, fun b hb => by
  obtain ⟨ne, cs, y, z, hd, hl, r⟩ := D'
  by_cases b1 : b = d
  · rw [b1]
    exact ⟨_, hd, fun xs z => by cases z⟩
  by_cases b2 : b = l
  · rw [b2]
    exact ⟨_, hl, fun xs z => by cases z⟩
  obtain ⟨o, e, no⟩ := D.liv b hb
  exact ⟨o, f _ _ b1 b2 e, no⟩⟩
theorem DeckD.da {H : Hp} {d l : Addr} {n : Int} (D : DeckD H d l n) : DA [d, l] H d l n := by
  refine ⟨D, in_d, in_l, fun b hb => ?_⟩
  obtain ⟨ne, cs, y, z, hd, hl, r⟩ := D
  rcases List.mem_cons.mp hb with b1 | b1
  · rw [b1]
    exact ⟨_, hd, fun xs z => by cases z⟩
  · rw [List.mem_singleton.mp b1]
    exact ⟨_, hl, fun xs z => by cases z⟩
theorem sh_tup {as : List Addr} {H : Hp} {d l p : Addr} {n : Int} {xs : List V} {ds : List PyData} (D : DA as H d l n) (h : H p = some (.tup xs)) (t : ShAll (hid as H) xs ds) : Sh (hid as H) (.ref p) (.tuple ds) := .tup (by rw [hid_at (D.tupOut h)]; exact h) t
theorem fit_S {B n m : Nat} {l : List Nat} (h : ∀ c ∈ l, c < 128) (hl : l.length ≤ n) : Fit B n m (.str (SX.S l)) := by
  refine ⟨List.all_eq_true.mpr fun c hc => decide_eq_true (h c (by simpa using hc)), ?_, Nat.zero_le _⟩
  show l.toArray.size ≤ n
  rw [List.size_toArray]
  exact hl
theorem nat_chars (n : Nat) : ∀ c ∈ (Nat.repr n).toList, c.toNat < 128 := by
  intro c hc
  have hc' : c ∈ Nat.toDigits 10 n := by
    have e : (Nat.repr n).toList = Nat.toDigits 10 n := by
      unfold Nat.repr
      exact String.toList_ofList
    rw [e] at hc
    exact hc
  have hd := Nat.isDigit_of_mem_toDigits (by decide) (by decide) hc'
  unfold Char.isDigit at hd
  have h2 := of_decide_eq_true (Bool.and_eq_true_iff.mp hd).2
  have h3 : c.toNat ≤ 57 := h2
  omega
theorem int_chars (i : Int) : ∀ c ∈ (toString i).toList, c.toNat < 128 := by
  cases i with
  | ofNat m => exact nat_chars m
  | negSucc m =>
    intro c hc
    have e : toString (Int.negSucc m) = "-" ++ Nat.repr (m + 1) := rfl
    rw [e, String.toList_append] at hc
    rcases List.mem_append.mp hc with h | h
    · have : c = '-' := by simpa using h
      subst this
      decide
    · exact nat_chars _ c h
theorem cutS_to (l : List Nat) (k : Nat) : cutS (SX.S l) none (some (k : Int)) = SX.S (l.take k) := by
  unfold cutS
  rw [SX.S_len, HT.sIx_none, HT.sIx_nat, List.drop_zero, Nat.sub_zero]
  show SX.S (l.take (min k l.length)) = SX.S (l.take k)
  by_cases h : k ≤ l.length
  · rw [Nat.min_eq_left h]
  · rw [Nat.min_eq_right (by omega), List.take_length, List.take_of_length_le (by omega)]
theorem cutS_from (l : List Nat) (k : Nat) : cutS (SX.S l) (some (k : Int)) none = SX.S (l.drop k) := by
  unfold cutS
  rw [SX.S_len, HT.sIx_none, HT.sIx_nat]
  show SX.S ((l.drop (min k l.length)).take (l.length - min k l.length)) = SX.S (l.drop k)
  congr 1
  by_cases h : k ≤ l.length
  · rw [Nat.min_eq_left h]
    exact List.take_of_length_le (by rw [List.length_drop]; exact Nat.le_refl _)
  · rw [Nat.min_eq_right (by omega), Nat.sub_self, List.take_zero, List.drop_eq_nil_of_le (by omega)]
theorem len_weight : ∀ ds : List PyData, ds.length ≤ PyData.weightAll ds
  | [] => Nat.le_refl _
  | x :: r => by
    show r.length + 1 ≤ x.weight + 1 + PyData.weightAll r
    have := len_weight r
    omega
theorem fit_put {B n m k : Nat} {ds : List PyData} {dk d0 : PyData} (hk : ds[k]? = some dk) (fl : FitL B n m ds) (f0 : Fit B n m d0) : Fit B (n + (n + 1)) (m + 1) (.tuple ((ds.take k ++ [d0]) ++ ds.drop (k + 1))) := by
  have e : ds = ds.take k ++ ([dk] ++ ds.drop (k + 1)) := by
    obtain ⟨hl, e'⟩ := List.getElem?_eq_some_iff.mp hk
    rw [← e', List.singleton_append, List.getElem_cons_drop, List.take_append_drop]
  have w : PyData.weightAll (ds.take k) + (PyData.weightAll [dk] + PyData.weightAll (ds.drop (k + 1))) ≤ n := by
    rw [← weight_app, ← weight_app, ← e]
    exact fl.2.1
  have one := FitL.one f0
  have a : FitL B (n + 1 + n + n) m ((ds.take k ++ [d0]) ++ ds.drop (k + 1)) := by
    have := ((fl.take k).app one).app (fl.drop (k + 1))
    exact ⟨this.1, Nat.le_trans this.2.1 (by omega), this.2.2⟩
  refine Fit.tup ⟨a.1, ?_, a.2.2⟩
  rw [weight_app, weight_app]
  have := one.2.1
  omega

/-! ### tuple(x), list(x) of a text -/
namespace TSt
open PySem PySem.Spec PyProof.Rows L2
section
variable {X : Cx}
def sgs (x : PySem.Str) : List V := x.cps.toList.map fun c => V.str ⟨#[c]⟩
def rTupS : List V → Hp → VK → Prop := fun vs H Q => ∃ x : PySem.Str, vs = [.str x] ∧ x.length ≤ sizeLine ∧ ∀ p, H p = none → Q (.ref p) (upd H p (.tup (sgs x)))
def rLstS : List V → Hp → VK → Prop := fun vs H Q => ∃ x : PySem.Str, vs = [.str x] ∧ x.length ≤ sizeLine ∧ ∀ p, H p = none → p ≠ sysModules → Q (.ref p) (upd H p (.lst (sgs x)))
theorem vals_at : ∀ {xs : List V} {us : List Value}, xs.length = us.length → (∀ (j : Nat) (x : V) (u : Value), xs[j]? = some x → us[j]? = some u → RelV x u) → Vals xs us
  | [], [], _, _ => .nil
  | x :: r, u :: t, hl, h => .cons (h 0 x u rfl rfl) (vals_at (by simpa using hl) fun j a b e1 e2 => h (j + 1) a b e1 e2)
theorem sg_vals {x : PySem.Str} {acc : Array Value} (h : ItemsOf (SignAt x) acc x.cps.size) : Vals (sgs x) acc.toList := by
  obtain ⟨hs, hi⟩ := h
  refine vals_at (by unfold sgs; rw [List.length_map, Array.length_toList, Array.length_toList, hs]) fun j v u e1 e2 => ?_
  obtain ⟨c, t, hc, rfl⟩ := hi j u (by rw [Array.getElem?_toList] at e2; exact e2)
  unfold sgs at e1
  rw [List.getElem?_map, Array.getElem?_toList, hc] at e1
  cases Option.some.inj e1
  exact ⟨t, rfl⟩
theorem call_tupS (hc : X.calm = true) : CallR X (.type "tuple") rTupS := by
  intro pins s σ H vs us Q I r h
  obtain ⟨x, rfl, hz, q⟩ := h
  obtain ⟨u, rfl, ru⟩ := vals1 r
  obtain ⟨t, rfl⟩ := (show ∃ t, u = Value.str x t from ru)
  refine call_tuple_str (I.ok.hd hc) x t (fun h' tk acc kp hi => ?_) hz
  have hv := sg_vals hi
  have J := I.kept (t' := tk) kp
  refine ⟨.ref h'.objs.size, upd H h'.objs.size (.tup (sgs x)), J.laid (t' := tk) (fun b o e => Heap.get?_push_of_some _ e) (Nat.le_refl _) ⟨by unfold sgs; rw [List.length_map, Array.length_toList]; exact hz, acc.toList, hv, ?_⟩, rfl, q _ (J.hok.fresh (Nat.le_refl _))⟩
  exact ⟨_, Heap.get?_push_size _ rfl, rfl, 0, by simp⟩
theorem call_lstS (hc : X.calm = true) : CallR X (.type "list") rLstS := by
  intro pins s σ H vs us Q I r h
  obtain ⟨x, rfl, hz, q⟩ := h
  obtain ⟨u, rfl, ru⟩ := vals1 r
  obtain ⟨t, rfl⟩ := (show ∃ t, u = Value.str x t from ru)
  refine call_list_str (I.ok.hd hc) x t (hn := hz) fun h' tk acc c kp hS hi => ?_
  have hv := sg_vals hi
  refine ⟨.ref s.heap.objs.size, upd H s.heap.objs.size (.lst (sgs x)), I.laid (t' := tk) kp (Nat.le_refl _) ⟨by unfold sgs; rw [List.length_map, Array.length_toList]; exact hz, acc.toList, c, hv, by simpa using hS⟩, rfl, q _ (I.hok.fresh (Nat.le_refl _)) (Nat.ne_of_gt I.big)⟩
end
end TSt

section
variable {P : Program} {w : World} {K : PySem.W.Frag} {mg : Str → Option Value} {base : Heap}
/-! ### an odd product -/
def sg12 : List (List Nat) := [[50], [120], [32], [45, 45], [], [43], [79], [10], [48, 49], [33], [126], [95]]
theorem e_sg12 : [V.str (Str.ofString "2"), .str (Str.ofString "x"), .str (Str.ofString " "), .str (Str.ofString "--"), .str (Str.ofString ""), .str (Str.ofString "+"), .str (Str.ofString "O"), .str (Str.ofString "\n"), .str (Str.ofString "01"), .str (Str.ofString "!"), .str (Str.ofString "~"), .str (Str.ofString "_")] = sg12.map fun z => V.str (SX.S z) := by
  have h : [Str.ofString "2", Str.ofString "x", Str.ofString " ", Str.ofString "--", Str.ofString "", Str.ofString "+", Str.ofString "O", Str.ofString "\n", Str.ofString "01", Str.ofString "!", Str.ofString "~", Str.ofString "_"] = sg12.map SX.S := by decide +kernel
  have := congrArg (List.map V.str) h
  rw [List.map_map] at this
  exact this
theorem sg12_ok : (sg12.all fun z => decide (z.length ≤ 2) && z.all fun c => decide (c < 128)) = true := by decide
theorem sg_pick {u : Int} (u0 : 0 ≤ u) (u1 : u < 12) : ∃ z : List Nat, atI (sg12.map fun z => V.str (SX.S z)) u = some (.str (SX.S z)) ∧ z.length ≤ 2 ∧ ∀ c ∈ z, c < 128 := by
  obtain ⟨k, rfl⟩ := Int.eq_ofNat_of_zero_le u0
  have hk : k < sg12.length := by show k < 12; omega
  have hm := List.getElem_mem hk
  have := List.all_eq_true.mp sg12_ok _ hm
  rw [Bool.and_eq_true] at this
  exact ⟨sg12[k], atI_nat (by rw [List.getElem?_map, List.getElem?_eq_getElem hk]; rfl), of_decide_eq_true this.1, fun c hc => of_decide_eq_true (List.all_eq_true.mp this.2 c hc)⟩
theorem sgs_S (p : List Nat) : TSt.sgs (SX.S p) = p.map cv := by
  unfold TSt.sgs
  show ((SX.S p).cps.toList).map cv = _
  rw [show (SX.S p).cps.toList = p from by show p.toArray.toList = p; simp]
theorem sh_cvs {H : Hp} : ∀ p : List Nat, ShAll H (p.map cv) (p.map cd)
  | [] => .nil
  | _ :: r => .cons (.str _) (sh_cvs r)
theorem fit_cds {p : List Nat} (h : ∀ c ∈ p, c < 128) (hl : p.length ≤ 8) : FitL (10 ^ 39) 16 0 (p.map cd) := by
  refine ⟨gds_iff.mpr fun x hx => ?_, ?_, dep_cs p⟩
  · obtain ⟨c, hc, rfl⟩ := List.mem_map.mp hx
    refine List.all_eq_true.mpr fun y hy => decide_eq_true ?_
    have : y = c := by simpa using hy
    rw [this]
    exact h c hc
  · have : ∀ l : List Nat, PyData.weightAll (l.map cd) = 2 * l.length := fun l => by
      induction l with
      | nil => rfl
      | cons c r ih =>
        show (cd c).weight + 1 + PyData.weightAll (r.map cd) = _
        rw [ih, List.length_cons]
        have : (cd c).weight = 1 := rfl
        omega
    rw [this]
    omega
theorem sg128 {c : Nat} (h : SgOk c) : c < 128 := by rcases h with rfl | rfl | rfl <;> decide
def sp_odd_product (K : PySem.W.Frag) : Sp := fun vs H Q _ => ∃ (as : List Addr) (d l : Addr) (n : Int) (m : Nat) (p : List Nat), vs = [.ref d, .str (SX.S p)] ∧ DA as H d l n ∧ n < 800000 ∧ ProdOk m p ∧ 1 ≤ m ∧ m ≤ 6 ∧
  ∀ v' H' dd', DA as H' d l (n + 3) → Fr d l H H' → Sh (hid as H') v' dd' → Fit (10 ^ 39) 200 2 dd' → Q v' H'
theorem ok_odd_product (T : Tx K mg) : FnOk P w K mg base CX0 2 T.f_odd_product T.fd_odd_product ["_law_deck_here", "_law_product_here"] (sp_odd_product K) := by
  refine T.F_odd_product.ok sc_odd_product (fun vs H Q E h => ?_) (fun cdv A outer s H vs Q E hr h => ?_)
  · obtain ⟨as, d, l, n, m, p, rfl, _⟩ := h
    rfl
  · obtain ⟨as, d, l, n, m, p, rfl, D, hn, ⟨lp, okp⟩, m1, m6, q⟩ := h
    refine ⟨_, (pss_cons (ps_set (i := 2) sc_odd_product.nd rfl (by first | exact .inl rfl | exact .inr rfl) (pe_call (ok_draw T) (hr.mono (by decide)) (by rfl) T.g_draw T.F_draw.kp T.b_draw .nil pass0 (pa_cons (pv 0) (pa_cons pe_int pa_nil)))) (pss_cons (ps_set (i := 3) sc_odd_product.nd rfl (by first | exact .inl rfl | exact .inr rfl) (pe_call (ok_draw T) (hr.mono (by decide)) (by rfl) T.g_draw T.F_draw.kp T.b_draw .nil pass0 (pa_cons (pv 0) (pa_cons (pe_callB call_len_str (by rfl) T.m_len PySem.boot_len (pa_cons (pv 1) pa_nil)) pa_nil)))) (pss_cons (ps_if (pt_cmpR op_lt (pv 2) pe_int (nomark _)) (pss_cons (ps_set (i := 4) sc_odd_product.nd rfl (by first | exact .inl rfl | exact .inr rfl) (pe_ix ix_list (pe_lst (pa_cons pe_str (pa_cons pe_str (pa_cons pe_str (pa_cons pe_str (pa_cons pe_str (pa_cons pe_str (pa_cons pe_str (pa_cons pe_str (pa_cons pe_str (pa_cons pe_str (pa_cons pe_str (pa_cons pe_str pa_nil))))))))))))) (pe_call (ok_draw T) (hr.mono (by decide)) (by rfl) T.g_draw T.F_draw.kp T.b_draw .nil pass0 (pa_cons (pv 0) (pa_cons pe_int pa_nil))) (fun _ _ => rfl))) (pss_one (ps_ret (pe_op op_add_str (pe_op op_add_str (pe_slice sl_str (pv 1) po_none (po_some (pv 3))) (pv 4)) (pe_slice sl_str (pv 1) (po_some (pe_op op_add (pv 3) pe_int)) po_none))))) pss_nil) (pss_cons (ps_set (i := 5) sc_odd_product.nd rfl (by first | exact .inl rfl | exact .inr rfl) (pe_lst (pa_cons (pe_op op_add_str (pv 1) pe_str) (pa_cons (pe_slice sl_str (pv 1) (po_some pe_int) po_none) (pa_cons (pe_slice sl_str (pv 1) po_none (po_some (pv 3))) (pa_cons pe_non (pa_cons pe_int (pa_cons pe_bl (pa_cons (pe_callTy (TSt.call_tupS rfl) (by rfl) T.m_tuple (by decide +kernel) (pa_cons (pv 1) pa_nil)) (pa_cons (pe_callTy (TSt.call_lstS rfl) (by rfl) T.m_list (by decide +kernel) (pa_cons (pv 1) pa_nil)) (pa_cons (pe_tup (pa_cons (pv 1) pa_nil)) (pa_cons pe_dnewK (pa_cons pe_str pa_nil))))))))))))) (pss_one (ps_ret (pe_ix ix_list (pe_op op_cat (pv 5) (pe_lst (pa_cons (pe_op op_pow pe_int pe_int) (pa_cons (pe_callTy call_int1 (by rfl) T.m_int (by decide +kernel) (pa_cons (pe_cmpR op_eq (pe_slice sl_str (pv 1) po_none (po_some pe_int)) pe_str (nomark _)) pa_nil)) (pa_cons pe_str pa_nil))))) (pe_call (ok_draw T) (hr.mono (by decide)) (by rfl) T.g_draw T.F_draw.kp T.b_draw .nil pass0 (pa_cons (pv 0) (pa_cons pe_int pa_nil))) (fun _ _ => rfl)))))))), ?_⟩
    have sl : (16777216 : Nat) = sizeLine := by decide
    have p128 : ∀ c ∈ p, c < 128 := fun c hc => sg128 (okp c hc)
    have pS : (SX.S p).length ≤ sizeLine := by rw [SX.S_len]; omega
    refine ⟨.ref d, rfl, d, l, 12, _, rfl, D.d1, by omega, by decide, by decide, fun H1 way D1 fr1 w0 w1 => ?_⟩
    replace D1 := D.fr D1 fr1
    refine ⟨.ref d, rfl, .str (SX.S p), rfl, SX.S p, rfl, pS, ?_⟩
    rw [SX.S_len]
    refine ⟨d, l, _, _, rfl, D1.d1, by omega, by omega, by omega, fun H2 at_ D2 fr2 a0 a1 => ?_⟩
    replace D2 := D1.fr D2 fr2
    obtain ⟨k, rfl⟩ := Int.eq_ofNat_of_zero_le a0
    have hk : k < p.length := by omega
    have fr12 := fr1.trans fr2
    refine ⟨.int way, rfl, _, _, rfl, rfl, _, rfl, ite2 (fun _ => ?_) (fun _ => ?_)⟩
    · -- a sign
      refine ⟨by show 12 ≤ sizeLine; decide, fun p2 np2 => ?_⟩
      rw [e_sg12]
      have s3 := same_upd (o := HO.lst (sg12.map fun z => V.str (SX.S z))) np2
      have D3 := D2.same s3
      have o2 := D2.off np2
      refine ⟨.ref d, rfl, d, l, 12, _, rfl, D3.d1, by omega, by decide, by decide, fun H4 u D4 fr4 u0 u1 => ?_⟩
      replace D4 := D3.fr D4 fr4
      have h2 := fr4 _ _ o2.1 o2.2 (show (upd H2 p2 (.lst (sg12.map fun z => V.str (SX.S z)))) p2 = _ from upd_same)
      obtain ⟨z, ez, zl, z128⟩ := sg_pick u0 u1
      refine ⟨p2, _, _, _, rfl, rfl, SqL.of h2, ez, ?_⟩
      refine ⟨.str (SX.S p), rfl, .int (k : Nat), rfl, (k : Int), rfl, SX.S p, rfl, pS, ?_⟩
      rw [cut_S1 (Nat.le_of_lt hk)]
      refine ⟨.str (SX.S z), rfl, _, _, rfl, rfl, ?_, ?_⟩
      · rw [SX.S_len, SX.S_len, List.length_take]
        omega
      rw [S_app]
      refine ⟨.str (SX.S p), rfl, .int (k : Nat), rfl, _, _, rfl, rfl, ((k + 1 : Nat) : Int), rfl, ?_⟩
      refine ⟨SX.S p, rfl, pS, ?_⟩
      rw [cut_S2 hk]
      refine ⟨_, _, rfl, rfl, ?_, ?_⟩
      · rw [SX.S_len, SX.S_len, List.length_append, List.length_take, List.length_drop]
        omega
      rw [S_app]
      refine q _ H4 (.str (SX.S (p.take k ++ z ++ p.drop (k + 1)))) (D4.mono (by omega)) ((fr12.trans (Fr.of s3)).trans fr4) (.str _) (fit_S (fun c hc => ?_) ?_)
      · rcases List.mem_append.mp hc with y | y
        · rcases List.mem_append.mp y with y | y
          · exact p128 c (List.mem_of_mem_take y)
          · exact z128 c y
        · exact p128 c (List.mem_of_mem_drop y)
      · rw [List.length_append, List.length_append, List.length_take, List.length_drop]
        omega
    -- one of fourteen
    refine ⟨.str (SX.S p), rfl, _, _, rfl, rfl, ?_, ?_⟩
    · rw [SX.S_len]
      show p.length + (Str.ofString "-").length ≤ sizeLine
      rw [zd_S, SX.S_len]
      show p.length + 1 ≤ sizeLine
      omega
    rw [zd_S, S_app]
    refine ⟨.str (SX.S p), rfl, 1, rfl, ?_⟩
    refine ⟨SX.S p, rfl, pS, ?_⟩
    have ec1 : cutS (SX.S p) (some 1) none = SX.S (p.drop 1) := cut_S2 (h := 1) (by omega)
    have ec2 : cutS (SX.S p) none (some 1) = SX.S (p.take 1) := cut_S1 (h := 1) (by omega)
    rw [ec1]
    refine ⟨.str (SX.S p), rfl, .int (k : Nat), rfl, (k : Int), rfl, SX.S p, rfl, pS, ?_⟩
    rw [cut_S1 (Nat.le_of_lt hk)]
    refine ⟨.str (SX.S p), rfl, SX.S p, rfl, pS, fun tp ntp => ?_⟩
    rw [sgs_S]
    refine ⟨.str (SX.S p), rfl, SX.S p, rfl, pS, fun lp' nlp mlp => ?_⟩
    rw [sgs_S]
    refine ⟨.str (SX.S p), rfl, sl1, fun t1 nt1 => fun dk ndk => ⟨by show 11 ≤ sizeLine; decide, fun L nL => ?_⟩⟩
    have s1 := same_upd (o := HO.tup (p.map cv)) ntp
    have s2 := same_upd (o := HO.lst (p.map cv)) nlp
    have s3 := same_upd (o := HO.tup [V.str (SX.S p)]) nt1
    have s4 := same_upd (o := HO.dK []) ndk
    have s5 := same_upd (o := HO.lst [V.str (SX.S (p ++ [45])), .str (SX.S (p.drop 1)), .str (SX.S (p.take k)), .non, .int 0, .bl true, .ref tp, .ref lp', .ref t1, .ref dk, .str (SX.S [45])]) nL
    have sA := (((s1.trans s2).trans s3).trans s4).trans s5
    have D5 := D2.same sA
    have o1 := D2.out ntp
    have o2 := (D2.same s1).out nlp
    have o3 := (D2.same (s1.trans s2)).out nt1
    have o4 := (D2.same ((s1.trans s2).trans s3)).out ndk
    have e1 := s5 _ _ (s4 _ _ (s3 _ _ (s2 _ _ (show (upd H2 tp (.tup (p.map cv))) tp = _ from upd_same))))
    have e2 := s5 _ _ (s4 _ _ (s3 _ _ (show (upd (upd H2 tp (.tup (p.map cv))) lp' (.lst (p.map cv))) lp' = _ from upd_same)))
    have e3 := s5 _ _ (s4 _ _ (show (upd (upd (upd H2 tp (.tup (p.map cv))) lp' (.lst (p.map cv))) t1 (.tup [V.str (SX.S p)])) t1 = _ from upd_same))
    have e4 := s5 _ _ (show (upd (upd (upd (upd H2 tp (.tup (p.map cv))) lp' (.lst (p.map cv))) t1 (.tup [V.str (SX.S p)])) dk (.dK [])) dk = _ from upd_same)
    have e5 : (upd (upd (upd (upd (upd H2 tp (.tup (p.map cv))) lp' (.lst (p.map cv))) t1 (.tup [V.str (SX.S p)])) dk (.dK [])) L (.lst [V.str (SX.S (p ++ [45])), .str (SX.S (p.drop 1)), .str (SX.S (p.take k)), .non, .int 0, .bl true, .ref tp, .ref lp', .ref t1, .ref dk, .str (SX.S [45])])) L = _ := upd_same
    show tSeq _ _ _ _ (upd (upd (upd (upd (upd H2 tp (.tup (p.map cv))) lp' (.lst (p.map cv))) t1 (.tup [V.str (SX.S p)])) dk (.dK [])) L (.lst [V.str (SX.S (p ++ [45])), .str (SX.S (p.drop 1)), .str (SX.S (p.take k)), .non, .int 0, .bl true, .ref tp, .ref lp', .ref t1, .ref dk, .str (SX.S [45])]))
    generalize upd (upd (upd (upd (upd H2 tp (.tup (p.map cv))) lp' (.lst (p.map cv))) t1 (.tup [V.str (SX.S p)])) dk (.dK [])) L (.lst [V.str (SX.S (p ++ [45])), .str (SX.S (p.drop 1)), .str (SX.S (p.take k)), .non, .int 0, .bl true, .ref tp, .ref lp', .ref t1, .ref dk, .str (SX.S [45])]) = H5 at sA D5 e1 e2 e3 e4 e5 ⊢
    refine ⟨.ref L, rfl, _, _, rfl, rfl, ⟨by decide, by decide, by decide⟩, .str (SX.S p), rfl, 1, rfl, SX.S p, rfl, pS, ?_⟩
    rw [ec2]
    refine ⟨rfl, .inr ⟨_, rfl, sl3, fun L2 nL2 => ?_⟩⟩
    generalize decide (V.str (SX.S (p.take 1)) = V.str (Str.ofString "1")) = b1
    have s6 := same_upd (o := HO.lst [V.int (10 ^ 39), V.int (if b1 = true then 1 else 0), V.str (Str.ofString "1")]) nL2
    refine ⟨L, L2, _, _, rfl, rfl, s6 _ _ e5, upd_same, by show 14 ≤ sizeLine; decide, fun C nC => ?_⟩
    have s7 := same_upd (o := HO.lst ([V.str (SX.S (p ++ [45])), .str (SX.S (p.drop 1)), .str (SX.S (p.take k)), .non, .int 0, .bl true, .ref tp, .ref lp', .ref t1, .ref dk, .str (SX.S [45])] ++ [V.int (10 ^ 39), V.int (if b1 = true then 1 else 0), V.str (Str.ofString "1")])) nC
    have s67 := s6.trans s7
    have D7 := D5.same s67
    have oC := (D5.same s6).off nC
    have hC := upd_same (H := upd H5 L2 (.lst [V.int (10 ^ 39), V.int (if b1 = true then 1 else 0), V.str (Str.ofString "1")])) (a := C) (o := .lst ([V.str (SX.S (p ++ [45])), .str (SX.S (p.drop 1)), .str (SX.S (p.take k)), .non, .int 0, .bl true, .ref tp, .ref lp', .ref t1, .ref dk, .str (SX.S [45])] ++ [V.int (10 ^ 39), V.int (if b1 = true then 1 else 0), V.str (Str.ofString "1")]))
    refine ⟨.ref d, rfl, d, l, 14, _, rfl, D7.d1, by omega, by decide, by decide, fun H8 u D8 fr8 u0 u1 => ?_⟩
    replace D8 := D7.fr D8 fr8
    have hC8 := fr8 _ _ oC.1 oC.2 hC
    have hid8 : Same (hid as H5) (hid as H8) := (hid_same s67).trans (hid_fr fr8 D.hd D.hl)
    have all : ShAll (hid as H8) ([V.str (SX.S (p ++ [45])), .str (SX.S (p.drop 1)), .str (SX.S (p.take k)), .non, .int 0, .bl true, .ref tp, .ref lp', .ref t1, .ref dk, .str (SX.S [45])] ++ [V.int (10 ^ 39), V.int (if b1 = true then 1 else 0), V.str (Str.ofString "1")])
        [.str (SX.S (p ++ [45])), .str (SX.S (p.drop 1)), .str (SX.S (p.take k)), .none, .int 0, .bool true, .tuple (p.map cd), .list (p.map cd), .tuple [.str (SX.S p)], .dict [], .str (SX.S [45]), .int (10 ^ 39), .int (if b1 = true then 1 else 0), .str (SX.S [49])] := by
      refine .cons (.str _) (.cons (.str _) (.cons (.str _) (.cons .non (.cons (.int _) (.cons (.bl _) (.cons (.tup (hid8 _ _ (by rw [hid_at o1]; exact e1)) (sh_cvs p)) (.cons (.lst (hid8 _ _ (by rw [hid_at o2]; exact e2)) mlp (sh_cvs p)) (.cons (.tup (hid8 _ _ (by rw [hid_at o3]; exact e3)) (.cons (.str _) .nil)) (.cons (.dic (kvs := []) (hid8 _ _ (by rw [hid_at o4]; exact e4)) .nil) (.cons (.str _) (.cons (.int _) (.cons (.int _) (.cons ?_ .nil)))))))))))))
      rw [z1_S]
      exact .str _
    have strF : ∀ ls : List Nat, (∀ c ∈ ls, c < 128) → ls.length ≤ 200 → Fit (10 ^ 39) 200 2 (.str (SX.S ls)) := fun ls h1 h2 => fit_S h1 h2
    have fits : ∀ dd ∈ ([.str (SX.S (p ++ [45])), .str (SX.S (p.drop 1)), .str (SX.S (p.take k)), .none, .int 0, .bool true, .tuple (p.map cd), .list (p.map cd), .tuple [.str (SX.S p)], .dict [], .str (SX.S [45]), .int (10 ^ 39), .int (if b1 = true then 1 else 0), .str (SX.S [49])] : List PyData), Fit (10 ^ 39) 200 2 dd := by
      have fc := fit_cds p128 (by omega)
      intro dd hd
      simp only [List.mem_cons, List.not_mem_nil, or_false] at hd
      rcases hd with rfl | rfl | rfl | rfl | rfl | rfl | rfl | rfl | rfl | rfl | rfl | rfl | rfl | rfl
      · exact strF _ (fun c hc => (List.mem_append.mp hc).elim (p128 c) fun z => by rw [List.mem_singleton.mp z]; decide) (by rw [List.length_append]; show p.length + 1 ≤ 200; omega)
      · exact strF _ (fun c hc => p128 c (List.mem_of_mem_drop hc)) (by rw [List.length_drop]; omega)
      · exact strF _ (fun c hc => p128 c (List.mem_of_mem_take hc)) (by rw [List.length_take]; omega)
      · exact ⟨rfl, by decide, by decide⟩
      · exact ⟨by decide, by decide, by decide⟩
      · exact ⟨rfl, by decide, by decide⟩
      · exact (Fit.tup fc).mono (Nat.le_refl _) (by decide) (by decide)
      · exact (Fit.lst fc).mono (Nat.le_refl _) (by decide) (by decide)
      · exact (Fit.tup (FitL.one (fit_S (B := 10 ^ 39) (n := 6) (m := 0) p128 (by omega)))).mono (Nat.le_refl _) (by decide) (by decide)
      · exact ⟨rfl, by decide, by decide⟩
      · exact strF _ (by decide) (by decide)
      · exact ⟨by decide, by decide, by decide⟩
      · cases b1 <;> exact ⟨by decide, by decide, by decide⟩
      · exact strF _ (by decide) (by decide)
    obtain ⟨x, dx, hx, sx, fx⟩ := pick_sh all fits u0 u1
    exact ⟨C, _, u, x, rfl, rfl, SqL.of hC8, hx, q x H8 dx (D8.mono (by omega)) ((fr12.trans (Fr.of (sA.trans s67))).trans fr8) sx fx⟩

end
end Gk

set_option Elab.async false
set_option linter.all false
set_option maxRecDepth 100000
set_option maxHeartbeats 1000000
set_option pp.maxSteps 1500
set_option pp.deepTerms false
namespace Gk
open PySem PySem.Spec PyProof.Rows L2

section
variable {P : Program} {w : World} {K : PySem.W.Frag} {mg : Str → Option Value} {base : Heap}
/-! ### a cover put otherwise -/
def sD (p : List Nat) : PyData := .str (SX.S p)
theorem sh_strsV {H : Hp} : ∀ ps : List (List Nat), ShAll H (pVs ps) (ps.map sD)
  | [] => .nil
  | _ :: r => .cons (.str _) (sh_strsV r)
theorem fit_sD {m : Nat} {p : List Nat} (h : ProdOk m p) (m6 : m ≤ 6) : Fit (10 ^ 39) 6 0 (sD p) := fit_S (fun c hc => sg128 (h.2 c hc)) (by have := h.1; omega)
theorem fit_strs {m : Nat} (m6 : m ≤ 6) : ∀ {ps : List (List Nat)}, CovOk m ps → FitL (10 ^ 39) (7 * ps.length) 0 (ps.map sD)
  | [], _ => ⟨rfl, Nat.le_refl _, Nat.le_refl _⟩
  | p :: r, h => by
    have h1 := FitL.one (fit_sD (h p (List.mem_cons_self ..)) m6)
    have h2 := fit_strs m6 (ps := r) fun q hq => h q (List.mem_cons_of_mem _ hq)
    have := h1.app h2
    exact ⟨this.1, Nat.le_trans this.2.1 (by rw [List.length_cons]; omega), this.2.2⟩
theorem sh_strsT {m : Nat} {ps : List (List Nat)} (h : CovOk m ps) : SeqAt.shaped (.tuple (ps.map sD)) = true := by
  unfold SeqAt.shaped
  rw [Bool.and_eq_true]
  refine ⟨?_, decide_eq_true ?_⟩
  · have := lay_strs ps h
    simp only [PyData.canLay0]
    exact this
  · have := depth_strs ps
    show (PyData.depthAll (ps.map sD)) + 1 ≤ _
    have e : PyData.depthAll (ps.map sD) ≤ 1 := this
    omega
theorem ne_strsT (ps : List (List Nat)) : (!PyData.eqv (.tuple (ps.map sD)) (.tuple [])) = !ps.isEmpty := by cases ps <;> rfl
theorem str_m {m : Nat} (h1 : 1 ≤ m) (h6 : m ≤ 6) : (toString (m : Int) : Str) = SX.S [48 + m] := by
  rcases m with _ | _ | _ | _ | _ | _ | _ | m
  · omega
  all_goals first | decide +kernel | omega
theorem FitL.monoX {B n m B' n' m' : Nat} {ds : List PyData} (h : FitL B n m ds) (a : B ≤ B') (b : n ≤ n') (c : m ≤ m') : FitL B' n' m' ds := ⟨gds_iff.mpr fun x hx => gd_mono a (gds_iff.mp h.1 x hx), Nat.le_trans h.2.1 b, Nat.le_trans h.2.2 c⟩
theorem fit_two {B n n' m : Nat} {a b : PyData} (ha : Fit B n m a) (hb : Fit B n' m b) : Fit B (n + n' + 2) (m + 1) (.tuple [a, b]) := by
  have := (FitL.one ha).app (FitL.one hb)
  exact Fit.tup ⟨this.1, Nat.le_trans this.2.1 (by omega), this.2.2⟩
def sp_otherwise (K : PySem.W.Frag) : Sp := fun vs H Q _ => ∃ (as : List Addr) (d l : Addr) (n : Int) (cv : Addr) (m : Nat) (ps : List (List Nat)), vs = [.ref d, .ref cv] ∧ DA as H d l n ∧ n < 700000 ∧ CovAt H cv m ps ∧ CovOk m ps ∧ 1 ≤ m ∧ m ≤ 6 ∧ ps.length ≤ 40 ∧
  ∀ v' H' dd', DA as H' d l (n + 8) → Fr d l H H' → Sh (hid as H') v' dd' → Fit (10 ^ 39) 1000 6 dd' → Q v' H'
theorem ok_otherwise (T : Tx K mg) : FnOk P w K mg base CX0 3 T.f_otherwise T.fd_otherwise ["_law_deck_here", "_law_cover_here"] (sp_otherwise K) := by
  refine T.F_otherwise.ok sc_otherwise (fun vs H Q E h => ?_) (fun cdv A outer s H vs Q E hr h => ?_)
  · obtain ⟨as, d, l, n, cv, m, ps, rfl, _⟩ := h
    rfl
  · obtain ⟨as, d, l, n, cv, m, ps, rfl, D, hn, ⟨tp, hcv, htp⟩, okp, m1, m6, l40, q⟩ := h
    refine ⟨_, (pss_cons (ps_set (i := 2) sc_otherwise.nd rfl (by first | exact .inl rfl | exact .inr rfl) (pe_call (ok_draw T) (hr.mono (by decide)) (by rfl) T.g_draw T.F_draw.kp T.b_draw .nil pass0 (pa_cons (pv 0) (pa_cons pe_int pa_nil)))) (pss_cons (ps_asg (pv 1) (pg_tup rfl (pgs_cons (pg_name (i := 3) sc_otherwise.nd rfl (by first | exact .inl rfl | exact .inr rfl)) (pgs_cons (pg_name (i := 4) sc_otherwise.nd rfl (by first | exact .inl rfl | exact .inr rfl)) pgs_nil)))) (pss_cons (ps_if (pt_cut (pw_and (pt_cmpR op_lt (pv 2) pe_int (nomark _)) (pw_and1 (pt_cmpR (op_neD hr.units) (pv 4) (pe_tup pa_nil) (nomark _)))).pt) (pss_cons (ps_set (i := 5) sc_otherwise.nd rfl (by first | exact .inl rfl | exact .inr rfl) (pe_call (ok_draw T) (hr.mono (by decide)) (by rfl) T.g_draw T.F_draw.kp T.b_draw .nil pass0 (pa_cons (pv 0) (pa_cons (pe_callB call_len_seq (by rfl) T.m_len PySem.boot_len (pa_cons (pv 4) pa_nil)) pa_nil)))) (pss_one (ps_ret (pe_tup (pa_cons (pv 3) (pa_cons (pe_op op_catA (pe_op op_catA (pe_slice sl_tupA (pv 4) po_none (po_some (pv 5))) (pe_tup (pa_cons (pe_call (ok_odd_product T) (hr.mono (by decide)) (by rfl) T.g_odd_product T.F_odd_product.kp T.b_odd_product .nil pass0 (pa_cons (pv 0) (pa_cons (pe_ix ix_tup (pv 4) (pv 5) (fun _ _ => rfl)) pa_nil))) pa_nil))) (pe_slice sl_tupA (pv 4) (po_some (pe_op op_add (pv 5) pe_int)) po_none)) pa_nil)))))) pss_nil) (pss_cons (ps_if (pt_cmpR op_lt (pv 2) pe_int (nomark _)) (pss_cons (ps_set (i := 6) sc_otherwise.nd rfl (by first | exact .inl rfl | exact .inr rfl) (pe_lst (pa_cons pe_int (pa_cons pe_int (pa_cons (pe_op op_add (pv 3) pe_int) (pa_cons (pe_op op_sub (pv 3) pe_int) (pa_cons pe_bl (pa_cons pe_bl (pa_cons (pe_callTy call_str_int (by rfl) T.m_str (by decide +kernel) (pa_cons (pv 3) pa_nil)) (pa_cons pe_non (pa_cons (pe_op op_pow pe_int pe_int) (pa_cons (pe_un un_neg (pv 3)) (pa_cons (pe_tup (pa_cons (pv 3) pa_nil)) (pa_cons (pe_lstN (pa_cons (pv 3) pa_nil)) (pa_cons pe_str (pa_cons pe_dnewK pa_nil)))))))))))))))) (pss_one (ps_ret (pe_tup (pa_cons (pe_ix ix_list (pv 6) (pe_call (ok_draw T) (hr.mono (by decide)) (by rfl) T.g_draw T.F_draw.kp T.b_draw .nil pass0 (pa_cons (pv 0) (pa_cons pe_int pa_nil))) (fun _ _ => rfl)) (pa_cons (pv 4) pa_nil)))))) pss_nil) (pss_cons (ps_set (i := 7) sc_otherwise.nd rfl (by first | exact .inl rfl | exact .inr rfl) (pe_lst (pa_cons (pe_callTy NumZ.call_listN (by rfl) T.m_list (by decide +kernel) (pa_cons (pv 1) pa_nil)) (pa_cons (pe_tup (pa_cons (pv 3) (pa_cons (pe_callTy NumZ.call_listN (by rfl) T.m_list (by decide +kernel) (pa_cons (pv 4) pa_nil)) pa_nil))) (pa_cons (pe_tup (pa_cons (pv 3) pa_nil)) (pa_cons (pe_tup (pa_cons (pv 3) (pa_cons (pv 4) (pa_cons (pe_tup pa_nil) pa_nil)))) (pa_cons (pe_tup (pa_cons (pv 4) (pa_cons (pv 3) pa_nil))) (pa_cons (pe_tup (pa_cons (pv 3) (pa_cons pe_non pa_nil))) (pa_cons (pv 4) (pa_cons (pv 3) (pa_cons (pe_tup pa_nil) pa_nil))))))))))) (pss_cons (ps_set (i := 7) sc_otherwise.nd rfl (by first | exact .inl rfl | exact .inr rfl) (pe_op op_cat (pv 7) (pe_lst (pa_cons (pe_tup (pa_cons (pv 3) (pa_cons pe_str pa_nil))) (pa_cons (pe_tup (pa_cons (pv 3) (pa_cons pe_dnewK pa_nil))) (pa_cons pe_non (pa_cons pe_bl (pa_cons pe_str (pa_cons pe_dnewK (pa_cons (pe_lstN pa_nil) (pa_cons (pe_tup (pa_cons (pv 3) (pa_cons (pe_tup (pa_cons (pv 4) pa_nil)) pa_nil))) (pa_cons (pe_tup (pa_cons (pv 3) (pa_cons (pe_op op_catA (pe_slice sl_tupA (pv 4) po_none (po_some pe_int)) (pe_tup (pa_cons (pe_tup pa_nil) pa_nil))) pa_nil))) pa_nil)))))))))))) (pss_one (ps_ret (pe_ix ix_list (pv 7) (pe_call (ok_draw T) (hr.mono (by decide)) (by rfl) T.g_draw T.F_draw.kp T.b_draw .nil pass0 (pa_cons (pv 0) (pa_cons pe_int pa_nil))) (fun _ _ => rfl)))))))))), ?_⟩
    have sl : (16777216 : Nat) = sizeLine := by decide
    have lV : (pVs ps).length = ps.length := by unfold pVs; rw [List.length_map]
    have fps := fit_strs m6 okp
    have fm : ∀ N M, 200 ≤ N → Fit (10 ^ 39) N M (.int (m : Int)) := fun N M hN => ⟨decide_eq_true (Nat.le_trans (show ((m : Int)).natAbs ≤ 6 by omega) (by decide)), Nat.le_trans (by
      have : m = 1 ∨ m = 2 ∨ m = 3 ∨ m = 4 ∨ m = 5 ∨ m = 6 := by omega
      rcases this with z | z | z | z | z | z <;> rw [z] <;> decide : (PyData.int (m : Int)).weight ≤ 200) hN, Nat.zero_le _⟩
    refine ⟨.ref d, rfl, d, l, 8, _, rfl, D.d1, by omega, by decide, by decide, fun H1 way D1 fr1 w0 w1 => ?_⟩
    replace D1 := D.fr D1 fr1
    have ts1 := Ts.frD D.d1 fr1
    have hcv1 := ts1 _ _ hcv
    have htp1 := ts1 _ _ htp
    refine ⟨.ref cv, rfl, cv, _, rfl, SqT.of hcv1, rfl, _, _, rfl, _, _, rfl, rfl, ?_⟩
    refine ⟨fun b H' => Same H1 H' ∧ (b = true → ps ≠ []), ?_, ?_⟩
    · refine ⟨.int way, rfl, _, _, rfl, rfl, _, rfl, ite2 (fun e => ?_) (fun e => ⟨Same.refl _, fun z => by cases z⟩)⟩
      refine ⟨.ref tp, rfl, Nat.zero_le _, fun e1 n1 => ?_⟩
      have u1 := same_upd (o := HO.tup []) n1
      refine ⟨.tuple (ps.map sD), .tuple [], .tup (SqT.of (u1 _ _ htp1)) (dpStrs ps), .tup (SqT.of upd_same) .nil, sh_strsT okp, rfl, _, rfl, u1, fun z h => ?_⟩
      rw [ne_strsT, h] at z
      cases z
    rintro b H2 ⟨s2, hb⟩
    have D2 := D1.same s2
    have hcv2 := s2 _ _ hcv1
    have htp2 := s2 _ _ htp1
    have fr2 := fr1.trans (Fr.of (d := d) (l := l) s2)
    refine ite2 (fun e => ?_) (fun e => ?_)
    · -- a product within
      have lpos : 0 < ps.length := List.length_pos_iff.mpr (hb e)
      refine ⟨.ref d, rfl, .ref tp, rfl, tp, _, rfl, .inr (SqT.of htp2), ?_⟩
      rw [lV]
      refine ⟨d, l, _, _, rfl, D2.d1, by omega, by omega, by omega, fun H3 u D3 fr3 u0 u1 => ?_⟩
      replace D3 := D2.fr D3 fr3
      obtain ⟨k, rfl⟩ := Int.eq_ofNat_of_zero_le u0
      have hk : k < ps.length := by omega
      have ts3 := Ts.frD D2.d1 fr3
      have htp3 := ts3 _ _ htp2
      have hat : atI (pVs ps) ((k : Nat) : Int) = some (.str (SX.S ps[k])) := atI_nat (by unfold pVs; rw [List.getElem?_map, List.getElem?_eq_getElem hk]; rfl)
      refine ⟨.int (m : Nat), rfl, .ref tp, rfl, .int (k : Nat), rfl, (k : Int), rfl, slA htp3 fun q1 H4 s4 h4 => ?_⟩
      rw [cut_to] at h4
      have D4 := D3.same s4
      refine ⟨.ref d, rfl, .ref tp, rfl, .int (k : Nat), rfl, tp, _, _, _, rfl, rfl, SqT.of (s4 _ _ htp3), hat, as, d, l, _, m, ps[k], rfl, D4, by omega, okp _ (List.getElem_mem hk), m1, m6, fun v5 H5 d5 D5 fr5 sh5 f5 => ⟨sl1, fun t nt => ?_⟩⟩
      have ts5 := Ts.frD D4.d1 fr5
      have st := same_upd (o := HO.tup [v5]) nt
      refine catA (st _ _ (ts5 _ _ h4)) upd_same ?_ fun q2 H6 s6 h6 => ?_
      · rw [List.length_take]
        show _ + 1 ≤ sizeLine
        omega
      have htp6 := s6 _ _ (st _ _ (ts5 _ _ (s4 _ _ htp3)))
      refine ⟨.ref tp, rfl, .int (k : Nat), rfl, _, _, rfl, rfl, ((k + 1 : Nat) : Int), rfl, slAn htp6 fun q3 H7 s7 h7 => ?_⟩
      rw [cut_from] at h7
      refine catA (s7 _ _ h6) h7 ?_ fun q4 H8 s8 h8 => ?_
      · rw [List.length_append, List.length_take, List.length_drop]
        show _ + 1 + _ ≤ sizeLine
        omega
      refine ⟨sl2, fun r nr => ?_⟩
      have s9 := same_upd (o := HO.tup [V.int (m : Nat), V.ref q4]) nr
      have sA := (((st.trans s6).trans s7).trans s8).trans s9
      have D9 := D5.same sA
      have h8' := s9 _ _ h8
      have shA := hid_same (as := as) sA
      have tl : Sh (hid as (upd H8 r (.tup [V.int (m : Nat), V.ref q4]))) (.ref r) (.tuple [.int (m : Nat), .tuple ((((ps.map sD).take k) ++ [d5]) ++ (ps.map sD).drop (k + 1))]) := by
        refine sh_tup D9 upd_same (.cons (.int _) (.cons (sh_tup D9 h8' ?_) .nil))
        exact (((sh_strsV ps).take k).append (.cons (sh5.same shA) .nil)).append ((sh_strsV ps).drop (k + 1))
      refine q _ _ _ (D9.mono (by omega)) ((((fr2.trans fr3).trans (Fr.of s4)).trans fr5).trans (Fr.of sA)) tl ?_
      have hkd : (ps.map sD)[k]? = some (sD ps[k]) := by rw [List.getElem?_map, List.getElem?_eq_getElem hk]; rfl
      have fl : FitL (10 ^ 39) 280 2 (ps.map sD) := fps.monoX (Nat.le_refl _) (by omega) (Nat.zero_le _)
      have f5' : Fit (10 ^ 39) 280 2 d5 := f5.mono (Nat.le_refl _) (by decide) (Nat.le_refl _)
      have := fit_put hkd fl f5'
      exact (fit_two (fm 200 3 (Nat.le_refl _)) this).mono (Nat.le_refl _) (by decide) (by decide)
    refine ⟨.int way, rfl, _, _, rfl, rfl, _, rfl, ite2 (fun _ => ?_) (fun _ => ?_)⟩
    · -- another size
      have fsome : ∀ N M, 300 ≤ N → 1 ≤ M → Fit (10 ^ 39) N M (.tuple (ps.map sD)) := fun N M a c => (Fit.tup (fps.monoX (Nat.le_refl _) (show 7 * ps.length ≤ 299 by omega) (Nat.le_refl _))).mono (Nat.le_refl _) (show 299 ≤ N by omega) c
      refine ⟨.int (m : Nat), rfl, _, _, rfl, rfl, .int (m : Nat), rfl, _, _, rfl, rfl, .int (m : Nat), rfl, (m : Int), rfl, ?_, ?_⟩
      · have : m = 1 ∨ m = 2 ∨ m = 3 ∨ m = 4 ∨ m = 5 ∨ m = 6 := by omega
        rcases this with z | z | z | z | z | z <;> rw [z] <;> decide
      refine ⟨_, _, rfl, rfl, ⟨by decide, by decide, by decide⟩, .int (m : Nat), rfl, _, rfl, .int (m : Nat), rfl, sl1, fun t nt => ?_⟩
      have s1 := same_upd (o := (HO.tup [V.int (m : Nat)])) nt
      have h1 : upd H2 t (HO.tup [V.int (m : Nat)]) t = some (HO.tup [V.int (m : Nat)]) := upd_same
      generalize upd H2 t (HO.tup [V.int (m : Nat)]) = A1 at s1 h1 ⊢
      refine ⟨.int (m : Nat), rfl, sl1, fun L nL mL => ?_⟩
      have s2' := same_upd (o := (HO.lst [V.int (m : Nat)])) nL
      have h2 : upd A1 L (HO.lst [V.int (m : Nat)]) L = some (HO.lst [V.int (m : Nat)]) := upd_same
      generalize upd A1 L (HO.lst [V.int (m : Nat)]) = A2 at s2' h2 ⊢
      refine fun dk ndk => ?_
      have s3 := same_upd (o := (HO.dK [])) ndk
      have h3 : upd A2 dk (HO.dK []) dk = some (HO.dK []) := upd_same
      generalize upd A2 dk (HO.dK []) = A3 at s3 h3 ⊢
      refine ⟨by show 14 ≤ sizeLine; decide, fun C nC => ?_⟩
      have s4 := same_upd (o := (HO.lst [V.int 0, V.int 7, V.int ((m : Nat) + 1), V.int ((m : Nat) - 1), V.bl true, V.bl false, V.str (Str.ofString (toString ((m : Nat) : Int))), V.non, V.int (10 ^ (39 : Int).toNat), V.int (-((m : Nat) : Int)), V.ref t, V.ref L, V.str (Str.ofString ""), V.ref dk])) nC
      have h4 : upd A3 C (HO.lst [V.int 0, V.int 7, V.int ((m : Nat) + 1), V.int ((m : Nat) - 1), V.bl true, V.bl false, V.str (Str.ofString (toString ((m : Nat) : Int))), V.non, V.int (10 ^ (39 : Int).toNat), V.int (-((m : Nat) : Int)), V.ref t, V.ref L, V.str (Str.ofString ""), V.ref dk]) C = some (HO.lst [V.int 0, V.int 7, V.int ((m : Nat) + 1), V.int ((m : Nat) - 1), V.bl true, V.bl false, V.str (Str.ofString (toString ((m : Nat) : Int))), V.non, V.int (10 ^ (39 : Int).toNat), V.int (-((m : Nat) : Int)), V.ref t, V.ref L, V.str (Str.ofString ""), V.ref dk]) := upd_same
      generalize upd A3 C (HO.lst [V.int 0, V.int 7, V.int ((m : Nat) + 1), V.int ((m : Nat) - 1), V.bl true, V.bl false, V.str (Str.ofString (toString ((m : Nat) : Int))), V.non, V.int (10 ^ (39 : Int).toNat), V.int (-((m : Nat) : Int)), V.ref t, V.ref L, V.str (Str.ofString ""), V.ref dk]) = A4 at s4 h4 ⊢
      have sA := ((s1.trans s2').trans s3).trans s4
      have D4 := D2.same sA
      have oL := (D2.same s1).out nL
      have od := (D2.same (s1.trans s2')).out ndk
      have oC := (D2.same ((s1.trans s2').trans s3)).off nC
      refine ⟨.ref C, rfl, .ref d, rfl, d, l, 14, _, rfl, D4.d1, by omega, by decide, by decide, fun H6 u D6 fr6 u0 u1 => ?_⟩
      replace D6 := D4.fr D6 fr6
      have ts6 := Ts.frD D4.d1 fr6
      have hC6 := fr6 _ _ oC.1 oC.2 h4
      have hid6 : Same (hid as A4) (hid as H6) := hid_fr fr6 D.hd D.hl
      have all : ShAll (hid as H6) _ [.int 0, .int 7, .int ((m : Int) + 1), .int ((m : Int) - 1), .bool true, .bool false, .str (Str.ofString (toString (m : Int))), .none, .int (10 ^ 39), .int (-(m : Int)), .tuple [.int (m : Int)], .list [.int (m : Int)], .str (Str.ofString ""), .dict []] :=
        .cons (.int _) (.cons (.int _) (.cons (.int _) (.cons (.int _) (.cons (.bl _) (.cons (.bl _) (.cons (.str _) (.cons .non (.cons (.int _) (.cons (.int _) (.cons (sh_tup D6 (ts6 _ _ (s4 _ _ (s3 _ _ (s2' _ _ h1)))) (.cons (.int _) .nil)) (.cons (.lst (hid6 _ _ (by rw [hid_at oL]; exact s4 _ _ (s3 _ _ h2))) mL (.cons (.int _) .nil)) (.cons (.str _) (.cons (.dic (kvs := []) (hid6 _ _ (by rw [hid_at od]; exact s4 _ _ h3)) .nil) .nil)))))))))))))
      have fits : ∀ dd ∈ ([.int 0, .int 7, .int ((m : Int) + 1), .int ((m : Int) - 1), .bool true, .bool false, .str (Str.ofString (toString (m : Int))), .none, .int (10 ^ 39), .int (-(m : Int)), .tuple [.int (m : Int)], .list [.int (m : Int)], .str (Str.ofString ""), .dict []] : List PyData), Fit (10 ^ 39) 400 3 dd := by
        intro dd hd
        have fi : ∀ i : Int, i.natAbs ≤ 7 → Fit (10 ^ 39) 400 3 (.int i) := fun i hi => ⟨decide_eq_true (Nat.le_trans hi (by decide)), by
          have : i = -7 ∨ i = -6 ∨ i = -5 ∨ i = -4 ∨ i = -3 ∨ i = -2 ∨ i = -1 ∨ i = 0 ∨ i = 1 ∨ i = 2 ∨ i = 3 ∨ i = 4 ∨ i = 5 ∨ i = 6 ∨ i = 7 := by omega
          rcases this with z | z | z | z | z | z | z | z | z | z | z | z | z | z | z <;> rw [z] <;> decide, Nat.zero_le _⟩
        simp only [List.mem_cons, List.not_mem_nil, or_false] at hd
        rcases hd with rfl | rfl | rfl | rfl | rfl | rfl | rfl | rfl | rfl | rfl | rfl | rfl | rfl | rfl
        · exact fi _ (by decide)
        · exact fi _ (by decide)
        · exact fi _ (by omega)
        · exact fi _ (by omega)
        · exact ⟨rfl, by decide, by decide⟩
        · exact ⟨rfl, by decide, by decide⟩
        · have e : Str.ofString (toString (m : Int)) = SX.S [48 + m] := str_m m1 m6
          rw [e]
          exact (fit_S (B := 10 ^ 39) (n := 400) (m := 3) (fun c hc => by rw [List.mem_singleton.mp hc]; omega) (show 1 ≤ 400 by decide))
        · exact ⟨rfl, by decide, by decide⟩
        · exact ⟨by decide, by decide, by decide⟩
        · exact fi _ (by omega)
        · exact (Fit.tup (FitL.one (fm 200 0 (Nat.le_refl _)))).mono (Nat.le_refl _) (by decide) (by decide)
        · exact (Fit.lst (FitL.one (fm 200 0 (Nat.le_refl _)))).mono (Nat.le_refl _) (by decide) (by decide)
        · exact ⟨rfl, by decide, by decide⟩
        · exact ⟨rfl, by decide, by decide⟩
      obtain ⟨x, dx, hx, sx, fx⟩ := pick_sh all fits u0 u1
      refine ⟨C, _, u, x, rfl, rfl, SqL.of hC6, hx, .ref tp, rfl, sl2, fun r nr => ?_⟩
      have s7 := same_upd (o := (HO.tup [x, V.ref tp])) nr
      have h7 : upd H6 r (HO.tup [x, V.ref tp]) r = some (HO.tup [x, V.ref tp]) := upd_same
      generalize upd H6 r (HO.tup [x, V.ref tp]) = A7 at s7 h7 ⊢
      have D7 := D6.same s7
      refine q _ _ _ (D7.mono (by omega)) (((fr2.trans (Fr.of sA)).trans fr6).trans (Fr.of s7)) (sh_tup D7 h7 (.cons (sx.same (hid_same s7)) (.cons (sh_tup D7 (s7 _ _ (ts6 _ _ (sA _ _ htp2))) (sh_strsV ps)) .nil))) ?_
      exact (fit_two fx (fsome 300 3 (Nat.le_refl _) (by decide))).mono (Nat.le_refl _) (by decide) (by decide)
    · -- one of eighteen
      have fsome : ∀ N M, 300 ≤ N → 1 ≤ M → Fit (10 ^ 39) N M (.tuple (ps.map sD)) := fun N M a c => (Fit.tup (fps.monoX (Nat.le_refl _) (show 7 * ps.length ≤ 299 by omega) (Nat.le_refl _))).mono (Nat.le_refl _) (show 299 ≤ N by omega) c
      have fsomeL : Fit (10 ^ 39) 300 1 (.list (ps.map sD)) := (Fit.lst (fps.monoX (Nat.le_refl _) (show 7 * ps.length ≤ 299 by omega) (Nat.le_refl _))).mono (Nat.le_refl _) (by decide) (Nat.le_refl _)
      have fnil : Fit (10 ^ 39) 2 1 (.tuple []) := ⟨rfl, by decide, by decide⟩
      refine ⟨.ref cv, rfl, cv, _, rfl, SqT.of hcv2, fun L1 nL1 mL1 => ?_⟩
      have s1 := same_upd (o := (HO.lst [V.int (m : Nat), V.ref tp])) nL1
      have h1 : upd H2 L1 (HO.lst [V.int (m : Nat), V.ref tp]) L1 = some (HO.lst [V.int (m : Nat), V.ref tp]) := upd_same
      generalize upd H2 L1 (HO.lst [V.int (m : Nat), V.ref tp]) = A1 at s1 h1 ⊢
      refine ⟨.int (m : Nat), rfl, .ref tp, rfl, tp, _, rfl, SqT.of (s1 _ _ htp2), fun L2 nL2 mL2 => ?_⟩
      have s2' := same_upd (o := (HO.lst (pVs ps))) nL2
      have h2 : upd A1 L2 (HO.lst (pVs ps)) L2 = some (HO.lst (pVs ps)) := upd_same
      generalize upd A1 L2 (HO.lst (pVs ps)) = A2 at s2' h2 ⊢
      refine ⟨sl2, fun t2 nt2 => ?_⟩
      have s3 := same_upd (o := (HO.tup [V.int (m : Nat), V.ref L2])) nt2
      have h3 : upd A2 t2 (HO.tup [V.int (m : Nat), V.ref L2]) t2 = some (HO.tup [V.int (m : Nat), V.ref L2]) := upd_same
      generalize upd A2 t2 (HO.tup [V.int (m : Nat), V.ref L2]) = A3 at s3 h3 ⊢
      refine ⟨.int (m : Nat), rfl, sl1, fun t3 nt3 => ?_⟩
      have s4 := same_upd (o := (HO.tup [V.int (m : Nat)])) nt3
      have h4 : upd A3 t3 (HO.tup [V.int (m : Nat)]) t3 = some (HO.tup [V.int (m : Nat)]) := upd_same
      generalize upd A3 t3 (HO.tup [V.int (m : Nat)]) = A4 at s4 h4 ⊢
      refine ⟨.int (m : Nat), rfl, .ref tp, rfl, Nat.zero_le _, fun e4 ne4 => ?_⟩
      have s5 := same_upd (o := (HO.tup [])) ne4
      have h5 : upd A4 e4 (HO.tup []) e4 = some (HO.tup []) := upd_same
      generalize upd A4 e4 (HO.tup []) = A5 at s5 h5 ⊢
      refine ⟨sl3, fun t4 nt4 => ?_⟩
      have s6 := same_upd (o := (HO.tup [V.int (m : Nat), V.ref tp, V.ref e4])) nt4
      have h6 : upd A5 t4 (HO.tup [V.int (m : Nat), V.ref tp, V.ref e4]) t4 = some (HO.tup [V.int (m : Nat), V.ref tp, V.ref e4]) := upd_same
      generalize upd A5 t4 (HO.tup [V.int (m : Nat), V.ref tp, V.ref e4]) = A6 at s6 h6 ⊢
      refine ⟨.ref tp, rfl, .int (m : Nat), rfl, sl2, fun t5 nt5 => ?_⟩
      have s7 := same_upd (o := (HO.tup [V.ref tp, V.int (m : Nat)])) nt5
      have h7 : upd A6 t5 (HO.tup [V.ref tp, V.int (m : Nat)]) t5 = some (HO.tup [V.ref tp, V.int (m : Nat)]) := upd_same
      generalize upd A6 t5 (HO.tup [V.ref tp, V.int (m : Nat)]) = A7 at s7 h7 ⊢
      refine ⟨.int (m : Nat), rfl, sl2, fun t6 nt6 => ?_⟩
      have s8 := same_upd (o := (HO.tup [V.int (m : Nat), V.non])) nt6
      have h8 : upd A7 t6 (HO.tup [V.int (m : Nat), V.non]) t6 = some (HO.tup [V.int (m : Nat), V.non]) := upd_same
      generalize upd A7 t6 (HO.tup [V.int (m : Nat), V.non]) = A8 at s8 h8 ⊢
      refine ⟨.ref tp, rfl, .int (m : Nat), rfl, Nat.zero_le _, fun e9 ne9 => ?_⟩
      have s9 := same_upd (o := (HO.tup [])) ne9
      have h9 : upd A8 e9 (HO.tup []) e9 = some (HO.tup []) := upd_same
      generalize upd A8 e9 (HO.tup []) = A9 at s9 h9 ⊢
      refine ⟨by show 9 ≤ sizeLine; decide, fun C1 nC1 => ?_⟩
      have s10 := same_upd (o := (HO.lst [V.ref L1, V.ref t2, V.ref t3, V.ref t4, V.ref t5, V.ref t6, V.ref tp, V.int (m : Nat), V.ref e9])) nC1
      have h10 : upd A9 C1 (HO.lst [V.ref L1, V.ref t2, V.ref t3, V.ref t4, V.ref t5, V.ref t6, V.ref tp, V.int (m : Nat), V.ref e9]) C1 = some (HO.lst [V.ref L1, V.ref t2, V.ref t3, V.ref t4, V.ref t5, V.ref t6, V.ref tp, V.int (m : Nat), V.ref e9]) := upd_same
      generalize upd A9 C1 (HO.lst [V.ref L1, V.ref t2, V.ref t3, V.ref t4, V.ref t5, V.ref t6, V.ref tp, V.int (m : Nat), V.ref e9]) = B0 at s10 h10 ⊢
      have sC1 := ((((((((s1.trans s2').trans s3).trans s4).trans s5).trans s6).trans s7).trans s8).trans s9)
      have sA := sC1.trans s10
      have DB := D2.same sA
      have oL1 := D2.out nL1
      have oL2 := (D2.same s1).out nL2
      have g1 := s10 _ _ (s9 _ _ (s8 _ _ (s7 _ _ (s6 _ _ (s5 _ _ (s4 _ _ (s3 _ _ (s2' _ _ h1))))))))
      have g2 := s10 _ _ (s9 _ _ (s8 _ _ (s7 _ _ (s6 _ _ (s5 _ _ (s4 _ _ (s3 _ _ h2)))))))
      have g3 := s10 _ _ (s9 _ _ (s8 _ _ (s7 _ _ (s6 _ _ (s5 _ _ (s4 _ _ h3))))))
      have g4 := s10 _ _ (s9 _ _ (s8 _ _ (s7 _ _ (s6 _ _ (s5 _ _ h4)))))
      have g5 := s10 _ _ (s9 _ _ (s8 _ _ (s7 _ _ (s6 _ _ h5))))
      have g6 := s10 _ _ (s9 _ _ (s8 _ _ (s7 _ _ h6)))
      have g7 := s10 _ _ (s9 _ _ (s8 _ _ h7))
      have g8 := s10 _ _ (s9 _ _ h8)
      have g9 := s10 _ _ h9
      have htpB := sA _ _ htp2
      refine ⟨.ref C1, rfl, .int (m : Nat), rfl, sl2, fun a1 na1 => ?_⟩
      have r1 := same_upd (o := (HO.tup [V.int (m : Nat), V.str (Str.ofString "01-")])) na1
      have k1 : upd B0 a1 (HO.tup [V.int (m : Nat), V.str (Str.ofString "01-")]) a1 = some (HO.tup [V.int (m : Nat), V.str (Str.ofString "01-")]) := upd_same
      generalize upd B0 a1 (HO.tup [V.int (m : Nat), V.str (Str.ofString "01-")]) = B1 at r1 k1 ⊢
      refine ⟨.int (m : Nat), rfl, fun d2 nd2 => ?_⟩
      have r2 := same_upd (o := (HO.dK [])) nd2
      have k2 : upd B1 d2 (HO.dK []) d2 = some (HO.dK []) := upd_same
      generalize upd B1 d2 (HO.dK []) = B2 at r2 k2 ⊢
      refine ⟨sl2, fun a2 na2 => ?_⟩
      have r3 := same_upd (o := (HO.tup [V.int (m : Nat), V.ref d2])) na2
      have k3 : upd B2 a2 (HO.tup [V.int (m : Nat), V.ref d2]) a2 = some (HO.tup [V.int (m : Nat), V.ref d2]) := upd_same
      generalize upd B2 a2 (HO.tup [V.int (m : Nat), V.ref d2]) = B3 at r3 k3 ⊢
      refine fun d6 nd6 => ?_
      have r4 := same_upd (o := (HO.dK [])) nd6
      have k4 : upd B3 d6 (HO.dK []) d6 = some (HO.dK []) := upd_same
      generalize upd B3 d6 (HO.dK []) = B4 at r4 k4 ⊢
      refine ⟨Nat.zero_le _, fun l7 nl7 ml7 => ?_⟩
      have r5 := same_upd (o := (HO.lst [])) nl7
      have k5 : upd B4 l7 (HO.lst []) l7 = some (HO.lst []) := upd_same
      generalize upd B4 l7 (HO.lst []) = B5 at r5 k5 ⊢
      refine ⟨.int (m : Nat), rfl, .ref tp, rfl, sl1, fun i8 ni8 => ?_⟩
      have r6 := same_upd (o := (HO.tup [V.ref tp])) ni8
      have k6 : upd B5 i8 (HO.tup [V.ref tp]) i8 = some (HO.tup [V.ref tp]) := upd_same
      generalize upd B5 i8 (HO.tup [V.ref tp]) = B6 at r6 k6 ⊢
      refine ⟨sl2, fun a8 na8 => ?_⟩
      have r7 := same_upd (o := (HO.tup [V.int (m : Nat), V.ref i8])) na8
      have k7 : upd B6 a8 (HO.tup [V.int (m : Nat), V.ref i8]) a8 = some (HO.tup [V.int (m : Nat), V.ref i8]) := upd_same
      generalize upd B6 a8 (HO.tup [V.int (m : Nat), V.ref i8]) = B7 at r7 k7 ⊢
      have rB := (((((r1.trans r2).trans r3).trans r4).trans r5).trans r6).trans r7
      have htp7 := rB _ _ htpB
      refine ⟨.int (m : Nat), rfl, .ref tp, rfl, 1, rfl, slA htp7 fun q1 B8 r8 k8 => ?_⟩
      rw [show (1 : Int) = ((1 : Nat) : Int) from rfl, cut_to] at k8
      refine ⟨Nat.zero_le _, fun e10 ne10 => ?_⟩
      have r9 := same_upd (o := (HO.tup [])) ne10
      have k9 : upd B8 e10 (HO.tup []) e10 = some (HO.tup []) := upd_same
      generalize upd B8 e10 (HO.tup []) = B9 at r9 k9 ⊢
      refine ⟨sl1, fun t11 nt11 => ?_⟩
      have r10 := same_upd (o := (HO.tup [V.ref e10])) nt11
      have k10 : upd B9 t11 (HO.tup [V.ref e10]) t11 = some (HO.tup [V.ref e10]) := upd_same
      generalize upd B9 t11 (HO.tup [V.ref e10]) = E1 at r10 k10 ⊢
      refine catA (r10 _ _ (r9 _ _ k8)) k10 ?_ fun q2 E2 r11 k11 => ?_
      · rw [List.length_take]
        show _ + 1 ≤ sizeLine
        omega
      refine ⟨sl2, fun a12 na12 => ?_⟩
      have r12 := same_upd (o := (HO.tup [V.int (m : Nat), V.ref q2])) na12
      have k12 : upd E2 a12 (HO.tup [V.int (m : Nat), V.ref q2]) a12 = some (HO.tup [V.int (m : Nat), V.ref q2]) := upd_same
      generalize upd E2 a12 (HO.tup [V.int (m : Nat), V.ref q2]) = E3 at r12 k12 ⊢
      refine ⟨by show 9 ≤ sizeLine; decide, fun C2 nC2 => ?_⟩
      have r13 := same_upd (o := (HO.lst [V.ref a1, V.ref a2, V.non, V.bl true, V.str (Str.ofString ""), V.ref d6, V.ref l7, V.ref a8, V.ref a12])) nC2
      have k13 : upd E3 C2 (HO.lst [V.ref a1, V.ref a2, V.non, V.bl true, V.str (Str.ofString ""), V.ref d6, V.ref l7, V.ref a8, V.ref a12]) C2 = some (HO.lst [V.ref a1, V.ref a2, V.non, V.bl true, V.str (Str.ofString ""), V.ref d6, V.ref l7, V.ref a8, V.ref a12]) := upd_same
      generalize upd E3 C2 (HO.lst [V.ref a1, V.ref a2, V.non, V.bl true, V.str (Str.ofString ""), V.ref d6, V.ref l7, V.ref a8, V.ref a12]) = E4 at r13 k13 ⊢
      have rE := (((((r8.trans r9).trans r10).trans r11).trans r12).trans r13)
      have rA := rB.trans rE
      refine ⟨C1, C2, _, _, rfl, rfl, rA _ _ h10, k13, by show 18 ≤ sizeLine; decide, fun C nC => ?_⟩
      have r14 := same_upd (o := (HO.lst ([V.ref L1, V.ref t2, V.ref t3, V.ref t4, V.ref t5, V.ref t6, V.ref tp, V.int (m : Nat), V.ref e9] ++ [V.ref a1, V.ref a2, V.non, V.bl true, V.str (Str.ofString ""), V.ref d6, V.ref l7, V.ref a8, V.ref a12]))) nC
      have k14 : upd E4 C (HO.lst ([V.ref L1, V.ref t2, V.ref t3, V.ref t4, V.ref t5, V.ref t6, V.ref tp, V.int (m : Nat), V.ref e9] ++ [V.ref a1, V.ref a2, V.non, V.bl true, V.str (Str.ofString ""), V.ref d6, V.ref l7, V.ref a8, V.ref a12])) C = some (HO.lst ([V.ref L1, V.ref t2, V.ref t3, V.ref t4, V.ref t5, V.ref t6, V.ref tp, V.int (m : Nat), V.ref e9] ++ [V.ref a1, V.ref a2, V.non, V.bl true, V.str (Str.ofString ""), V.ref d6, V.ref l7, V.ref a8, V.ref a12])) := upd_same
      generalize upd E4 C (HO.lst ([V.ref L1, V.ref t2, V.ref t3, V.ref t4, V.ref t5, V.ref t6, V.ref tp, V.int (m : Nat), V.ref e9] ++ [V.ref a1, V.ref a2, V.non, V.bl true, V.str (Str.ofString ""), V.ref d6, V.ref l7, V.ref a8, V.ref a12])) = E5 at r14 k14 ⊢
      have sZ := sA.trans (rA.trans r14)
      have DZ := D2.same sZ
      have oC := (DB.same rA).off nC
      have od2 := (DB.same r1).out nd2
      have od6 := (DB.same ((r1.trans r2).trans r3)).out nd6
      have ol7 := (DB.same (((r1.trans r2).trans r3).trans r4)).out nl7
      refine ⟨.ref C, rfl, .ref d, rfl, d, l, 18, _, rfl, DZ.d1, by omega, by decide, by decide, fun H6 u D6 fr6 u0 u1 => ?_⟩
      replace D6 := DZ.fr D6 fr6
      have ts6 := Ts.frD DZ.d1 fr6
      have hC6 := fr6 _ _ oC.1 oC.2 k14
      have hid6 : Same (hid as E5) (hid as H6) := hid_fr fr6 D.hd D.hl
      have rZ : Same B0 E5 := rA.trans r14
      have rE5 : Same B7 E5 := rE.trans r14
      have nilT : ∀ a, E5 a = some (HO.tup []) → Sh (hid as H6) (.ref a) (.tuple []) := fun a h => sh_tup D6 (ts6 _ _ h) .nil
      have someT : Sh (hid as H6) (.ref tp) (.tuple (ps.map sD)) := sh_tup D6 (ts6 _ _ (rZ _ _ htpB)) (sh_strsV ps)
      have someL : Sh (hid as H6) (.ref L2) (.list (ps.map sD)) := .lst (hid6 _ _ (by rw [hid_at oL2]; exact rZ _ _ g2)) mL2 (sh_strsV ps)
      have dict2 : Sh (hid as H6) (.ref d2) (.dict []) := .dic (kvs := []) (hid6 _ _ (by rw [hid_at od2]; exact rE5 _ _ (r7 _ _ (r6 _ _ (r5 _ _ (r4 _ _ (r3 _ _ k2))))))) .nil
      have dict6 : Sh (hid as H6) (.ref d6) (.dict []) := .dic (kvs := []) (hid6 _ _ (by rw [hid_at od6]; exact rE5 _ _ (r7 _ _ (r6 _ _ (r5 _ _ k4))))) .nil
      have last : Sh (hid as H6) (.ref q2) (.tuple (((ps.map sD).take 1) ++ [.tuple []])) := by
        refine sh_tup D6 (ts6 _ _ (r14 _ _ (r13 _ _ (r12 _ _ k11)))) (((sh_strsV ps).take 1).append (.cons (nilT _ (r14 _ _ (r13 _ _ (r12 _ _ (r11 _ _ (r10 _ _ k9)))))) .nil))
      have all : ShAll (hid as H6) ([V.ref L1, V.ref t2, V.ref t3, V.ref t4, V.ref t5, V.ref t6, V.ref tp, V.int (m : Nat), V.ref e9] ++ [V.ref a1, V.ref a2, V.non, V.bl true, V.str (Str.ofString ""), V.ref d6, V.ref l7, V.ref a8, V.ref a12])
          [.list [.int (m : Int), .tuple (ps.map sD)], .tuple [.int (m : Int), .list (ps.map sD)], .tuple [.int (m : Int)], .tuple [.int (m : Int), .tuple (ps.map sD), .tuple []], .tuple [.tuple (ps.map sD), .int (m : Int)], .tuple [.int (m : Int), .none], .tuple (ps.map sD), .int (m : Int), .tuple [],
           .tuple [.int (m : Int), .str (Str.ofString "01-")], .tuple [.int (m : Int), .dict []], .none, .bool true, .str (Str.ofString ""), .dict [], .list [], .tuple [.int (m : Int), .tuple [.tuple (ps.map sD)]], .tuple [.int (m : Int), .tuple (((ps.map sD).take 1) ++ [.tuple []])]] := by
        refine .cons (.lst (hid6 _ _ (by rw [hid_at oL1]; exact rZ _ _ g1)) mL1 (.cons (.int _) (.cons someT .nil))) ?_
        refine .cons (sh_tup D6 (ts6 _ _ (rZ _ _ g3)) (.cons (.int _) (.cons someL .nil))) ?_
        refine .cons (sh_tup D6 (ts6 _ _ (rZ _ _ g4)) (.cons (.int _) .nil)) ?_
        refine .cons (sh_tup D6 (ts6 _ _ (rZ _ _ g6)) (.cons (.int _) (.cons someT (.cons (nilT _ (rZ _ _ g5)) .nil)))) ?_
        refine .cons (sh_tup D6 (ts6 _ _ (rZ _ _ g7)) (.cons someT (.cons (.int _) .nil))) ?_
        refine .cons (sh_tup D6 (ts6 _ _ (rZ _ _ g8)) (.cons (.int _) (.cons .non .nil))) ?_
        refine .cons someT (.cons (.int _) (.cons (nilT _ (rZ _ _ g9)) ?_))
        refine .cons (sh_tup D6 (ts6 _ _ (rE5 _ _ (r7 _ _ (r6 _ _ (r5 _ _ (r4 _ _ (r3 _ _ (r2 _ _ k1)))))))) (.cons (.int _) (.cons (.str _) .nil))) ?_
        refine .cons (sh_tup D6 (ts6 _ _ (rE5 _ _ (r7 _ _ (r6 _ _ (r5 _ _ (r4 _ _ k3)))))) (.cons (.int _) (.cons dict2 .nil))) ?_
        refine .cons .non (.cons (.bl _) (.cons (.str _) (.cons dict6 ?_)))
        refine .cons (.lst (hid6 _ _ (by rw [hid_at ol7]; exact rE5 _ _ (r7 _ _ (r6 _ _ k5)))) ml7 .nil) ?_
        refine .cons (sh_tup D6 (ts6 _ _ (rE5 _ _ k7)) (.cons (.int _) (.cons (sh_tup D6 (ts6 _ _ (rE5 _ _ (r7 _ _ k6))) (.cons someT .nil)) .nil))) ?_
        exact .cons (sh_tup D6 (ts6 _ _ (r14 _ _ (r13 _ _ k12))) (.cons (.int _) (.cons last .nil))) .nil
      have fits : ∀ dd ∈ ([.list [.int (m : Int), .tuple (ps.map sD)], .tuple [.int (m : Int), .list (ps.map sD)], .tuple [.int (m : Int)], .tuple [.int (m : Int), .tuple (ps.map sD), .tuple []], .tuple [.tuple (ps.map sD), .int (m : Int)], .tuple [.int (m : Int), .none], .tuple (ps.map sD), .int (m : Int), .tuple [],
           .tuple [.int (m : Int), .str (Str.ofString "01-")], .tuple [.int (m : Int), .dict []], .none, .bool true, .str (Str.ofString ""), .dict [], .list [], .tuple [.int (m : Int), .tuple [.tuple (ps.map sD)]], .tuple [.int (m : Int), .tuple (((ps.map sD).take 1) ++ [.tuple []])]] : List PyData), Fit (10 ^ 39) 1000 6 dd := by
        intro dd hd
        have fm2 := fm 200 0 (Nat.le_refl _)
        have fs := fsome 300 1 (Nat.le_refl _) (Nat.le_refl _)
        have up : ∀ {N M : Nat} {y : PyData}, Fit (10 ^ 39) N M y → N ≤ 1000 → M ≤ 6 → Fit (10 ^ 39) 1000 6 y := fun h a b => h.mono (Nat.le_refl _) a b
        have f1 : ∀ {M : Nat}, Fit (10 ^ 39) 200 M (.int (m : Int)) := fm 200 _ (Nat.le_refl _)
        simp only [List.mem_cons, List.not_mem_nil, or_false] at hd
        rcases hd with rfl | rfl | rfl | rfl | rfl | rfl | rfl | rfl | rfl | rfl | rfl | rfl | rfl | rfl | rfl | rfl | rfl | rfl
        · have := (FitL.one (f1 (M := 1))).app (FitL.one fs)
          exact up (Fit.lst this) (by decide) (by decide)
        · exact up (fit_two f1 fsomeL) (by decide) (by decide)
        · exact up (Fit.tup (FitL.one fm2)) (by decide) (by decide)
        · have := ((FitL.one (f1 (M := 1))).app (FitL.one fs)).app (FitL.one fnil)
          exact up (Fit.tup this) (by decide) (by decide)
        · exact up (fit_two fs f1) (by decide) (by decide)
        · exact up (fit_two (n' := 1) f1 (⟨rfl, by decide, Nat.zero_le _⟩ : Fit (10 ^ 39) 1 0 .none)) (by decide) (by decide)
        · exact up fs (by decide) (by decide)
        · exact up fm2 (by decide) (by decide)
        · exact up fnil (by decide) (by decide)
        · exact up (fit_two (n' := 5) f1 (⟨rfl, by decide, Nat.zero_le _⟩ : Fit (10 ^ 39) 5 0 (.str (Str.ofString "01-")))) (by decide) (by decide)
        · exact up (fit_two (n' := 5) f1 (⟨rfl, by decide, by decide⟩ : Fit (10 ^ 39) 5 1 (.dict []))) (by decide) (by decide)
        · exact ⟨rfl, by decide, by decide⟩
        · exact ⟨rfl, by decide, by decide⟩
        · exact ⟨rfl, by decide, by decide⟩
        · exact ⟨rfl, by decide, by decide⟩
        · exact ⟨rfl, by decide, by decide⟩
        · exact up (fit_two f1 (Fit.tup (FitL.one fs))) (by decide) (by decide)
        · have h1 : FitL (10 ^ 39) 280 1 ((ps.map sD).take 1) := by
            rcases ps with _ | ⟨p0, r0⟩
            · exact ⟨rfl, Nat.zero_le _, Nat.zero_le _⟩
            · exact (FitL.one (fit_sD (okp p0 (List.mem_cons_self ..)) m6)).monoX (Nat.le_refl _) (by decide) (by decide)
          exact up (fit_two f1 (Fit.tup (h1.app (FitL.one fnil)))) (by decide) (by decide)
      obtain ⟨x, dx, hx, sx, fx⟩ := pick_sh all fits u0 u1
      exact ⟨C, _, u, x, rfl, rfl, SqL.of hC6, hx, q x H6 dx (D6.mono (by omega)) ((fr2.trans (Fr.of sZ)).trans fr6) sx fx⟩

end
end Gk

set_option Elab.async false
set_option linter.all false
set_option maxRecDepth 100000
set_option maxHeartbeats 1000000
set_option pp.maxSteps 3500
set_option pp.deepTerms false
namespace Gk
open PySem PySem.Spec PyProof.Rows L2

section
variable {P : Program} {w : World} {K : PySem.W.Frag} {mg : Str → Option Value} {base : Heap}
/-! ### is one thing told rightly -/
def sp_right (T : Tx K mg) : Sp := fun vs H Q _ => ∃ (v : V) (d : PyData) (B N M : Nat), vs = [v] ∧ Sh H v d ∧ Fit B N M d ∧ B < 2 ^ 190 ∧ N ≤ 50000 ∧ M ≤ 50 ∧ GxR.TabG H T.P_is_product ∧ GxR.TabG H T.P_is_cover ∧ ∀ H', Gr H H' → Q (.bl true) H'
theorem ok_right (T : Tx K mg) (B : Tb base T) : FnG P w K mg base CX0 5 T.f_right T.fd_right ["_law_thing"] (sp_right T) := by
  refine okG0 T.F_right sc_right (fun vs H Q E h => ?_) (fun cdv A outer s H vs Q E nothing hr h => ?_)
  · obtain ⟨v, d, B, N, M, rfl, _⟩ := h
    rfl
  · obtain ⟨v, d, B', N, M, rfl, sh, fit, hB, hN, hM, tab0, tab1, q⟩ := h
    refine ⟨_, (pss_cons (ps_set (i := 1) sc_right.nd rfl (by first | exact .inl rfl | exact .inr rfl) (pe_callB (call_repr nothing hr.units) (by rfl) T.m_repr (by decide +kernel) (pa_cons (pv 0) pa_nil))) (pss_cons (ps_set (i := 2) sc_right.nd rfl (by first | exact .inl rfl | exact .inr rfl) (pe_call (ok_is_cover T B) (hr.mono (by decide)) (by rfl) T.g_is_cover T.F_is_cover.kp T.b_is_cover .nil pass0 (pa_cons (pv 0) pa_nil))) (pss_cons (ps_if (pw_or (pt_not (pt_val (pe_callB call_isi (by rfl) T.m_isinstance (by decide +kernel) (pa_cons (pv 2) (pa_cons (pe_bltn (v := .ty "bool") (u := .type "bool") (by rfl) T.m_bool (by decide +kernel) rfl) pa_nil))))) (pw_or (pt_cmpR op_ne (pv 2) (pe_call (ok_l_is_cover T) (hr.mono (by decide)) (by rfl) T.g_l_is_cover T.F_l_is_cover.kp T.b_l_is_cover .nil pass0 (pa_cons (pv 0) pa_nil)) (nomark _)) (pw_or1 (pt_cmpR op_ne (pe_call (ok_is_cover T B) (hr.mono (by decide)) (by rfl) T.g_is_cover T.F_is_cover.kp T.b_is_cover .nil pass0 (pa_cons (pv 0) pa_nil)) (pv 2) (nomark _))))).pt (pss_one (ps_ret pe_bl)) pss_nil) (pss_one (ps_ret (pe_cmpR op_eq (pe_callB (call_repr nothing hr.units) (by rfl) T.m_repr (by decide +kernel) (pa_cons (pv 0) pa_nil)) (pv 1) (nomark _))))))), ?_⟩
    obtain ⟨f1, f2, f3⟩ := fit.fine hB hN hM
    have wt : d.weight ≤ 50000 := Nat.le_trans fit.2.1 hN
    refine ⟨v, rfl, v, d, rfl, sh, f1, f2, f3, v, rfl, v, d, rfl, sh, wt, tab0, tab1, fun H1 g1 => ?_⟩
    refine ⟨.bl (isCovD d), rfl, _, _, _, _, _, rfl, .ty _, (Sh.bl (H := H1) (isCovD d)).ty, kit_ty (kitBool (.bool (isCovD d))), _, rfl, iteF ?_⟩
    refine ⟨.bl (isCovD d), rfl, v, rfl, v, d, B', rfl, sh.gr g1, wt, fit.1, fun H2 s2 => ⟨rfl, _, rfl, ?_⟩⟩
    rw [decide_eq_true rfl]
    refine iteF ?_
    have sh2 := (sh.gr g1).same s2
    have g2 := g1.trans (Gr.of s2)
    refine ⟨v, rfl, v, d, rfl, sh2, wt, g2.2 _ tab0, g2.2 _ tab1, fun H3 g3 => ⟨_, rfl, rfl, _, rfl, ?_⟩⟩
    rw [decide_eq_true rfl]
    refine iteF ?_
    refine ⟨v, rfl, v, d, rfl, sh2.gr g3, f1, f2, f3, .str _, rfl, rfl, ?_⟩
    rw [decide_eq_true rfl]
    exact q H3 (g2.trans g3)

end
end Gk

set_option Elab.async false
set_option linter.all false
set_option maxRecDepth 100000
set_option maxHeartbeats 1000000
set_option pp.maxSteps 6500
set_option pp.deepTerms false
namespace Gk
open PySem PySem.Spec PyProof.Rows L2

section
variable {P : Program} {w : World} {K : PySem.W.Frag} {mg : Str → Option Value} {base : Heap}
theorem Tabs.fr {H H' : Hp} {Ps : List Addr} {d l : Addr} {n : Int} (t : Tabs H Ps) (D : DeckD H d l n) (f : Fr d l H H') : Tabs H' Ps := fun P hP => tab_frD D f (t P hP)
theorem Tabs.gr {H H' : Hp} {Ps : List Addr} (t : Tabs H Ps) (g : Gr H H') : Tabs H' Ps := fun P hP => g.2 _ (t P hP)
theorem Tabs.set {H : Hp} {Ps : List Addr} {p : Addr} {xs ys : List V} (t : Tabs H Ps) (h : H p = some (.lst xs)) : Tabs (upd H p (.lst ys)) Ps := fun P hP => by
  obtain ⟨qs, e, tr⟩ := t P hP
  exact ⟨qs, by rw [upd_ne (ne_of e h (by intro z; cases z))]; exact e, tr⟩
theorem DA.add {H : Hp} {d l R : Addr} {n : Int} (D : DA [d, l] H d l n) (h : H R = none) : DA [d, l, R] (upd H R (.lst [])) d l n := by
  have o := D.off h
  refine ⟨D.d1.upd o.1 o.2, List.mem_cons_self .., List.mem_cons_of_mem _ (List.mem_cons_self ..), fun b hb => ?_⟩
  by_cases e : b = R
  · rw [e]
    exact ⟨_, upd_same, fun xs z => by cases z⟩
  · have hb' : b ∈ [d, l] := by
      rcases List.mem_cons.mp hb with z | z
      · rw [z]; exact in_d
      · rcases List.mem_cons.mp z with z | z
        · rw [z]; exact in_l
        · exact absurd (List.mem_singleton.mp z) e
    obtain ⟨u, hu, no⟩ := D.liv b hb'
    exact ⟨u, by rw [upd_ne e]; exact hu, no⟩
theorem DA.put {H : Hp} {d l R : Addr} {n : Int} {xs : List V} (D : DA [d, l, R] H d l n) (h1 : R ≠ d) (h2 : R ≠ l) : DA [d, l, R] (upd H R (.lst xs)) d l n := by
  refine ⟨D.d1.upd h1 h2, D.hd, D.hl, fun b hb => ?_⟩
  by_cases e : b = R
  · rw [e]
    exact ⟨_, upd_same, fun xs z => by cases z⟩
  · obtain ⟨u, hu, no⟩ := D.liv b hb
    exact ⟨u, by rw [upd_ne e]; exact hu, no⟩
theorem hid_more {H : Hp} {d l R : Addr} (h : H R = none) : Same (hid [d, l] H) (hid [d, l, R] (upd H R (.lst []))) := fun b o e => by
  by_cases ha : b ∈ [d, l]
  · rw [hid_in ha] at e; cases e
  · rw [hid_at ha] at e
    have nb : b ≠ R := ne_of_none e h
    have : b ∉ [d, l, R] := fun z => by
      rcases List.mem_cons.mp z with z | z
      · exact ha (z ▸ in_d)
      · rcases List.mem_cons.mp z with z | z
        · exact ha (z ▸ in_l)
        · exact nb (List.mem_singleton.mp z)
    rw [hid_at this, upd_ne nb]
    exact e
theorem in3_R {d l R : Addr} : R ∈ [d, l, R] := by simp
theorem isProd_of {m : Nat} {p : List Nat} (h : ProdOk m p) : isProdD (m : Int) (sD p) = true := by
  show (decide (((SX.S p).length : Int) = m) && (SX.S p).cps.toList.all sgB) = true
  rw [Bool.and_eq_true]
  refine ⟨decide_eq_true (by rw [SX.S_len, h.1]), List.all_eq_true.mpr fun c hc => ?_⟩
  have : c ∈ p := by
    have e : (SX.S p).cps.toList = p := by show p.toArray.toList = p; simp
    rwa [e] at hc
  rcases h.2 c this with rfl | rfl | rfl <;> exact sgB_iff.mpr (by simp)
def cD (m : Nat) (ps : List (List Nat)) : PyData := .tuple [.int (m : Int), .tuple (ps.map sD)]
theorem isCov_of {m : Nat} {ps : List (List Nat)} (h : CovOk m ps) (m1 : 1 ≤ m) (m6 : m ≤ 6) : isCovD (cD m ps) = true := by
  show (decide (1 ≤ (m : Int)) && (decide ((m : Int) ≤ 6) && (ps.map sD).all (isProdD m))) = true
  rw [decide_eq_true (show 1 ≤ (m : Int) by omega), decide_eq_true (show (m : Int) ≤ 6 by omega), Bool.true_and, Bool.true_and]
  refine List.all_eq_true.mpr fun x hx => ?_
  obtain ⟨p, hp, rfl⟩ := List.mem_map.mp hx
  exact isProd_of (h p hp)
theorem sh_cov {H : Hp} {c : Addr} {m : Nat} {ps : List (List Nat)} (h : CovAt H c m ps) : Sh H (.ref c) (cD m ps) := by
  obtain ⟨t, h1, h2⟩ := h
  exact .tup h1 (.cons (.int _) (.cons (.tup h2 (sh_strsV ps)) .nil))
theorem fit_int6 {m : Nat} (h : m ≤ 7) {M : Nat} : Fit (10 ^ 39) 3 M (.int (m : Int)) := ⟨decide_eq_true (Nat.le_trans (show ((m : Int)).natAbs ≤ 7 by omega) (by decide)), by
  have : m = 0 ∨ m = 1 ∨ m = 2 ∨ m = 3 ∨ m = 4 ∨ m = 5 ∨ m = 6 ∨ m = 7 := by omega
  rcases this with z | z | z | z | z | z | z | z <;> rw [z] <;> decide, Nat.zero_le _⟩
theorem fit_cov {m : Nat} {ps : List (List Nat)} (h : CovOk m ps) (m6 : m ≤ 6) (l : ps.length ≤ 40) : Fit (10 ^ 39) 300 2 (cD m ps) :=
  (fit_two (n := 3) (n' := 281) (fit_int6 (by omega)) ((Fit.tup (fit_strs m6 h)).mono (Nat.le_refl _) (by omega) (Nat.le_refl _))).mono (Nat.le_refl _) (by decide) (Nat.le_refl _)
def sp_law (K : PySem.W.Frag) (Ps : List Addr) : Sp := fun vs H Q _ => ∃ (a : Addr) (ns : List Int), vs = [.ref a] ∧ SqL K H a (ns.map V.int) ∧ ns.length ≤ 63 ∧ Tabs H Ps ∧ ∀ H', Q (.bl true) H'
theorem ok_law (T : Tx K mg) (B : Tb base T) : FnG P w K mg base CX0 6 T.f_law T.fd_law ["_law_script"] (sp_law K T.tabs) := by
  refine okG0 T.F_law sc_law (fun vs H Q E h => ?_) (fun cdv A outer s H vs Q E nothing hr h => ?_)
  · obtain ⟨a, ns, rfl, _⟩ := h
    rfl
  · obtain ⟨a, ns, rfl, hS, hlen, tabs, q⟩ := h
    refine ⟨_, (pss_cons (ps_set (i := 1) sc_law.nd rfl (by first | exact .inl rfl | exact .inr rfl) (pe_call (ok_deck T) (hr.mono (by decide)) (by rfl) T.g_deck T.F_deck.kp T.b_deck .nil pass0 (pa_cons (pv 0) pa_nil))) (pss_cons (ps_set (i := 2) sc_law.nd rfl (by first | exact .inl rfl | exact .inr rfl) (pe_callTy call_int1 (by rfl) T.m_int (by decide +kernel) (pa_cons (pe_cmpR op_eq (pe_call (ok_draw T) (hr.mono (by decide)) (by rfl) T.g_draw T.F_draw.kp T.b_draw .nil pass0 (pa_cons (pv 1) (pa_cons pe_int pa_nil))) pe_int (nomark _)) pa_nil))) (pss_cons (ps_set (i := 3) sc_law.nd rfl (by first | exact .inl rfl | exact .inr rfl) (pe_call (ok_many T) (hr.mono (by decide)) (by rfl) T.g_many T.F_many.kp T.b_many .nil pass0 (pa_cons (pv 1) pa_nil))) (pss_cons (ps_set (i := 4) sc_law.nd rfl (by first | exact .inl rfl | exact .inr rfl) (pe_call (ok_cover T) (hr.mono (by decide)) (by rfl) T.g_cover T.F_cover.kp T.b_cover .nil pass0 (pa_cons (pv 1) (pa_cons (pv 3) pa_nil)))) (pss_cons (ps_set (i := 4) sc_law.nd rfl (by first | exact .inl rfl | exact .inr rfl) (pe_tup (pa_cons (pv 3) (pa_cons (pe_op op_catA (pe_ix ix_tup (pv 4) pe_int (fun _ _ => rfl)) (pe_callTy call_tuple_of (by rfl) T.m_tuple (by decide +kernel) (pa_cons (pe_lc (own := [("_law_k", 5)]) (by rfl) sc_law.nd (pi_range1 (by rfl) T.m_range (pa_cons (pe_op op_mul pe_int (pv 2)) pa_nil)) (blkOk_by (own := [("_law_k", 5)]) (N := ["_law_script", "_law_deck_here", "_law_more", "_law_many_here", "_law_cover_here", "_law_k", "_law_thing", "_law_size", "_law_kept", "_law_found", "_law_deep"]) (sc := defScope s_law) (by decide +kernel)) (fun _ _ _ _ _ => (pg_name (i := 5) sc_law.nd rfl (by first | exact .inl rfl | exact .inr rfl))) (fun _ _ _ _ _ => pts_nil) (fun _ _ _ _ _ => (pe_call (ok_product T) (hr.mono (by decide)) (by rfl) T.g_product T.F_product.kp T.b_product .nil pass0 (pa_cons (pv 1) (pa_cons (pv 3) pa_nil))))) pa_nil))) pa_nil)))) (pss_cons (ps_if (pt_cmpR op_isnot_bl (pe_call (ok_is_cover T B) (hr.mono (by decide)) (by rfl) T.g_is_cover T.F_is_cover.kp T.b_is_cover .nil pass0 (pa_cons (pv 4) pa_nil)) pe_bl (nomark _)) (pss_one (ps_ret pe_bl)) pss_nil) (pss_cons (ps_for PassesOwn.never rfl (pi_range1 (by rfl) T.m_range (pa_cons pe_int pa_nil)) (pg_name (i := 5) sc_law.nd rfl (by first | exact .inl rfl | exact .inr rfl)) (pss_one (ps_if (pt_not (pt_val (pe_callG (ok_right T B) nothing (hr.mono (by decide)) (by rfl) T.g_right T.F_right.kp T.b_right .nil pass0 (pa_cons (pe_call (ok_otherwise T) (hr.mono (by decide)) (by rfl) T.g_otherwise T.F_otherwise.kp T.b_otherwise .nil pass0 (pa_cons (pv 1) (pa_cons (pv 4) pa_nil))) pa_nil)))) (pss_one (ps_ret pe_bl)) pss_nil))) (pss_cons (ps_for PassesOwn.never rfl (pi_list (pe_op op_cat (pe_callTy NumZ.call_listN (by rfl) T.m_list (by decide +kernel) (pa_cons (pe_ix ix_tup (pv 4) pe_int (fun _ _ => rfl)) pa_nil)) (pe_lc (own := [("_law_k", 5)]) (by rfl) sc_law.nd (pi_range1 (by rfl) T.m_range (pa_cons pe_int pa_nil)) (blkOk_by (own := [("_law_k", 5)]) (N := ["_law_script", "_law_deck_here", "_law_more", "_law_many_here", "_law_cover_here", "_law_k", "_law_thing", "_law_size", "_law_kept", "_law_found", "_law_deep"]) (sc := defScope s_law) (by decide +kernel)) (fun _ _ _ _ _ => (pg_name (i := 5) sc_law.nd rfl (by first | exact .inl rfl | exact .inr rfl))) (fun _ _ _ _ _ => pts_nil) (fun _ _ _ _ _ => (pe_call (ok_odd_product T) (hr.mono (by decide)) (by rfl) T.g_odd_product T.F_odd_product.kp T.b_odd_product .nil pass0 (pa_cons (pv 1) (pa_cons (pe_call (ok_product T) (hr.mono (by decide)) (by rfl) T.g_product T.F_product.kp T.b_product .nil pass0 (pa_cons (pv 1) (pa_cons (pv 3) pa_nil))) pa_nil))))))) (pg_name (i := 6) sc_law.nd rfl (by first | exact .inl rfl | exact .inr rfl)) (pss_one (ps_for PassesOwn.never rfl (pi_list (pe_lc (own := [("_law_size", 7)]) (by rfl) sc_law.nd (pi_tup (pe_tup (pa_cons (pe_op op_sub (pv 3) pe_int) (pa_cons (pv 3) (pa_cons (pe_op op_add (pv 3) pe_int) pa_nil))))) (blkOk_by (own := [("_law_size", 7)]) (N := ["_law_script", "_law_deck_here", "_law_more", "_law_many_here", "_law_cover_here", "_law_k", "_law_thing", "_law_size", "_law_kept", "_law_found", "_law_deep"]) (sc := defScope s_law) (by decide +kernel)) (fun _ _ _ _ _ => (pg_name (i := 7) sc_law.nd rfl (by first | exact .inl rfl | exact .inr rfl))) (fun _ _ _ _ _ => (pts_one (pt_chain op_lt op_lt pe_int (pv 7) pe_int))) (fun _ _ _ _ _ => (pv 7)))) (pg_name (i := 7) sc_law.nd rfl (by first | exact .inl rfl | exact .inr rfl)) (pss_cons (ps_set (i := 8) sc_law.nd rfl (by first | exact .inl rfl | exact .inr rfl) (pe_callB (call_repr nothing hr.units) (by rfl) T.m_repr (by decide +kernel) (pa_cons (pv 6) pa_nil))) (pss_cons (ps_set (i := 9) sc_law.nd rfl (by first | exact .inl rfl | exact .inr rfl) (pe_call (ok_is_product T B) (hr.mono (by decide)) (by rfl) T.g_is_product T.F_is_product.kp T.b_is_product .nil pass0 (pa_cons (pv 7) (pa_cons (pv 6) pa_nil)))) (pss_one (ps_if (pw_or (pt_not (pt_val (pe_callB call_isi (by rfl) T.m_isinstance (by decide +kernel) (pa_cons (pv 9) (pa_cons (pe_bltn (v := .ty "bool") (u := .type "bool") (by rfl) T.m_bool (by decide +kernel) rfl) pa_nil))))) (pw_or (pt_cmpR op_ne (pv 9) (pe_call (ok_l_is_product T) (hr.mono (by decide)) (by rfl) T.g_l_is_product T.F_l_is_product.kp T.b_l_is_product .nil pass0 (pa_cons (pv 7) (pa_cons (pv 6) pa_nil))) (nomark _)) (pw_or1 (pt_cmpR op_ne (pe_callB (call_repr nothing hr.units) (by rfl) T.m_repr (by decide +kernel) (pa_cons (pv 6) pa_nil)) (pv 8) (nomark _))))).pt (pss_one (ps_ret pe_bl)) pss_nil))))))) (pss_cons (ps_set (i := 10) sc_law.nd rfl (by first | exact .inl rfl | exact .inr rfl) (pv 4)) (pss_cons (ps_for PassesOwn.never rfl (pi_range1 (by rfl) T.m_range (pa_cons pe_int pa_nil)) (pg_name (i := 5) sc_law.nd rfl (by first | exact .inl rfl | exact .inr rfl)) (pss_one (ps_set (i := 10) sc_law.nd rfl (by first | exact .inl rfl | exact .inr rfl) (pe_ix ix_list (pe_lst (pa_cons (pe_tup (pa_cons (pv 10) pa_nil)) (pa_cons (pe_lstN (pa_cons (pv 10) pa_nil)) (pa_cons (pe_tup (pa_cons pe_int (pa_cons (pv 10) pa_nil))) (pa_cons (pe_tup (pa_cons (pv 10) (pa_cons (pe_tup pa_nil) pa_nil))) pa_nil))))) (pe_call (ok_draw T) (hr.mono (by decide)) (by rfl) T.g_draw T.F_draw.kp T.b_draw .nil pass0 (pa_cons (pv 1) (pa_cons pe_int pa_nil))) (fun _ _ => rfl))))) (pss_one (ps_ret (pe_and (pe_callG (ok_right T B) nothing (hr.mono (by decide)) (by rfl) T.g_right T.F_right.kp T.b_right .nil pass0 (pa_cons (pv 10) pa_nil)) (pe_one (pe_cmpR op_is_bl (pe_call (ok_is_cover T B) (hr.mono (by decide)) (by rfl) T.g_is_cover T.F_is_cover.kp T.b_is_cover .nil pass0 (pa_cons (pv 4) pa_nil)) pe_bl (nomark _)))))))))))))))), ?_⟩
    refine ⟨.ref a, rfl, a, ns, rfl, hS, hlen, fun H1 d l s1 D1 => ?_⟩
    have t1 : Tabs H1 T.tabs := tabs.gr (Gr.of s1)
    refine ⟨.ref d, rfl, d, l, 8, _, rfl, D1, by omega, by decide, by decide, fun H2 v2 D2 fr2 _ _ => ⟨rfl, .inr ⟨_, rfl, ?_⟩⟩⟩
    generalize decide (V.int v2 = V.int 3) = more
    have t2 := t1.fr D1 fr2
    refine ⟨.ref d, rfl, d, l, _, rfl, D2, by omega, fun m H3 D3 fr3 m1 m6 => ?_⟩
    have t3 := t2.fr D2 fr3
    refine ⟨.ref d, rfl, .int (m : Nat), rfl, d, l, _, m, rfl, D3, by omega, m1, m6, fun c0 ps H4 D4 fr4 cat okp lps => ?_⟩
    have t4 := t3.fr D3 fr4
    obtain ⟨tp, hc, htp⟩ := cat
    refine ⟨.int (m : Nat), rfl, .ref c0, rfl, c0, _, 1, .ref tp, rfl, rfl, SqT.of hc, rfl, ?_⟩
    obtain ⟨nm, hnm, hnm24⟩ : ∃ nm : Nat, ((24 : Int) * (if more = true then 1 else 0)) = (nm : Int) ∧ nm ≤ 24 := by
      cases more
      · exact ⟨0, rfl, by decide⟩
      · exact ⟨24, rfl, by decide⟩
    refine ⟨.int (if more = true then 1 else 0), rfl, _, _, rfl, rfl, (by cases more <;> exact .inl ⟨by decide, by decide⟩), (nm : Int), congrArg (fun z => [V.int z]) hnm, by omega, by omega, fun D nD => ?_⟩
    have oD := D4.off nD
    refine lc_range (lo := 0) (n := (nm : Int).toNat) (fun j H' => DeckD H' d l (311 + 8 * j) ∧ Tabs H' T.tabs ∧ H' tp = some (.tup (pVs ps)) ∧ ∃ qs, H' D = some (.lst (pVs qs)) ∧ qs.length = j ∧ CovOk m qs)
      ⟨(D4.mono (by omega)).same (same_upd nD), t4.gr (Gr.none nD), same_upd nD _ _ htp, [], upd_same, rfl, fun _ z => by cases z⟩ ?_ ?_
    · rintro j H5 hj ⟨D5, t5, htp5, qs, hD5, lq, okq⟩
      have hj' : j < nm := by simpa using hj
      refine ⟨rfl, .ref d, rfl, .int (m : Nat), rfl, d, l, _, m, rfl, D5, by omega, m1, m6, fun p H6 D6 fr6 okp6 => ?_⟩
      have hD6 := fr6 _ _ oD.1 oD.2 hD5
      have htp6 := Ts.frD D5 fr6 _ _ htp5
      refine ⟨pVs qs, hD6, ?_, (D6.upd oD.1 oD.2).mono (by push_cast; omega), (t5.fr D5 fr6).set hD6, by rw [upd_ne (ne_of htp6 hD6 (by intro z; cases z))]; exact htp6, qs ++ [p], ?_, by rw [List.length_append, lq]; rfl, fun z hz => ?_⟩
      · unfold pVs
        rw [List.length_map, lq]
        exact Nat.lt_of_lt_of_le (show j < 24 by omega) (by decide)
      · rw [upd_same]
        unfold pVs
        rw [List.map_append]
        rfl
      · rcases List.mem_append.mp hz with y | y
        · exact okq z y
        · rw [List.mem_singleton.mp y]
          exact okp6
    rintro H5 ⟨D5, t5, htp5, qs, hD5, lq, okq⟩
    have lq24 : qs.length ≤ 24 := by rw [lq]; simpa using hnm24
    refine ⟨D, _, rfl, .inl ⟨SqL.of hD5, fun t nt => ?_⟩⟩
    have s6 := same_upd (o := HO.tup (pVs qs)) nt
    have h6 : upd H5 t (.tup (pVs qs)) t = some _ := upd_same
    refine catA (s6 _ _ htp5) h6 ?_ fun t' H7 s7 h7 => ⟨sl2, fun c nc => ?_⟩
    · unfold pVs
      rw [List.length_map, List.length_map]
      exact Nat.le_trans (show ps.length + qs.length ≤ 40 by omega) (by decide)
    have s8 := same_upd (o := HO.tup [V.int (m : Nat), V.ref t']) nc
    have h8 : upd H7 c (.tup [V.int (m : Nat), V.ref t']) c = some (.tup [V.int (m : Nat), V.ref t']) := upd_same
    obtain ⟨H8, e8⟩ : ∃ H8, H8 = upd H7 c (.tup [V.int (m : Nat), V.ref t']) := ⟨_, rfl⟩
    show tSeq _ _ _ _ (upd H7 c (.tup [V.int (m : Nat), V.ref t']))
    rw [← e8] at s8 h8 ⊢
    clear e8
    have sA := (s6.trans s7).trans s8
    obtain ⟨PS, ePS, okP, lP⟩ : ∃ PS, pVs ps ++ pVs qs = pVs PS ∧ CovOk m PS ∧ PS.length ≤ 40 := ⟨ps ++ qs, by unfold pVs; rw [List.map_append], fun z hz => (List.mem_append.mp hz).elim (okp z) (okq z), by rw [List.length_append]; omega⟩
    rw [ePS] at h7
    have cat : CovAt H8 c m PS := ⟨t', h8, s8 _ _ h7⟩
    have D8 : DeckD H8 d l 520 := (D5.same sA).mono (by push_cast; omega)
    have t8 := t5.gr (Gr.of sA)
    clear h7 h8
    have wtC : (cD m PS).weight ≤ 50000 := Nat.le_trans (fit_cov okP m6 lP).2.1 (by decide)
    have icv := isCov_of okP m1 m6
    refine ⟨.ref c, rfl, .ref c, cD m PS, rfl, sh_cov cat, wtC, t8 _ (by simp [Tx.tabs]), t8 _ (by simp [Tx.tabs]), fun H9 g9 => ⟨_, _, rfl, rfl, _, rfl, ?_⟩⟩
    rw [icv]
    refine iteF ?_
    refine ⟨8, rfl, by decide, by decide, for_range (lo := 0) (n := (8 : Int).toNat) (fun i σ H' => ∃ y5 y6 y7 y8 y9 y10, σ = [some (.ref a), some (.ref d), some (.int (if more = true then 1 else 0)), some (.int (m : Nat)), some (.ref c), y5, y6, y7, y8, y9, y10] ∧ DeckD H' d l (520 + 8 * i) ∧ CovAt H' c m PS ∧ Tabs H' T.tabs)
      ⟨_, _, _, _, _, _, rfl, (D8.gr g9).mono (by omega), cat.gr g9, t8.gr g9⟩ ?_ ?_⟩
    · rintro i σ H10 hi ⟨y5, y6, y7, y8, y9, y10, rfl, D10, cat10, t10⟩
      have hi' : i < 8 := hi
      refine ⟨.ref d, rfl, .ref c, rfl, [d, l], d, l, _, c, m, PS, rfl, D10.da, by omega, cat10, okP, m1, m6, lP, fun v' H11 dd' D11 fr11 sh11 f11 => ?_⟩
      have t11 := t10.fr D10 fr11
      refine ⟨v', dd', _, _, _, rfl, sh11.same hid_le, f11, by decide, by decide, by decide, t11 _ (by simp [Tx.tabs]), t11 _ (by simp [Tx.tabs]), fun H12 g12 => ⟨_, rfl, iteF ?_⟩⟩
      exact ⟨_, _, _, _, _, _, rfl, (D11.d1.gr g12).mono (by push_cast; omega), (cat10.ts (Ts.frD D10 fr11)).gr g12, t11.gr g12⟩
    rintro σ H10 ⟨y5, y6, y7, y8, y9, y10, rfl, D10, ⟨t', hc', ht'⟩, t10⟩
    have lV : (pVs PS).length = PS.length := by unfold pVs; rw [List.length_map]
    refine ⟨.ref c, rfl, c, _, 1, .ref t', rfl, rfl, SqT.of hc', rfl, t', _, rfl, SqT.of ht', fun L nL mL => ?_⟩
    have s11 := same_upd (o := (HO.lst (pVs PS))) nL
    have hL : upd H10 L (HO.lst (pVs PS)) L = some (HO.lst (pVs PS)) := upd_same
    generalize upd H10 L (HO.lst (pVs PS)) = H11 at s11 hL ⊢
    have D11 := D10.same s11
    have oL := D10.off nL
    have t11 := t10.gr (Gr.of s11)
    have cat11 : CovAt H11 c m PS := ⟨t', s11 _ _ hc', s11 _ _ ht'⟩
    refine ⟨8, rfl, by decide, by decide, fun R nR => ?_⟩
    have oR := D11.off nR
    have nLR : L ≠ R := ne_of_none hL nR
    refine lc_range (lo := 0) (n := (8 : Int).toNat) (fun j H' => DA [d, l, R] H' d l (700 + 11 * j) ∧ H' L = some (.lst (pVs PS)) ∧ Tabs H' T.tabs ∧ CovAt H' c m PS ∧ ∃ acc es, H' R = some (.lst acc) ∧ ShAll (hid [d, l, R] H') acc es ∧ acc.length = j ∧ ∀ dd ∈ es, Fit (10 ^ 39) 200 2 dd)
      ⟨(D11.da.mono (by show (520 : Int) + 8 * ((8 : Int).toNat : Nat) ≤ 700 + 11 * (0 : Nat); decide)).add nR, same_upd nR _ _ hL, t11.gr (Gr.none nR), cat11.gr (Gr.none nR), [], [], upd_same, .nil, rfl, fun _ z => by cases z⟩ ?_ ?_
    · rintro j H12 hj ⟨D12, hL12, t12, cat12, acc, es, hR12, sha, la, fa⟩
      have hj' : j < 8 := hj
      refine ⟨rfl, .ref d, rfl, .ref d, rfl, .int (m : Nat), rfl, d, l, _, m, rfl, D12.d1, by omega, m1, m6, fun p H13 D13 fr13 okp13 => ?_⟩
      refine ⟨[d, l, R], d, l, _, m, p, rfl, D12.fr D13 fr13, by omega, okp13, m1, m6, fun v' H14 dd' D14 fr14 sh14 f14 => ?_⟩
      have fr := fr13.trans fr14
      have hR14 := fr _ _ oR.1 oR.2 hR12
      have hL14 := fr _ _ oL.1 oL.2 hL12
      have ts14 := Ts.frD D12.d1 fr
      have sh' : Same (hid [d, l, R] H12) (hid [d, l, R] H14) := hid_fr fr D12.hd D12.hl
      have cat14 := cat12.ts ts14
      have cat15 : CovAt (upd H14 R (.lst (acc ++ [v']))) c m PS := by
        obtain ⟨t0, c1, c2⟩ := cat14
        exact ⟨t0, by rw [upd_ne (ne_of c1 hR14 (by intro z; cases z))]; exact c1, by rw [upd_ne (ne_of c2 hR14 (by intro z; cases z))]; exact c2⟩
      refine ⟨acc, hR14, Nat.lt_of_lt_of_le (show acc.length < 64 by omega) (by decide), (D14.put oR.1 oR.2).mono (by push_cast; omega), by rw [upd_ne nLR]; exact hL14, (t12.fr D12.d1 fr).set hR14, cat15, acc ++ [v'], es ++ [dd'], upd_same, ((sha.same sh').same (hid_upd in3_R)).append (.cons (sh14.same (hid_upd in3_R)) .nil), by rw [List.length_append, la]; rfl, fun z hz => ?_⟩
      rcases List.mem_append.mp hz with h | h
      · exact fa z h
      · rw [List.mem_singleton.mp h]
        exact f14
    rintro H12 ⟨D12, hL12, t12, cat12, acc, es, hR12, sha, la, fa⟩
    have la8 : acc.length = 8 := la
    refine ⟨L, R, _, _, rfl, rfl, hL12, hR12, ?_, fun F nF => ?_⟩
    · rw [lV, la8]
      exact Nat.le_trans (show PS.length + 8 ≤ 48 by omega) (by decide)
    have s13 := same_upd (o := (HO.lst (pVs PS ++ acc))) nF
    have hF : upd H12 F (HO.lst (pVs PS ++ acc)) F = some (HO.lst (pVs PS ++ acc)) := upd_same
    generalize upd H12 F (HO.lst (pVs PS ++ acc)) = H13 at s13 hF ⊢
    have D13 : DeckD H13 d l 800 := (D12.d1.same s13).mono (by show (700 : Int) + 11 * ((8 : Int).toNat : Nat) ≤ 800; decide)
    have t13 := t12.gr (Gr.of s13)
    have cat13 := cat12.gr (Gr.of s13)
    have all : ShAll H13 (pVs PS ++ acc) (PS.map sD ++ es) := ((sh_strsV PS).append (sha.same hid_le)).same s13
    have fits : ∀ dd ∈ PS.map sD ++ es, Fit (10 ^ 39) 200 2 dd := fun dd h => by
      rcases List.mem_append.mp h with z | z
      · obtain ⟨p, hp, rfl⟩ := List.mem_map.mp z
        exact (fit_sD (okP p hp) m6).mono (Nat.le_refl _) (by decide) (by decide)
      · exact fa dd z
    generalize pVs PS ++ acc = xs at all hF ⊢
    generalize PS.map sD ++ es = ds at all fits
    refine ⟨F, rfl, ⟨_, SqL.of hF⟩, for_list (K := K) (a := F) (xs := xs) (fun j σ H' => ∃ y5 y6 y7 y8 y9, σ = [some (.ref a), some (.ref d), some (.int (if more = true then 1 else 0)), some (.int (m : Nat)), some (.ref c), y5, y6, y7, y8, y9, y10] ∧ Gr H13 H') ⟨_, _, _, _, _, rfl, Gr.refl⟩ (fun j σ H' _ ⟨_, _, _, _, _, _, g⟩ => SqL.of (g.lst hF)) ?_ ?_⟩
    · rintro j x σ H14 hx ⟨y5, y6, y7, y8, y9, rfl, g14⟩
      obtain ⟨dd, hdd, shx⟩ := all.get hx
      have fx := fits dd (List.mem_of_getElem? hdd)
      obtain ⟨f1, f2, f3⟩ := fx.fine (by decide) (by decide) (by decide)
      have wt : dd.weight ≤ 50000 := Nat.le_trans fx.2.1 (by decide)
      refine ⟨.int (m : Nat), rfl, _, _, rfl, rfl, .int (m : Nat), rfl, .int (m : Nat), rfl, _, _, rfl, rfl, sl3, fun t nt => ?_⟩
      have s15 := same_upd (o := (HO.tup [V.int ((m : Nat) - 1), V.int (m : Nat), V.int ((m : Nat) + 1)])) nt
      have ht : upd H14 t (HO.tup [V.int ((m : Nat) - 1), V.int (m : Nat), V.int ((m : Nat) + 1)]) t = some (HO.tup [V.int ((m : Nat) - 1), V.int (m : Nat), V.int ((m : Nat) + 1)]) := upd_same
      generalize upd H14 t (HO.tup [V.int ((m : Nat) - 1), V.int (m : Nat), V.int ((m : Nat) + 1)]) = H15 at s15 ht ⊢
      refine ⟨t, rfl, ⟨_, SqT.of ht⟩, fun S nS => ?_⟩
      refine lc_tup (K := K) (a := t) (xs := [V.int ((m : Nat) - 1), V.int (m : Nat), V.int ((m : Nat) + 1)]) (fun j H' => Same H15 H' ∧ ∃ zs : List Int, H' S = some (.lst (zs.map V.int)) ∧ zs.length ≤ j) ⟨same_upd nS, [], upd_same, Nat.le_refl _⟩ (fun i H' _ z => SqT.of (z.1 _ _ ht)) ?_ ?_
      · rintro i z H16 hz ⟨s16, zs, hS16, lz⟩
        have hi : i < 3 := (List.getElem?_eq_some_iff.mp hz).1
        obtain ⟨n, rfl⟩ : ∃ n : Int, z = .int n := by
          rcases i with _ | _ | _ | i
          · exact ⟨_, (Option.some.inj hz).symm⟩
          · exact ⟨_, (Option.some.inj hz).symm⟩
          · exact ⟨_, (Option.some.inj hz).symm⟩
          · omega
        have hl16 : zs.length < sizeLine := Nat.lt_of_lt_of_le (show zs.length < 8 by omega) (by decide)
        have next : ∀ H4, H16 = H4 → ∃ acc, H4 S = some (HO.lst acc) ∧ acc.length < sizeLine ∧ (Same H15 (upd H4 S (.lst (acc ++ [V.int n]))) ∧ ∃ zs : List Int, upd H4 S (.lst (acc ++ [V.int n])) S = some (.lst (zs.map V.int)) ∧ zs.length ≤ i + 1) := by
          rintro _ rfl
          refine ⟨zs.map V.int, hS16, by rw [List.length_map]; exact hl16, fun b o e => by rw [upd_ne (ne_of_none e nS)]; exact s16 b o e, zs ++ [n], by rw [upd_same, List.map_append]; rfl, by rw [List.length_append]; exact Nat.succ_le_succ lz⟩
        have other : Same H15 H16 ∧ ∃ zs : List Int, H16 S = some (.lst (zs.map V.int)) ∧ zs.length ≤ i + 1 := ⟨s16, zs, hS16, Nat.le_succ_of_le lz⟩
        refine ⟨rfl, .int n, rfl, _, _, rfl, rfl, _, rfl, ite2 (fun _ => ⟨_, _, rfl, rfl, _, rfl, ite2 (fun _ => ⟨.int n, rfl, next _ rfl⟩) (fun _ => other)⟩) (fun _ => ⟨_, rfl, iteF other⟩)⟩
      · rintro H16 ⟨s16, zs, hS16, lz⟩
        have g16 : Gr H13 H16 := (g14.trans (Gr.of s15)).trans (Gr.of s16)
        refine ⟨S, rfl, ⟨_, SqL.of hS16⟩, for_list (K := K) (a := S) (xs := zs.map V.int) (fun k σ H' => ∃ y7 y8 y9, σ = [some (.ref a), some (.ref d), some (.int (if more = true then 1 else 0)), some (.int (m : Nat)), some (.ref c), y5, some x, y7, y8, y9, y10] ∧ Gr H16 H') ⟨_, _, _, rfl, Gr.refl⟩ (fun k σ H' _ ⟨_, _, _, _, g⟩ => SqL.of (g.lst hS16)) ?_ ?_⟩
        · rintro k z σ H17 hz ⟨y7, y8, y9, rfl, g17⟩
          obtain ⟨n, rfl⟩ : ∃ n : Int, z = .int n := by
            rw [List.getElem?_map] at hz
            obtain ⟨n, hn, e⟩ := Option.map_eq_some_iff.mp hz
            exact ⟨n, e.symm⟩
          have g0 := g16.trans g17
          have sh0 := shx.gr g0
          refine ⟨x, rfl, x, dd, rfl, sh0, f1, f2, f3, ?_⟩
          refine ⟨.int n, rfl, x, rfl, n, x, dd, rfl, sh0, wt, g0.2 _ (t13 _ (by simp [Tx.tabs])), fun H18 g18 => ?_⟩
          have sh1 := sh0.gr g18
          refine ⟨.bl (isProdD n dd), rfl, _, _, _, _, _, rfl, .ty _, (Sh.bl (H := H18) (isProdD n dd)).ty, kit_ty (kitBool (.bool (isProdD n dd))), _, rfl, iteF ?_⟩
          refine ⟨.bl (isProdD n dd), rfl, .int n, rfl, x, rfl, n, x, dd, 10 ^ 39, rfl, sh1, wt, fx.1, fun H19 s19 => ⟨rfl, _, rfl, ?_⟩⟩
          rw [decide_eq_true rfl]
          refine iteF ?_
          refine ⟨x, rfl, x, dd, rfl, sh1.same s19, f1, f2, f3, .str _, rfl, rfl, _, rfl, ?_⟩
          rw [decide_eq_true rfl]
          refine iteF ?_
          exact ⟨_, _, _, rfl, (g17.trans g18).trans (Gr.of s19)⟩
        · rintro σ H17 ⟨y7, y8, y9, rfl, g17⟩
          exact ⟨_, _, _, _, _, rfl, g16.trans g17⟩
    rintro σ H14 ⟨y5, y6, y7, y8, y9, rfl, g14⟩
    have D14 := D13.gr g14
    have cat14 := cat13.gr g14
    have t14 := t13.gr g14
    refine ⟨.ref c, rfl, 20, rfl, by decide, by decide, for_range (lo := 0) (n := (20 : Int).toNat) (fun i σ H' => ∃ y5 v dd, σ = [some (.ref a), some (.ref d), some (.int (if more = true then 1 else 0)), some (.int (m : Nat)), some (.ref c), y5, y6, y7, y8, y9, some v] ∧ DeckD H' d l (800 + i) ∧ CovAt H' c m PS ∧ Tabs H' T.tabs ∧ Sh (hid [d, l] H') v dd ∧ Fit (10 ^ 39) (300 + 10 * i) (2 + i) dd)
      ⟨_, .ref c, cD m PS, rfl, D14.mono (by omega), cat14, t14, ?_, fit_cov okP m6 lP⟩ ?_ ?_⟩
    · obtain ⟨t0, c1, c2⟩ := cat14
      exact sh_tup D14.da c1 (.cons (.int _) (.cons (sh_tup D14.da c2 (sh_strsV PS)) .nil))
    · rintro i σ H15 hi ⟨y5, v, dd, rfl, D15, cat15, t15, sh15, f15⟩
      have hi' : i < 20 := hi
      refine ⟨v, rfl, sl1, fun a1 n1 => ?_⟩
      have r1 := same_upd (o := (HO.tup [v])) n1
      have k1 : upd H15 a1 (HO.tup [v]) a1 = some (HO.tup [v]) := upd_same
      generalize upd H15 a1 (HO.tup [v]) = A1 at r1 k1 ⊢
      refine ⟨v, rfl, sl1, fun a2 n2 m2 => ?_⟩
      have r2 := same_upd (o := (HO.lst [v])) n2
      have k2 : upd A1 a2 (HO.lst [v]) a2 = some (HO.lst [v]) := upd_same
      generalize upd A1 a2 (HO.lst [v]) = A2 at r2 k2 ⊢
      refine ⟨v, rfl, sl2, fun a3 n3 => ?_⟩
      have r3 := same_upd (o := (HO.tup [V.int 1, v])) n3
      have k3 : upd A2 a3 (HO.tup [V.int 1, v]) a3 = some (HO.tup [V.int 1, v]) := upd_same
      generalize upd A2 a3 (HO.tup [V.int 1, v]) = A3 at r3 k3 ⊢
      refine ⟨v, rfl, Nat.zero_le _, fun e4 ne4 => ?_⟩
      have r4 := same_upd (o := (HO.tup [])) ne4
      have k4 : upd A3 e4 (HO.tup []) e4 = some (HO.tup []) := upd_same
      generalize upd A3 e4 (HO.tup []) = A4 at r4 k4 ⊢
      refine ⟨sl2, fun a5 n5 => ?_⟩
      have r5 := same_upd (o := (HO.tup [v, V.ref e4])) n5
      have k5 : upd A4 a5 (HO.tup [v, V.ref e4]) a5 = some (HO.tup [v, V.ref e4]) := upd_same
      generalize upd A4 a5 (HO.tup [v, V.ref e4]) = A5 at r5 k5 ⊢
      refine ⟨by show 4 ≤ sizeLine; decide, fun C nC => ?_⟩
      have r6 := same_upd (o := (HO.lst [V.ref a1, V.ref a2, V.ref a3, V.ref a5])) nC
      have k6 : upd A5 C (HO.lst [V.ref a1, V.ref a2, V.ref a3, V.ref a5]) C = some (HO.lst [V.ref a1, V.ref a2, V.ref a3, V.ref a5]) := upd_same
      generalize upd A5 C (HO.lst [V.ref a1, V.ref a2, V.ref a3, V.ref a5]) = A6 at r6 k6 ⊢
      have sA := ((((r1.trans r2).trans r3).trans r4).trans r5).trans r6
      have D16 := D15.same sA
      have o2 := (D15.same r1).da.out n2
      have oC := (D15.same ((((r1.trans r2).trans r3).trans r4).trans r5)).off nC
      refine ⟨.ref d, rfl, d, l, 4, _, rfl, D16, by omega, by decide, by decide, fun H17 u D17 fr u0 u1 => ?_⟩
      have ts := Ts.frD D16 fr
      have hh : Same (hid [d, l] A6) (hid [d, l] H17) := hid_fr fr in_d in_l
      have sv : Sh (hid [d, l] H17) v dd := (sh15.same (hid_same sA)).same hh
      have all4 : ShAll (hid [d, l] H17) [V.ref a1, V.ref a2, V.ref a3, V.ref a5] [.tuple [dd], .list [dd], .tuple [.int 1, dd], .tuple [dd, .tuple []]] := by
        refine .cons (sh_tup D17.da (ts _ _ (r6 _ _ (r5 _ _ (r4 _ _ (r3 _ _ (r2 _ _ k1)))))) (.cons sv .nil)) ?_
        refine .cons (.lst (hh _ _ (by rw [hid_at o2]; exact r6 _ _ (r5 _ _ (r4 _ _ (r3 _ _ k2))))) m2 (.cons sv .nil)) ?_
        refine .cons (sh_tup D17.da (ts _ _ (r6 _ _ (r5 _ _ (r4 _ _ k3)))) (.cons (.int _) (.cons sv .nil))) ?_
        exact .cons (sh_tup D17.da (ts _ _ (r6 _ _ k5)) (.cons sv (.cons (sh_tup D17.da (ts _ _ (r6 _ _ (r5 _ _ k4))) .nil) .nil))) .nil
      have fits4 : ∀ z ∈ ([.tuple [dd], .list [dd], .tuple [.int 1, dd], .tuple [dd, .tuple []]] : List PyData), Fit (10 ^ 39) (300 + 10 * (i + 1)) (2 + (i + 1)) z := by
        intro z hz
        have f1' : Fit (10 ^ 39) 3 (2 + i) (.int 1) := fit_int6 (m := 1) (by decide)
        have fn : Fit (10 ^ 39) 2 (2 + i) (.tuple []) := ⟨rfl, by decide, by show 1 ≤ 2 + i; omega⟩
        simp only [List.mem_cons, List.not_mem_nil, or_false] at hz
        rcases hz with rfl | rfl | rfl | rfl
        · exact (Fit.tup (FitL.one f15)).mono (Nat.le_refl _) (by omega) (Nat.le_refl _)
        · exact (Fit.lst (FitL.one f15)).mono (Nat.le_refl _) (by omega) (Nat.le_refl _)
        · exact (fit_two f1' f15).mono (Nat.le_refl _) (by omega) (Nat.le_refl _)
        · exact (fit_two f15 fn).mono (Nat.le_refl _) (by omega) (Nat.le_refl _)
      obtain ⟨x, dx, hx, sx, fx⟩ := pick_sh all4 fits4 u0 u1
      refine ⟨C, _, u, x, rfl, rfl, SqL.of (fr _ _ oC.1 oC.2 k6), hx, ?_⟩
      exact ⟨_, x, dx, rfl, D17.mono (by push_cast; omega), (cat15.gr (Gr.of sA)).ts ts, (t15.gr (Gr.of sA)).fr D16 fr, sx, fx⟩
    rintro σ H15 ⟨y5, v, dd, rfl, D15, cat15, t15, sh15, f15⟩
    refine ⟨v, rfl, v, dd, _, _, _, rfl, sh15.same hid_le, f15, by decide, by decide, by decide, t15 _ (by simp [Tx.tabs]), t15 _ (by simp [Tx.tabs]), fun H16 g16 => ⟨_, rfl, iteT ?_⟩⟩
    refine ⟨.ref c, rfl, .ref c, cD m PS, rfl, sh_cov (cat15.gr g16), wtC, (t15.gr g16) _ (by simp [Tx.tabs]), (t15.gr g16) _ (by simp [Tx.tabs]), fun H17 g17 => ⟨_, _, rfl, rfl, ?_⟩⟩
    rw [icv]
    exact q H17

end
def d_is_whole : He.DefD := ⟨("is_whole", none), "is_whole", "is_whole", defArgs s_is_whole, defBody s_is_whole, defScope s_is_whole, [], []⟩
def d_is_product : He.DefD := ⟨("is_product", none), "is_product", "is_product", defArgs s_is_product, defBody s_is_product, defScope s_is_product, [], []⟩
def d_is_cover : He.DefD := ⟨("is_cover", none), "is_cover", "is_cover", defArgs s_is_cover, defBody s_is_cover, defScope s_is_cover, [], []⟩
def d_deck : He.DefD := ⟨("_law_deck", none), "_law_deck", "_law_deck", defArgs s_deck, defBody s_deck, defScope s_deck, [], []⟩
def d_draw : He.DefD := ⟨("_law_draw", none), "_law_draw", "_law_draw", defArgs s_draw, defBody s_draw, defScope s_draw, [], []⟩
def d_many : He.DefD := ⟨("_law_many", none), "_law_many", "_law_many", defArgs s_many, defBody s_many, defScope s_many, [], []⟩
def d_row : He.DefD := ⟨("_law_row", none), "_law_row", "_law_row", defArgs s_row, defBody s_row, defScope s_row, [], []⟩
def d_change : He.DefD := ⟨("_law_change", none), "_law_change", "_law_change", defArgs s_change, defBody s_change, defScope s_change, [], []⟩
def d_product : He.DefD := ⟨("_law_product", none), "_law_product", "_law_product", defArgs s_product, defBody s_product, defScope s_product, [], []⟩
def d_cover : He.DefD := ⟨("_law_cover", none), "_law_cover", "_law_cover", defArgs s_cover, defBody s_cover, defScope s_cover, [], []⟩
def d_l_is_product : He.DefD := ⟨("_law_is_product", none), "_law_is_product", "_law_is_product", defArgs s_l_is_product, defBody s_l_is_product, defScope s_l_is_product, [], []⟩
def d_l_is_cover : He.DefD := ⟨("_law_is_cover", none), "_law_is_cover", "_law_is_cover", defArgs s_l_is_cover, defBody s_l_is_cover, defScope s_l_is_cover, [], []⟩
def d_odd_product : He.DefD := ⟨("_law_odd_product", none), "_law_odd_product", "_law_odd_product", defArgs s_odd_product, defBody s_odd_product, defScope s_odd_product, [], []⟩
def d_otherwise : He.DefD := ⟨("_law_otherwise", none), "_law_otherwise", "_law_otherwise", defArgs s_otherwise, defBody s_otherwise, defScope s_otherwise, [], []⟩
def d_right : He.DefD := ⟨("_law_right", none), "_law_right", "_law_right", defArgs s_right, defBody s_right, defScope s_right, [], []⟩
def d_law : He.DefD := ⟨("law", none), "law", "law", defArgs s_law, defBody s_law, defScope s_law, [], []⟩
def fn : List He.DefD := [d_is_whole, d_is_product, d_is_cover, d_deck, d_draw, d_many, d_row, d_change, d_product, d_cover, d_l_is_product, d_l_is_cover, d_odd_product, d_otherwise, d_right, d_law]
def fa : List He.Fa := [.glo "is_whole", .glo "is_product", .glo "is_cover", .glo "_law_deck", .glo "_law_draw", .glo "_law_many", .glo "_law_row", .glo "_law_change", .glo "_law_product", .glo "_law_cover", .glo "_law_is_product", .glo "_law_is_cover", .glo "_law_odd_product", .glo "_law_otherwise", .glo "_law_right", .glo "law", .free "all", .free "bool", .free "int", .free "isinstance", .free "len", .free "list", .free "range", .free "repr", .free "str", .free "sum", .free "tuple", .int "MOST_INPUTS" 6]
def tf : List He.Defn := [("is_product", none), ("is_cover", none)]
abbrev RR : PySem.W.OpenRow := PySem.W.OpenLaw.row PySem.Challenge.rw_glitchnet_k36_what_is_a_cover
def yes : PySem.W.Frag → Bool := fun _ => true
abbrev hk : PySem.W.Hook := He.hookX 4 fa fn [] tf yes
def ob (s : PySem.W.SharedT) : He.AlX := He.obsX 4 fa fn [] tf yes (HandSHeadRun.getT s)
theorem ob_eq (s : PySem.W.SharedT) : ob s = hk.obs s.abs := He.obsX_eq (HandSHeadRun.getT_eq s)
theorem run (w : World) : HandSHeadRun.RunEq RR (PySem.W.view RR.prog [20]) hk ob 3000 [("is_whole" : PySem.Str), ("MOST_INPUTS" : PySem.Str), ("is_product" : PySem.Str), ("is_cover" : PySem.Str), ("_law_deck" : PySem.Str), ("_law_draw" : PySem.Str), ("_law_many" : PySem.Str), ("_law_row" : PySem.Str), ("_law_change" : PySem.Str), ("_law_product" : PySem.Str), ("_law_cover" : PySem.Str), ("_law_is_product" : PySem.Str), ("_law_is_cover" : PySem.Str), ("_law_odd_product" : PySem.Str), ("_law_otherwise" : PySem.Str), ("_law_right" : PySem.Str)] w := by
  intro os
  kernel_rfl
theorem facts {w : World} {K : PySem.W.Frag} {h : Heap} {mg : Str → Option Value} {f : Addr} (X : K.In h) (G : h.Ns mainGlobals mg) (hfa : mg ("law" : Str) = some (.ref f)) (c : He.SaysX fa fn [] tf yes w h K) : LawAtG PySem.Challenge.rw_glitchnet_k36_what_is_a_cover w K CX0 6 63 "_law_script" mg f h := by
  obtain ⟨fd0, D0⟩ := c.t.d.def_ 0 (d := d_is_whole) rfl
  have F0 : Fun K "is_whole" "is_whole" s_is_whole (He.fAd K ("is_whole", none)) fd0 := fun_of D0
  have b0 := F0.binds (ps := ["thing"]) fun _ _ _ _ _ _ us hl => match us, hl with | [_], _ => rfl
  obtain ⟨fd1, D1⟩ := c.t.d.def_ 1 (d := d_is_product) rfl
  have F1 : Fun K "is_product" "is_product" s_is_product (He.fAd K ("is_product", none)) fd1 := fun_of D1
  have b1 := F1.binds (ps := ["many", "thing"]) fun _ _ _ _ _ _ us hl => match us, hl with | [_, _], _ => rfl
  obtain ⟨fd2, D2⟩ := c.t.d.def_ 2 (d := d_is_cover) rfl
  have F2 : Fun K "is_cover" "is_cover" s_is_cover (He.fAd K ("is_cover", none)) fd2 := fun_of D2
  have b2 := F2.binds (ps := ["thing"]) fun _ _ _ _ _ _ us hl => match us, hl with | [_], _ => rfl
  obtain ⟨fd3, D3⟩ := c.t.d.def_ 3 (d := d_deck) rfl
  have F3 : Fun K "_law_deck" "_law_deck" s_deck (He.fAd K ("_law_deck", none)) fd3 := fun_of D3
  have b3 := F3.binds (ps := ["_law_script"]) fun _ _ _ _ _ _ us hl => match us, hl with | [_], _ => rfl
  obtain ⟨fd4, D4⟩ := c.t.d.def_ 4 (d := d_draw) rfl
  have F4 : Fun K "_law_draw" "_law_draw" s_draw (He.fAd K ("_law_draw", none)) fd4 := fun_of D4
  have b4 := F4.binds (ps := ["_law_deck_here", "_law_most"]) fun _ _ _ _ _ _ us hl => match us, hl with | [_, _], _ => rfl
  obtain ⟨fd5, D5⟩ := c.t.d.def_ 5 (d := d_many) rfl
  have F5 : Fun K "_law_many" "_law_many" s_many (He.fAd K ("_law_many", none)) fd5 := fun_of D5
  have b5 := F5.binds (ps := ["_law_deck_here"]) fun _ _ _ _ _ _ us hl => match us, hl with | [_], _ => rfl
  obtain ⟨fd6, D6⟩ := c.t.d.def_ 6 (d := d_row) rfl
  have F6 : Fun K "_law_row" "_law_row" s_row (He.fAd K ("_law_row", none)) fd6 := fun_of D6
  have b6 := F6.binds (ps := ["_law_deck_here", "_law_many_here"]) fun _ _ _ _ _ _ us hl => match us, hl with | [_, _], _ => rfl
  obtain ⟨fd7, D7⟩ := c.t.d.def_ 7 (d := d_change) rfl
  have F7 : Fun K "_law_change" "_law_change" s_change (He.fAd K ("_law_change", none)) fd7 := fun_of D7
  have b7 := F7.binds (ps := ["_law_deck_here", "_law_many_here"]) fun _ _ _ _ _ _ us hl => match us, hl with | [_, _], _ => rfl
  obtain ⟨fd8, D8⟩ := c.t.d.def_ 8 (d := d_product) rfl
  have F8 : Fun K "_law_product" "_law_product" s_product (He.fAd K ("_law_product", none)) fd8 := fun_of D8
  have b8 := F8.binds (ps := ["_law_deck_here", "_law_many_here"]) fun _ _ _ _ _ _ us hl => match us, hl with | [_, _], _ => rfl
  obtain ⟨fd9, D9⟩ := c.t.d.def_ 9 (d := d_cover) rfl
  have F9 : Fun K "_law_cover" "_law_cover" s_cover (He.fAd K ("_law_cover", none)) fd9 := fun_of D9
  have b9 := F9.binds (ps := ["_law_deck_here", "_law_many_here"]) fun _ _ _ _ _ _ us hl => match us, hl with | [_, _], _ => rfl
  obtain ⟨fd10, D10⟩ := c.t.d.def_ 10 (d := d_l_is_product) rfl
  have F10 : Fun K "_law_is_product" "_law_is_product" s_l_is_product (He.fAd K ("_law_is_product", none)) fd10 := fun_of D10
  have b10 := F10.binds (ps := ["_law_many_here", "_law_thing"]) fun _ _ _ _ _ _ us hl => match us, hl with | [_, _], _ => rfl
  obtain ⟨fd11, D11⟩ := c.t.d.def_ 11 (d := d_l_is_cover) rfl
  have F11 : Fun K "_law_is_cover" "_law_is_cover" s_l_is_cover (He.fAd K ("_law_is_cover", none)) fd11 := fun_of D11
  have b11 := F11.binds (ps := ["_law_thing"]) fun _ _ _ _ _ _ us hl => match us, hl with | [_], _ => rfl
  obtain ⟨fd12, D12⟩ := c.t.d.def_ 12 (d := d_odd_product) rfl
  have F12 : Fun K "_law_odd_product" "_law_odd_product" s_odd_product (He.fAd K ("_law_odd_product", none)) fd12 := fun_of D12
  have b12 := F12.binds (ps := ["_law_deck_here", "_law_product_here"]) fun _ _ _ _ _ _ us hl => match us, hl with | [_, _], _ => rfl
  obtain ⟨fd13, D13⟩ := c.t.d.def_ 13 (d := d_otherwise) rfl
  have F13 : Fun K "_law_otherwise" "_law_otherwise" s_otherwise (He.fAd K ("_law_otherwise", none)) fd13 := fun_of D13
  have b13 := F13.binds (ps := ["_law_deck_here", "_law_cover_here"]) fun _ _ _ _ _ _ us hl => match us, hl with | [_, _], _ => rfl
  obtain ⟨fd14, D14⟩ := c.t.d.def_ 14 (d := d_right) rfl
  have F14 : Fun K "_law_right" "_law_right" s_right (He.fAd K ("_law_right", none)) fd14 := fun_of D14
  have b14 := F14.binds (ps := ["_law_thing"]) fun _ _ _ _ _ _ us hl => match us, hl with | [_], _ => rfl
  obtain ⟨fd15, D15⟩ := c.t.d.def_ 15 (d := d_law) rfl
  have F15 : Fun K "law" "law" s_law (He.fAd K ("law", none)) fd15 := fun_of D15
  have b15 := F15.binds (ps := ["_law_script"]) fun _ _ _ _ _ _ us hl => match us, hl with | [_], _ => rfl
  have e := hfa.symm.trans (He.glo_ok X G (c.t.d.fact 15 (f := .glo "law") rfl))
  cases e
  let T : Tx K mg := { f_is_whole := _, fd_is_whole := _, F_is_whole := F0, g_is_whole := He.glo_ok X G (c.t.d.fact 0 (f := .glo "is_whole") rfl), b_is_whole := b0, f_is_product := _, fd_is_product := _, F_is_product := F1, g_is_product := He.glo_ok X G (c.t.d.fact 1 (f := .glo "is_product") rfl), b_is_product := b1, c_is_product := (He.cT K ("is_product", none)).1, P_is_product := (He.cT K ("is_product", none)).2, cd_is_product := code_of F1, f_is_cover := _, fd_is_cover := _, F_is_cover := F2, g_is_cover := He.glo_ok X G (c.t.d.fact 2 (f := .glo "is_cover") rfl), b_is_cover := b2, c_is_cover := (He.cT K ("is_cover", none)).1, P_is_cover := (He.cT K ("is_cover", none)).2, cd_is_cover := code_of F2, f_deck := _, fd_deck := _, F_deck := F3, g_deck := He.glo_ok X G (c.t.d.fact 3 (f := .glo "_law_deck") rfl), b_deck := b3, f_draw := _, fd_draw := _, F_draw := F4, g_draw := He.glo_ok X G (c.t.d.fact 4 (f := .glo "_law_draw") rfl), b_draw := b4, f_many := _, fd_many := _, F_many := F5, g_many := He.glo_ok X G (c.t.d.fact 5 (f := .glo "_law_many") rfl), b_many := b5, f_row := _, fd_row := _, F_row := F6, g_row := He.glo_ok X G (c.t.d.fact 6 (f := .glo "_law_row") rfl), b_row := b6, f_change := _, fd_change := _, F_change := F7, g_change := He.glo_ok X G (c.t.d.fact 7 (f := .glo "_law_change") rfl), b_change := b7, f_product := _, fd_product := _, F_product := F8, g_product := He.glo_ok X G (c.t.d.fact 8 (f := .glo "_law_product") rfl), b_product := b8, f_cover := _, fd_cover := _, F_cover := F9, g_cover := He.glo_ok X G (c.t.d.fact 9 (f := .glo "_law_cover") rfl), b_cover := b9, f_l_is_product := _, fd_l_is_product := _, F_l_is_product := F10, g_l_is_product := He.glo_ok X G (c.t.d.fact 10 (f := .glo "_law_is_product") rfl), b_l_is_product := b10, f_l_is_cover := _, fd_l_is_cover := _, F_l_is_cover := F11, g_l_is_cover := He.glo_ok X G (c.t.d.fact 11 (f := .glo "_law_is_cover") rfl), b_l_is_cover := b11, f_odd_product := _, fd_odd_product := _, F_odd_product := F12, g_odd_product := He.glo_ok X G (c.t.d.fact 12 (f := .glo "_law_odd_product") rfl), b_odd_product := b12, f_otherwise := _, fd_otherwise := _, F_otherwise := F13, g_otherwise := He.glo_ok X G (c.t.d.fact 13 (f := .glo "_law_otherwise") rfl), b_otherwise := b13, f_right := _, fd_right := _, F_right := F14, g_right := He.glo_ok X G (c.t.d.fact 14 (f := .glo "_law_right") rfl), b_right := b14, f_law := _, fd_law := _, F_law := F15, g_law := He.glo_ok X G (c.t.d.fact 15 (f := .glo "law") rfl), b_law := b15, m_all := He.free_ok X G (c.t.d.fact 16 (f := .free "all") rfl), m_bool := He.free_ok X G (c.t.d.fact 17 (f := .free "bool") rfl), m_int := He.free_ok X G (c.t.d.fact 18 (f := .free "int") rfl), m_isinstance := He.free_ok X G (c.t.d.fact 19 (f := .free "isinstance") rfl), m_len := He.free_ok X G (c.t.d.fact 20 (f := .free "len") rfl), m_list := He.free_ok X G (c.t.d.fact 21 (f := .free "list") rfl), m_range := He.free_ok X G (c.t.d.fact 22 (f := .free "range") rfl), m_repr := He.free_ok X G (c.t.d.fact 23 (f := .free "repr") rfl), m_str := He.free_ok X G (c.t.d.fact 24 (f := .free "str") rfl), m_sum := He.free_ok X G (c.t.d.fact 25 (f := .free "sum") rfl), m_tuple := He.free_ok X G (c.t.d.fact 26 (f := .free "tuple") rfl), k_MOST_INPUTS := He.int_ok X G (c.t.d.fact 27 (f := .int "MOST_INPUTS" 6) rfl) }
  refine ⟨fd15, tf.map (He.cT K), sp_law K T.tabs, ?_, ?_, ?_, ?_, ?_, ?_⟩
  · rintro p hp
    obtain ⟨d, hd, rfl⟩ := List.mem_map.mp hp
    exact c.empty d hd
  · rintro p hp
    obtain ⟨d, hd, rfl⟩ := List.mem_map.mp hp
    exact c.out d hd
  · rintro p hp
    obtain ⟨d, hd, rfl⟩ := List.mem_map.mp hp
    exact PySem.W.codeHd_of_K X (c.hd d hd)
  · obtain ⟨oc, od, kV, doc, pm, an, cdv, ct, osl, rfl, lk, hcd⟩ := F15.ex
    exact fun s v => .of_eq rfl
  · intro H a ns hl hbits hT hS
    refine ⟨a, ns, rfl, hS, hl, fun P hP => ?_, fun _ => rfl⟩
    have hP : P ∈ (tf.map (He.cT K)).map (·.2) := hP
    obtain ⟨p, hp, rfl⟩ := List.mem_map.mp hP
    exact ⟨#[], hT p hp, by trivial⟩
  · intro base KB GB hTB
    have B : Tb base T := ⟨tab_of (hTB (He.cT K ("is_product", none)) (List.mem_map.mpr ⟨_, (show (("is_product", none) : He.Defn) ∈ tf by decide), rfl⟩)), tab_of (hTB (He.cT K ("is_cover", none)) (List.mem_map.mpr ⟨_, (show (("is_cover", none) : He.Defn) ∈ tf by decide), rfl⟩))⟩
    exact ok_law T B
end Gk
open PySem PySem.W PyProof.Rows
set_option maxRecDepth 100000 in
set_option maxHeartbeats 0 in
theorem PySem.Challenge.cw_glitchnet_k36_what_is_a_cover_holds : PySem.Challenge.rw_glitchnet_k36_what_is_a_cover.Holds := by
  w_on; o_law
  refine HandSHeadRun.head_any (r := OpenLaw.row PySem.Challenge.rw_glitchnet_k36_what_is_a_cover) (q := view (OpenLaw.row PySem.Challenge.rw_glitchnet_k36_what_is_a_cover).prog [20]) (H := Gk.hk) (ob := Gk.ob) (M := 3000) (loose := [("is_whole" : PySem.Str), ("MOST_INPUTS" : PySem.Str), ("is_product" : PySem.Str), ("is_cover" : PySem.Str), ("_law_deck" : PySem.Str), ("_law_draw" : PySem.Str), ("_law_many" : PySem.Str), ("_law_row" : PySem.Str), ("_law_change" : PySem.Str), ("_law_product" : PySem.Str), ("_law_cover" : PySem.Str), ("_law_is_product" : PySem.Str), ("_law_is_cover" : PySem.Str), ("_law_odd_product" : PySem.Str), ("_law_otherwise" : PySem.Str), ("_law_right" : PySem.Str)]) (d := HandSHeadRun.topDef (OpenLaw.row PySem.Challenge.rw_glitchnet_k36_what_is_a_cover).prog 20) (kwd := []) Gk.ob_eq
    (by kernel_rfl) (fun s => by kernel_rfl) Gk.run (by kernel_rfl) (by kernel_rfl) (by kernel_rfl) (by rfl) (by first | assumption | decide +kernel) (by decide +kernel) ⟨rfl, rfl, rfl, rfl, rfl, by decide +kernel⟩ ?hw ?hc
  case hw => w_witness2
  case hc =>
    refine Gk.walk_GT (l := PySem.Challenge.rw_glitchnet_k36_what_is_a_cover) (n := 63) (k := 6) (x := "_law_script") (CX := fun _ => L2.CX0) rfl (by decide) (by kernel_rfl) ⟨rfl, by decide, by decide⟩ ?F (fun _ _ _ _ _ z => z)
    intro w mg fa h Y G hmg0
    obtain ⟨K, KX, c⟩ := Y
    have hmg : mg ("law" : PySem.Str) = some (.ref fa) := by
      have e : (HandSHeadRun.topDef (OpenLaw.row PySem.Challenge.rw_glitchnet_k36_what_is_a_cover).prog 20).name = ("law" : PySem.Str) := by kernel_rfl
      rw [← e]
      exact hmg0
    exact ⟨K, KX, Gk.facts KX G hmg c⟩
