import PyProof.Rows.All
import Wide.All
import OpenK.AllK
import Wide.FinOn
import KE.GoesMore
import HandS.ForMost
import HandS.IsInst
import HandS.TupLe
import HandS.TupAny
import HandS.TupMul
import HandS.More
import HandS.Codes
import HandS.Conv
import HandS.Deep
import HandS.TupSets
import HandS.Style
import HandS.Strs
import HandS.AnyAll
import HandS.GenList
import HandS.JoinGen
import HandS.Zip
import HandS.Rev
import HandS.SetFor
import HandS.Wide
import HandS.WideBits
import HandS.FStr
import HandS.RevTup
import HandS.Head0
import HandS.Head1
import HandS.Head2
import HandS.HeadEnd
import HandS.HeadHook1
import HandS.HeadHook2
import HandS.HeadHook3
import HandS.HeadHook4
import HandS.HeadWalk
import HandS.Defaults
import HandS.ReplaceLit
import KE.KUnpackStar
import PyProof.ReprLen
import PyProof.ReprRoads
import PyProof.TupleOfStr
import PyProof.ListStr
import PySem.Challenge.RW_glitchnet_k65_what_are_bounds
set_option Elab.async false
set_option linter.all false
set_option maxRecDepth 100000
set_option maxHeartbeats 1000000
namespace Gk
open PySem PySem.Spec PyProof.Rows L2
/-! ### the text -/
def topS (i : Nat) : Stmt := PySem.Challenge.pw_glitchnet_k65_what_are_bounds.main.body.getD i (.Pass ⟨0, 0, 0, 0⟩)
abbrev s_is_whole : Stmt := topS 1
abbrev s_is_bounds : Stmt := topS 3
abbrev s_is_gate_bounds : Stmt := topS 4
abbrev s_is_bound : Stmt := topS 5
abbrev s_deck : Stmt := topS 7
abbrev s_draw : Stmt := topS 8
abbrev s_table : Stmt := topS 9
abbrev s_small : Stmt := topS 10
abbrev s_great : Stmt := topS 11
abbrev s_bounds : Stmt := topS 12
abbrev s_whole : Stmt := topS 13
abbrev s_due : Stmt := topS 14
abbrev s_pair_otherwise : Stmt := topS 15
abbrev s_otherwise : Stmt := topS 16
abbrev s_law : Stmt := topS 17
theorem sc_is_whole : FnScope ["thing"] ["thing"] (defScope s_is_whole) := ⟨rfl, rfl, rfl, by decide +kernel, rfl, by decide +kernel, by decide +kernel⟩
theorem sc_is_bounds : FnScope ["net", "thing", "many", "gates", "part", "table", "ins"] ["net", "thing"] (defScope s_is_bounds) := ⟨rfl, rfl, rfl, by decide +kernel, rfl, by decide +kernel, by decide +kernel⟩
theorem sc_is_gate_bounds : FnScope ["many", "ins", "thing", "wire", "pair"] ["many", "ins", "thing"] (defScope s_is_gate_bounds) := ⟨rfl, rfl, rfl, by decide +kernel, rfl, by decide +kernel, by decide +kernel⟩
theorem sc_is_bound : FnScope ["thing", "least", "most"] ["thing"] (defScope s_is_bound) := ⟨rfl, rfl, rfl, by decide +kernel, rfl, by decide +kernel, by decide +kernel⟩
theorem sc_deck : FnScope ["_law_script", "_law_cells", "_law_k", "_law_cell"] ["_law_script"] (defScope s_deck) := ⟨rfl, rfl, rfl, by decide +kernel, rfl, by decide +kernel, by decide +kernel⟩
theorem sc_draw : FnScope ["_law_deck_here", "_law_most", "_law_cell", "_law_number"] ["_law_deck_here", "_law_most"] (defScope s_draw) := ⟨rfl, rfl, rfl, by decide +kernel, rfl, by decide +kernel, by decide +kernel⟩
theorem sc_table : FnScope ["_law_deck_here", "_law_ins", "_law_way", "_law_some", "_law_k"] ["_law_deck_here", "_law_ins"] (defScope s_table) := ⟨rfl, rfl, rfl, by decide +kernel, rfl, by decide +kernel, by decide +kernel⟩
theorem sc_small : FnScope ["_law_deck_here", "_law_many", "_law_count", "_law_most", "_law_gates", "_law_free", "_law_left", "_law_k", "_law_ins", "_law_place", "_law_way"] ["_law_deck_here", "_law_many", "_law_count", "_law_most"] (defScope s_small) := ⟨rfl, rfl, rfl, by decide +kernel, rfl, by decide +kernel, by decide +kernel⟩
theorem sc_great : FnScope ["_law_deck_here", "_law_most", "_law_found", "_law_left", "_law_size"] ["_law_deck_here", "_law_most"] (defScope s_great) := ⟨rfl, rfl, rfl, by decide +kernel, rfl, by decide +kernel, by decide +kernel⟩
theorem sc_bounds : FnScope ["_law_deck_here", "_law_net", "_law_far", "_law_wide", "_law_most", "_law_found", "_law_table_here", "_law_ins", "_law_row", "_law_wire", "_law_more", "_law_least"] ["_law_deck_here", "_law_net", "_law_far", "_law_wide", "_law_most"] (defScope s_bounds) := ⟨rfl, rfl, rfl, by decide +kernel, rfl, by decide +kernel, by decide +kernel⟩
theorem sc_whole : FnScope ["_law_thing"] ["_law_thing"] (defScope s_whole) := ⟨rfl, rfl, rfl, by decide +kernel, rfl, by decide +kernel, by decide +kernel⟩
theorem sc_due : FnScope ["_law_net", "_law_thing", "_law_gate", "_law_row", "_law_wire", "_law_pair"] ["_law_net", "_law_thing"] (defScope s_due) := ⟨rfl, rfl, rfl, by decide +kernel, rfl, by decide +kernel, by decide +kernel⟩
theorem sc_pair_otherwise : FnScope ["_law_deck_here", "_law_pair", "_law_way", "_law_least", "_law_most", "_law_some"] ["_law_deck_here", "_law_pair"] (defScope s_pair_otherwise) := ⟨rfl, rfl, rfl, by decide +kernel, rfl, by decide +kernel, by decide +kernel⟩
theorem sc_otherwise : FnScope ["_law_deck_here", "_law_net", "_law_bounds_here", "_law_way", "_law_at", "_law_row", "_law_place", "_law_spoil", "_law_some"] ["_law_deck_here", "_law_net", "_law_bounds_here"] (defScope s_otherwise) := ⟨rfl, rfl, rfl, by decide +kernel, rfl, by decide +kernel, by decide +kernel⟩
theorem sc_law : FnScope ["_law_script", "_law_deck_here", "_law_turn", "_law_great_here", "_law_count", "_law_many", "_law_net", "_law_far", "_law_bounds_here", "_law_bend", "_law_thing", "_law_kept", "_law_found"] ["_law_script"] (defScope s_law) := ⟨rfl, rfl, rfl, by decide +kernel, rfl, by decide +kernel, by decide +kernel⟩
structure Tx (K : PySem.W.Frag) (mg : Str → Option Value) where
  f_is_whole : Addr
  fd_is_whole : FuncData
  F_is_whole : Fun K "is_whole" "is_whole" s_is_whole f_is_whole fd_is_whole
  g_is_whole : mg "is_whole" = some (.ref f_is_whole)
  b_is_whole : Binds K fd_is_whole ["thing"] []
  f_is_bounds : Addr
  fd_is_bounds : FuncData
  F_is_bounds : Fun K "is_bounds" "is_bounds" s_is_bounds f_is_bounds fd_is_bounds
  g_is_bounds : mg "is_bounds" = some (.ref f_is_bounds)
  b_is_bounds : Binds K fd_is_bounds ["net", "thing"] []
  c_is_bounds : Addr
  P_is_bounds : Addr
  cd_is_bounds : fd_is_bounds.code = .ref c_is_bounds
  f_is_gate_bounds : Addr
  fd_is_gate_bounds : FuncData
  F_is_gate_bounds : Fun K "is_gate_bounds" "is_gate_bounds" s_is_gate_bounds f_is_gate_bounds fd_is_gate_bounds
  g_is_gate_bounds : mg "is_gate_bounds" = some (.ref f_is_gate_bounds)
  b_is_gate_bounds : Binds K fd_is_gate_bounds ["many", "ins", "thing"] []
  c_is_gate_bounds : Addr
  P_is_gate_bounds : Addr
  cd_is_gate_bounds : fd_is_gate_bounds.code = .ref c_is_gate_bounds
  f_is_bound : Addr
  fd_is_bound : FuncData
  F_is_bound : Fun K "is_bound" "is_bound" s_is_bound f_is_bound fd_is_bound
  g_is_bound : mg "is_bound" = some (.ref f_is_bound)
  b_is_bound : Binds K fd_is_bound ["thing"] []
  f_deck : Addr
  fd_deck : FuncData
  F_deck : Fun K "_law_deck" "_law_deck" s_deck f_deck fd_deck
  g_deck : mg "_law_deck" = some (.ref f_deck)
  b_deck : Binds K fd_deck ["_law_script"] []
  f_draw : Addr
  fd_draw : FuncData
  F_draw : Fun K "_law_draw" "_law_draw" s_draw f_draw fd_draw
  g_draw : mg "_law_draw" = some (.ref f_draw)
  b_draw : Binds K fd_draw ["_law_deck_here", "_law_most"] []
  f_table : Addr
  fd_table : FuncData
  F_table : Fun K "_law_table" "_law_table" s_table f_table fd_table
  g_table : mg "_law_table" = some (.ref f_table)
  b_table : Binds K fd_table ["_law_deck_here", "_law_ins"] []
  f_small : Addr
  fd_small : FuncData
  F_small : Fun K "_law_small" "_law_small" s_small f_small fd_small
  g_small : mg "_law_small" = some (.ref f_small)
  b_small : Binds K fd_small ["_law_deck_here", "_law_many", "_law_count", "_law_most"] []
  f_great : Addr
  fd_great : FuncData
  F_great : Fun K "_law_great" "_law_great" s_great f_great fd_great
  g_great : mg "_law_great" = some (.ref f_great)
  b_great : Binds K fd_great ["_law_deck_here", "_law_most"] []
  f_bounds : Addr
  fd_bounds : FuncData
  F_bounds : Fun K "_law_bounds" "_law_bounds" s_bounds f_bounds fd_bounds
  g_bounds : mg "_law_bounds" = some (.ref f_bounds)
  b_bounds : Binds K fd_bounds ["_law_deck_here", "_law_net", "_law_far", "_law_wide", "_law_most"] []
  f_whole : Addr
  fd_whole : FuncData
  F_whole : Fun K "_law_whole" "_law_whole" s_whole f_whole fd_whole
  g_whole : mg "_law_whole" = some (.ref f_whole)
  b_whole : Binds K fd_whole ["_law_thing"] []
  f_due : Addr
  fd_due : FuncData
  F_due : Fun K "_law_due" "_law_due" s_due f_due fd_due
  g_due : mg "_law_due" = some (.ref f_due)
  b_due : Binds K fd_due ["_law_net", "_law_thing"] []
  f_pair_otherwise : Addr
  fd_pair_otherwise : FuncData
  F_pair_otherwise : Fun K "_law_pair_otherwise" "_law_pair_otherwise" s_pair_otherwise f_pair_otherwise fd_pair_otherwise
  g_pair_otherwise : mg "_law_pair_otherwise" = some (.ref f_pair_otherwise)
  b_pair_otherwise : Binds K fd_pair_otherwise ["_law_deck_here", "_law_pair"] []
  f_otherwise : Addr
  fd_otherwise : FuncData
  F_otherwise : Fun K "_law_otherwise" "_law_otherwise" s_otherwise f_otherwise fd_otherwise
  g_otherwise : mg "_law_otherwise" = some (.ref f_otherwise)
  b_otherwise : Binds K fd_otherwise ["_law_deck_here", "_law_net", "_law_bounds_here"] []
  f_law : Addr
  fd_law : FuncData
  F_law : Fun K "law" "law" s_law f_law fd_law
  g_law : mg "law" = some (.ref f_law)
  b_law : Binds K fd_law ["_law_script"] []
  m_all : mg "all" = none
  m_bool : mg "bool" = none
  m_enumerate : mg "enumerate" = none
  m_int : mg "int" = none
  m_isinstance : mg "isinstance" = none
  m_len : mg "len" = none
  m_list : mg "list" = none
  m_min : mg "min" = none
  m_range : mg "range" = none
  m_repr : mg "repr" = none
  m_str : mg "str" = none
  m_sum : mg "sum" = none
  m_tuple : mg "tuple" = none
  m_zip : mg "zip" = none
structure Tb (base : Heap) {K : PySem.W.Frag} {mg : Str → Option Value} (T : Tx K mg) : Prop where
  TB_is_bounds : GxR.TabB base mg T.c_is_bounds T.P_is_bounds
  TB_is_gate_bounds : GxR.TabB base mg T.c_is_gate_bounds T.P_is_gate_bounds
def Tx.tabs {K : PySem.W.Frag} {mg : Str → Option Value} (T : Tx K mg) : List Addr := [T.P_is_bounds, T.P_is_gate_bounds]
/-! ### generator expressions whose elements may call -/
theorem inv_moved {X : Cx} {cp : List (Addr × Obj)} {σ : L2.St} {H : Hp} {s s' : Shared} (I : Inv X cp σ H s) (os : s'.os = s.os) (bare : AllBare s'.gens) (k : ∀ b o, s.heap.get? b = some o → s'.heap.get? b = some o) : Inv X cp σ H s' :=
  I.call' (ch := []) os (Un.kept k) (I.hok.kept k) bare fun b hb => absurd hb (by simp)
/-- the context of a generator expression's frame: C its frame, s, H the entry, fp its iterator's objects -/
abbrev gblk (X : Cx) (A : Around) (s : Shared) (H : Hp) (cenv : Env) (fp : List Addr) : Cx :=
  { X with A := A, s_0 := s, H_0 := H, env := cenv, outer := X.stack, stack := cenv :: X.stack, ex := fp, fn := fun _ => false, pn := [], xe := fun _ _ => False }
section
variable {X : Cx} {pins : List (Addr × Obj)} {σ : L2.St} {H : Hp} {s : Shared}
theorem gen_start {scope : Scope} {own : List (Str × Nat)} {fp : List Addr} {A : Around} {code it : Value} {s5 : Shared} {cp : List (Addr × Obj)}
    (I : Inv X pins σ H s) (ok : BlkOk X.N X.env.scope scope own) (nocell : ∀ y ∈ scope.names, y.2 ≠ .cell) (hN : X.N.Nodup) (hfp : ∀ b ∈ fp, FpOk X pins H b ∧ b < s.heap.objs.size)
    (hh : A.handled = none) (hfr : A.frames = some (genEnv scope (cloFrom X.env.cells scope.names []) s.heap.objs.size code builtinsNs X.env :: X.stack))
    (os : s5.os = s.os) (bare : AllBare s5.gens) (kp : ∀ b o, s.heap.get? b = some o → s5.heap.get? b = some o)
    (hns : s5.heap.Ns s.heap.objs.size fun y => if y = ".0" then some it else none)
    (hcp : ∀ p ∈ cp, s.heap.objs.size < p.1 ∧ s5.heap.get? p.1 = some p.2 ∧ ∀ v, p.2.data ≠ .cell v) :
    Inv (gblk X A s H (genEnv scope (cloFrom X.env.cells scope.names []) s.heap.objs.size code builtinsNs X.env) fp) cp (wipe σ (own.map (·.2))) H s5 := by
  have hfree : ∀ y ∈ scope.names, y.2 = .free → ∃ c, X.env.cells.lookup y.1 = some c := fun y hy e => by
    rcases ok.free y hy e with k | k
    · exact I.ok.has _ (.inl k)
    · exact I.ok.has _ (.inr k)
  generalize hcenv : genEnv scope (cloFrom X.env.cells scope.names []) s.heap.objs.size code builtinsNs X.env = cenv at hfr ⊢
  have hL : cenv.locals = s.heap.objs.size := by rw [← hcenv]; rfl
  have hcl : cenv.cells = cloFrom X.env.cells scope.names [] := by rw [← hcenv]; rfl
  have hsc : cenv.scope = scope := by rw [← hcenv]; rfl
  have cm : ∀ {y c}, (y, c) ∈ cloFrom X.env.cells scope.names [] → X.env.cells.lookup y = some c ∧ c < s.heap.objs.size := fun {y c} hm => by
    rcases cloFrom_mem hm with hm | ⟨h1, rfl⟩
    · cases hm
    · obtain ⟨c, hc⟩ := hfree _ h1 rfl
      rw [hc]
      obtain ⟨w, z⟩ := I.cell _ _ hc
      exact ⟨rfl, z.lt⟩
  have mem : ∀ {y c}, cenv.cells.lookup y = some c → X.env.cells.lookup y = some c ∧ c < s.heap.objs.size := fun {y c} e => by
    rw [hcl] at e
    exact cm (PySem.mem_of_lookup e)
  have look : ∀ {y}, scope.names.lookup y = some .free → ∃ c, cenv.cells.lookup y = some c ∧ X.env.cells.lookup y = some c := fun {y} hl => by
    have hy : (y, NameKind.free) ∈ scope.names := PySem.mem_of_lookup hl
    obtain ⟨c', e'⟩ := mem_lookup (cloFrom_has (cells := X.env.cells) (acc := []) hy)
    rw [← hcl] at e'
    exact ⟨c', e', (mem e').1⟩
  have okB : (gblk X A s H cenv fp).Ok := by
    refine ⟨I.ok.mod, by show cenv.scope.kind = _; rw [hsc]; exact ok.kind, by show cenv.globals = _; rw [← hcenv]; exact I.ok.glob, by show cenv.builtins = _; rw [← hcenv]; rfl, by show s.heap.objs.size ≤ cenv.locals; rw [hL]; exact Nat.le_refl _,
      fun y z c e1 e2 => I.ok.inj y z c (mem e1).1 (mem e2).1, fun y hy => ?_, fun y c z e => (by cases z), fun _ => hh, hfr, .inr ⟨rfl, by show cenv.frame = some cenv.locals; rw [← hcenv]; rfl⟩, fun b hb => ⟨?_, fun y c e z => ?_⟩, I.bs, Nat.le_trans I.ok.bsz I.sz, fun b o e hb => ?_, fun b hb z => ?_, I.stack, I.stkFree⟩
    · have hy' : scope.names.lookup y = some .cell ∨ scope.names.lookup y = some .free := by
        rw [← hsc]
        exact hy
      rcases hy' with e | e
      · exact absurd rfl (nocell _ (PySem.mem_of_lookup e))
      · obtain ⟨c, h1, _⟩ := look e
        exact ⟨c, h1⟩
    · show b ≠ cenv.locals
      rw [hL]; exact Nat.ne_of_lt (hfp b hb).2
    · exact (hfp b hb).1.2.2.2.2.1 y c (mem e).1 z
    · rcases (hfp b hb).1.2.2.2.1 with z | z
      · exact I.ok.noex b o e z
      · exact absurd (Nat.lt_of_lt_of_le (Heap.lt_size e) (Nat.le_trans I.ok.bsz z)) (Nat.lt_irrefl _)
    · rcases List.mem_cons.mp (I.stkSub b z) with z | z
      · exact (hfp b hb).1.2.1 z
      · exact (hfp b hb).1.2.2.1 z
  refine ⟨okB, os, bare, Un.kept kp, ⟨_, (by show s5.heap.Ns cenv.locals _; rw [hL]; exact hns), fun i y av e1 e2 e3 => ?_⟩, fun y c e => ?_, ?_, fun y c e => I.freeC y c (mem e).1, fun p hp => ?_, I.hok.kept kp, by rw [wipe_length]; exact I.len⟩
  · obtain ⟨e2, hne⟩ := wipe_some e2
    have e3 : Vis scope y := by rw [← hsc]; exact e3
    have no : ∀ k, scope.names.lookup y = some k → ¬ (k = .local ∨ k = .cell) := fun k e hh => by
      rcases ok.own _ (PySem.mem_of_lookup e) hh with e' | e'
      · obtain ⟨p, hp, hpy⟩ := List.mem_map.mp e'
        have e3 := ok.ix p hp
        have : p.1 = y := hpy
        rw [this] at e3
        exact hne (List.mem_map.mpr ⟨p, hp, nodup_ix hN e3 e1⟩)
      · exact e' (List.mem_of_getElem? e1)
    have hfr2 : scope.names.lookup y = some .free := by
      rcases e3 with e | e | e
      · exact absurd (.inl rfl) (no _ e)
      · exact absurd (.inr rfl) (no _ e)
      · exact e
    obtain ⟨m, hn, hl⟩ := I.loc
    have hvis : Vis X.env.scope y := (ok.free _ (PySem.mem_of_lookup hfr2) rfl).elim (fun k => .inr (.inl k)) (fun k => .inr (.inr k))
    obtain ⟨w, r, q⟩ := hl i y av e1 e2 hvis
    refine ⟨w, r, .inr ⟨.inr (by show cenv.scope.names.lookup y = some .free; rw [hsc]; exact hfr2), ?_⟩⟩
    obtain ⟨c, h1, h2⟩ := look hfr2
    rcases q with ⟨k, _⟩ | ⟨_, c', e', z⟩
    · have k : X.env.scope.names.lookup y = some .local := k
      rcases ok.free _ (PySem.mem_of_lookup hfr2) rfl with k' | k' <;> rw [show X.env.scope.names.lookup y = _ from k'] at k <;> cases k
    · rw [h2] at e'; cases e'
      exact ⟨c, h1, z.keeps kp⟩
  · obtain ⟨w, z⟩ := I.cell y c (mem e).1
    exact ⟨w, z.keeps kp⟩
  · show H cenv.locals = none
    rw [hL]; exact I.hok.fresh (Nat.le_refl _)
  · have hp : p ∈ cp := by simpa using hp
    obtain ⟨h1, h2, h3⟩ := hcp p hp
    refine ⟨h2, I.hok.fresh (Nat.le_of_lt h1), by show p.1 ≠ cenv.locals; rw [hL]; exact Nat.ne_of_gt h1, fun z => ?_, h3⟩
    rcases List.mem_cons.mp (I.stkSub _ z) with z | z
    · exact absurd (Nat.lt_trans I.lt h1) (by rw [z]; exact Nat.lt_irrefl _)
    · exact I.nofs (Nat.le_of_lt h1) z
end
/-! ### the talk of a generator and who asks it -/
section
variable {α : Type}
/-- handed out: x; the asker's state a (laid down in the pins cp) goes to one with Nx -/
def YG (Xg : Cx) (fp : List Addr) (tn : Nat → Heap → Prop) (AC : α → List (Addr × Obj) → Prop) (Yd : α → V → Hp → (α → Hp → Prop) → Prop) : Protocol := fun _ s0 v s kap =>
  ∃ (a : α) (x : V) (σ : L2.St) (H : Hp) (i : Nat) (cp : List (Addr × Obj)) (Nx : α → Hp → Prop), RelV x v ∧ AC a cp ∧ (∀ p ∈ cp, s0.heap.get? p.1 = some p.2) ∧ Inv Xg cp σ H s ∧ tn i s.heap ∧ (∀ b ∈ fp, H b = none) ∧ Yd a x H Nx ∧
    ∀ a' cp' s', Nx a' H → AC a' cp' → Inv Xg cp' σ H s' → tn i s'.heap → kap (.send .none) s'
def RG (Xg : Cx) (AC : α → List (Addr × Obj) → Prop) (End : α → Hp → Prop) : GenEnd := fun _ s0 r s =>
  ((r = .ok (.ret .none) ∨ r = .ok .next) ∧ ∃ (a : α) (σ : L2.St) (H : Hp) (cp : List (Addr × Obj)), AC a cp ∧ (∀ p ∈ cp, s0.heap.get? p.1 = some p.2) ∧ Inv Xg cp σ H s ∧ End a H) ∨ ∃ e, r = .error e ∧ False
/-- a generator's turns -/
def tGx (J : It) (g : TG) (tt : TT) (te : TE) (σ0 : L2.St) (vs : List Nat) (End : α → Hp → Prop) (Yd : α → V → Hp → (α → Hp → Prop) → Prop) (W : Nat → Nat → α → Hp → Prop) : Prop :=
  ∀ i m a H, W i m a H → (J.stop i H ∧ End a H) ∨ (J.go i H ∧ ∃ Nx : α → Hp → Prop, (∀ a' H', Nx a' H' → ∃ m', m' < m ∧ W (i + 1) m' a' H') ∧
    ∀ x H', J.yld i H x H' → g x σ0 H' fun σ2 H2 => wipe σ2 vs = σ0 ∧ tt σ2 H2 fun b H3 => if b = true then te σ2 H3 fun y H4 => Yd a y H4 Nx else Nx a H3)
theorem wipe_wipe_some {σ σ2 : L2.St} {vs : List Nat} (h : wipe σ2 vs = σ) : ∀ (j : Nat) v, σ[j]? = some (some v) → σ2[j]? = some (some v) := fun j v e => by
  rw [← h] at e
  exact (wipe_some e).1
theorem seg_gx {X : Cx} {A A' : Around} {s_0 : Shared} {H_0 : Hp} {elt tg iter : Expr} {ifs : List Expr} {scope : Scope} {pos : Pos} {it : Addr} {fp : List Addr} {tn : Nat → Heap → Prop} {J : It} {cenv : Env} {g : TG} {tt : TT} {te : TE} {σ0 : L2.St} {vs : List Nat}
    {AC : α → List (Addr × Obj) → Prop} {End : α → Hp → Prop} {Yd : α → V → Hp → (α → Hp → Prop) → Prop} {W : Nat → Nat → α → Hp → Prop}
    (hA : A.over (.compLoop (.GeneratorExp elt [⟨tg, iter, ifs, 0⟩] scope pos) 0 (.ref it) .none cenv) [] = A') (hc : X.calm = true) (hco : cenv.scope.isCoroutine = false)
    (T : Turn X.prog X.w X.K tg J fp it tn) (pg : PG (gblk X A' s_0 H_0 cenv fp) tg g) (pt : PTs (gblk X A' s_0 H_0 cenv fp) ifs tt) (pe : PE (gblk X A' s_0 H_0 cenv fp) elt te)
    (hAC : ∀ a cp, AC a cp → ∀ p ∈ cp, ∀ b ∈ fp, p.1 ≠ b) (turn : tGx J g tt te σ0 vs End Yd W) :
    ∀ (m n i : Nat) (a : α) (H : Hp) (s₀ s : Shared) (cp : List (Addr × Obj)), m < n → W i m a H → AC a cp → (∀ p ∈ cp, s₀.heap.get? p.1 = some p.2) → Inv (gblk X A' s_0 H_0 cenv fp) cp σ0 H s → tn i s.heap → (∀ b ∈ fp, H b = none) →
      Seg (model X.prog X.w) A (RG (gblk X A' s_0 H_0 cenv fp) AC End) (YG (gblk X A' s_0 H_0 cenv fp) fp tn AC Yd) n s₀
        (.compLoop (.GeneratorExp elt [⟨tg, iter, ifs, 0⟩] scope pos) 0 (.ref it) .none cenv)
        ((model X.prog X.w).den (.compLoop (.GeneratorExp elt [⟨tg, iter, ifs, 0⟩] scope pos) 0 (.ref it) .none cenv)) [] s := by
  have stat : ∀ {a : α} {cp : List (Addr × Obj)} {σ' : L2.St} {H' : Hp} {s' : Shared}, AC a cp → Inv (gblk X A' s_0 H_0 cenv fp) cp σ' H' s' → (∀ b ∈ fp, H' b = none) → ∀ b ∈ fp, FpOk (gblk X A' s_0 H_0 cenv fp) cp H' b := fun {a cp σ' H' s'} hac I' hn b hb =>
    ⟨hn b hb, (I'.ok.exf b hb).1, I'.ok.exfs b hb, .inl hb, fun x c e => (I'.ok.exf b hb).2 x c e, fun p hp => hAC a cp hac p (by simpa using hp) b hb⟩
  intro m
  induction m using Nat.strongRecOn with
  | ind m ih =>
    intro n i a H s₀ s cp hmn w hac tie I st nf
    show Seg _ A _ _ _ s₀ _ ((compTurn (.GeneratorExp elt [⟨tg, iter, ifs, 0⟩] scope pos) 0 (.ref it) .none cenv).onRaise (leaving cenv)) [] s
    rw [compTurn_gen, Sem.onRaise_eq_wrap]
    refine seg_bind_wrap (wpAny_standAt ?_)
    rcases turn i m a H w with ⟨stop, hend⟩ | ⟨go, Nx, hNx, step⟩
    · refine seg_bind_wrap ?_
      rw [hA]
      refine thnF (T.done (gblk X A' s_0 H_0 cenv fp) rfl rfl rfl hc i cp s σ0 H (fun _ _ => False) I (stat hac I nf) st stop) fun r s1 ⟨hr, I1⟩ => ?_
      subst hr
      exact seg_end (.ok .next) (.inl ⟨.inr rfl, a, _, H, cp, hac, tie, I1, hend⟩)
    · refine seg_bind_wrap ?_
      rw [hA]
      refine thnF (T.item (gblk X A' s_0 H_0 cenv fp) rfl rfl rfl hc i cp s σ0 H (fun _ _ => False) I (stat hac I nf) st go) fun r s1 ⟨u, hr, h1⟩ => ?_
      subst hr
      refine seg_bind_wrap ?_
      rw [hA]
      refine thnF h1 fun _ s2 ⟨x, H2, I2, r2, y2, st2, n2⟩ => ?_
      have I2' := I2.pinned (stat hac I2 n2) (T.obj _ _ st2)
      refine seg_bind_wrap ?_
      rw [hA]
      refine thnF (pg.run _ s2 _ H2 x u _ I2' r2 (step x H2 y2)) fun _ s3 ⟨σ3, H3, I3, hw3, q3⟩ => ?_
      refine seg_bind_wrap ?_
      rw [hA]
      refine thnF (pt.run _ s3 σ3 H3 _ I3 q3) fun b s4 ⟨H4, I4, q4⟩ => ?_
      have hl : σ0.length = σ3.length := by rw [← hw3, wipe_length]
      have fin : ∀ {s' : Shared} {H' : Hp}, Inv (gblk X A' s_0 H_0 cenv fp) (cp ++ pinsAt fp s2.heap) σ3 H' s' → Inv (gblk X A' s_0 H_0 cenv fp) cp σ0 H' s' ∧ tn (i + 1) s'.heap ∧ ∀ b ∈ fp, H' b = none := fun {s' H'} I' => by
        have pin' : ∀ b ∈ fp, ∀ o, s2.heap.get? b = some o → s'.heap.get? b = some o ∧ H' b = none := fun b hb o e =>
          let z := I'.pin (b, o) (List.mem_append_right _ (List.mem_append_right _ (mem_pinsAt hb e)))
          ⟨z.1, z.2.1⟩
        refine ⟨(I'.unpinned (pins := cp)).weak hl (wipe_wipe_some hw3), T.keep _ _ _ st2 fun b hb o e => (pin' b hb o e).1, fun b hb => ?_⟩
        obtain ⟨o, e, _⟩ := T.obj _ _ st2 b hb
        exact (pin' b hb o e).2
      cases b with
      | false =>
        simp only [Bool.false_eq_true, if_false] at q4 ⊢
        obtain ⟨m', hm, w'⟩ := hNx a H4 q4
        obtain ⟨J1, J2, J3⟩ := fin I4
        exact seg_again rfl (ih m' hm n (i + 1) a H4 s₀ s4 cp (by omega) w' hac tie J1 J2 J3)
      | true =>
        simp only [if_true] at q4 ⊢
        have hy : ∀ v, yieldOut cenv v = yieldValue v := fun v => by simp only [yieldOut, hco, Bool.false_eq_true, if_false]
        simp only [hy]
        rw [Sem.bind_eq_wrap', Sem.bind_eq_wrap', Sem.wrap_wrap, Sem.wrap_wrap]
        refine seg_wrap ?_
        rw [hA]
        refine thnF (pe.run _ s4 σ3 H4 _ I4 q4) fun yv s5 ⟨y, H5, I5, r5, q5⟩ => ?_
        obtain ⟨J1, J2, J3⟩ := fin I5
        -- at least one more
        cases n with
        | zero => exact absurd hmn (Nat.not_lt_zero _)
        | succ n =>
          refine seg_at (seg_yield rfl rfl rfl ⟨a, y, σ0, H5, i + 1, cp, Nx, r5, hac, tie, J1, J2, J3, q5, fun a' cp' s' nx hac' I' st' => ?_⟩)
          obtain ⟨m', hm, w'⟩ := hNx a' H5 nx
          exact seg_again rfl (ih m' hm n (i + 1) a' H5 s' s' cp' (by omega) w' hac' (fun p hp => (I'.pin p (List.mem_append_right _ hp)).1) I' st' J3)
end
/-! ### a generator that is made -/
section
variable {X : Cx} {pins : List (Addr × Obj)} {σ : L2.St} {H : Hp} {s : Shared}
def GenObj (o : Obj) (g : Nat) : Prop := ∃ nm qn, o.cls = .type "generator" ∧ o.data = .fields #[.int g 0, nm, qn] ∧ o.slots = #[]
theorem GenObj.isGen {o : Obj} {g : Nat} (h : GenObj o g) {a : Addr} {hp : Heap} (e : hp.get? a = some o) : hp.IsGen a g := by
  obtain ⟨nm, qn, h1, h2, h3⟩ := h
  exact ⟨o, nm, qn, e, h1, h2, h3⟩
/-- the generator u, made and not begun, in the state s5 -/
def Gx (X : Cx) (pins : List (Addr × Obj)) (σ : L2.St) (A : Around) (J : It) (g : TG) (tt : TT) (te : TE) (vs : List Nat) (H4 : Hp) (u : Value) (s5 : Shared) : Prop :=
  ∃ (A' : Around) (s_0 : Shared) (H_0 : Hp) (cenv : Env) (fp : List Addr) (ga : Addr) (gn : Nat) (go : Obj) (tn : Nat → Heap → Prop) (gs : GenState),
    u = .ref ga ∧ GenObj go gn ∧ s5.gens[gn]? = some gs ∧ gs.bare = true ∧ Inv (gblk X A' s_0 H_0 cenv fp) [(ga, go)] (wipe σ vs) H4 s5 ∧ tn 0 s5.heap ∧ (∀ b ∈ fp, H4 b = none) ∧ (∀ b ∈ fp, b < ga) ∧
    (∀ i h h', tn i h → (∀ b ∈ fp, ∀ o, h.get? b = some o → h'.get? b = some o) → tn i h') ∧ (∀ cp σ' H' s', Inv (gblk X A' s_0 H_0 cenv fp) cp σ' H' s' → Inv X pins σ H' s') ∧
    ∀ (α : Type) (AC : α → List (Addr × Obj) → Prop) (End : α → Hp → Prop) (Yd : α → V → Hp → (α → Hp → Prop) → Prop) (W : Nat → Nat → α → Hp → Prop) (m n : Nat) (a : α) (cp : List (Addr × Obj)) (s' : Shared),
      tGx J g tt te (wipe σ vs) vs End Yd W → W 0 m a H4 → m < n → (∀ a cp, AC a cp → ∀ p ∈ cp, ∀ b ∈ fp, p.1 ≠ b) → AC a cp → Inv (gblk X A' s_0 H_0 cenv fp) cp (wipe σ vs) H4 s' → tn 0 s'.heap →
      gs.Goes (model X.prog X.w) A (RG (gblk X A' s_0 H_0 cenv fp) AC End) (YG (gblk X A' s_0 H_0 cenv fp) fp tn AC Yd) n (.send .none) s'
/-- what stands about an asker -/
structure Near (A B : Around) : Prop where
  hd : B.handled = A.handled
  fr : B.frames = A.frames
  gd : B.guards = A.guards
  dp : B.depth = A.depth
  un : B.units ≤ A.units + 8
theorem gx_make {c P : Addr} {elt tg iter : Expr} {ifs : List Expr} {gpos : Pos} {scope : Scope} {own : List (Str × Nat)} {wi : TI} {g : TG} {tt : TT} {te : TE} {k : Nat} {Q' : Value → Shared → Prop} {R : It → Hp → Prop} {A : Around}
    (hr : Room (k + 1) X.A) (near : Near X.A A) (hc : X.calm = true) (hN : X.N.Nodup) (TB : GxR.TabB X.base X.mg c P) (hcode : X.env.code = .ref c) (hco : scope.isCoroutine = false) (hdot : scope.names.lookup (".0" : Str) = some NameKind.local)
    (nocell : ∀ y ∈ scope.names, y.2 ≠ .cell) (ok : BlkOk X.N X.env.scope scope own) (hi : PI X tg iter wi)
    (hg : ∀ (A' : Around) (s : Shared) (H : Hp) (C : Addr) (cl : List (Str × Addr)) (code : Value) (fp : List Addr), Room k A' → A'.guards = X.A.guards → PG (gblk X A' s H (genEnv scope cl C code builtinsNs X.env) fp) tg g)
    (ht : ∀ (A' : Around) (s : Shared) (H : Hp) (C : Addr) (cl : List (Str × Addr)) (code : Value) (fp : List Addr), Room k A' → A'.guards = X.A.guards → PTs (gblk X A' s H (genEnv scope cl C code builtinsNs X.env) fp) ifs tt)
    (he : ∀ (A' : Around) (s : Shared) (H : Hp) (C : Addr) (cl : List (Str × Addr)) (code : Value) (fp : List Addr), Room k A' → A'.guards = X.A.guards → PE (gblk X A' s H (genEnv scope cl C code builtinsNs X.env) fp) elt te)
    (hs : ∀ v, genFold iter X.env v = pure v) (I : Inv X pins σ H s) (h : wi σ H fun J H1 => GxR.TabG H1 P ∧ R J H1)
    (hQ : ∀ J H1 H2 u s5, R J H1 → GxR.Tabbed P H1 H2 → Gx X pins σ A J g tt te (own.map (·.2)) H2 u s5 → Q' u s5) :
    wpAny (model X.prog X.w) X.A (eval (.GeneratorExp elt [⟨tg, iter, ifs, 0⟩] scope gpos) X.env) Q' X.xe s := by
  have hfree : ∀ y ∈ scope.names, y.2 = .free → ∃ c, X.env.cells.lookup y.1 = some c := fun y hy e => by
    rcases ok.free y hy e with k | k
    · exact I.ok.has _ (.inl k)
    · exact I.ok.has _ (.inr k)
  refine wpAny_GeneratorExp_make hco (closure_ok hfree) nocell hdot ok.kind (by have := hr.dp; omega) ?_ hs
  refine thn (hi.run pins s σ H _ I h) fun xv s1 hx => thn hx fun itv s2 h2 => ?_
  obtain ⟨it, fp, tn, J, H2, rfl, I2, T, st2, f2, ⟨ps, hP, ht3⟩, q⟩ := h2
  refine ⟨I2.nolimit, ?_⟩
  have hPs : s2.heap.get? P = some { cls := .none, data := .fields ps } := I2.hok P _ hP
  have cd : PySem.W.CodeHd s2.heap c P := TB.code.keeps fun b u e => I2.bk b u e
  have nP : ∀ b, H2 b = none → b ≠ P := fun b e z => by
    rw [z, hP] at e
    cases e
  have cont : ∀ (code : Value) (h3 : Heap) (tk : Nat) (ps' : Array Value), Heap.ExtBut P s2.heap h3 → s2.heap.objs.size ≤ h3.objs.size → h3.get? P = some { cls := .none, data := .fields ps' } → (∃ more, ps' = ps ++ more) → TriplesOk ps'.toList →
      wpAny (model X.prog X.w) X.A (builtinsFor X.env.globals X.env.builtins) (fun bi s₄ =>
        ∀ h', h'.Ns s₄.heap.objs.size (fun y => if y = ".0" then some (Value.ref it) else none) → Heap.SameBut s₄.heap.objs.size (s₄.heap.push { cls := .type "frame", data := .dict #[] }) h' →
          Q' (.ref h'.objs.size) { s₄ with
            gens := s₄.gens.push (.fresh (.compStart (.GeneratorExp elt [⟨tg, iter, ifs, 0⟩] scope gpos) 0 (.ref it) .none (genEnv scope (cloFrom X.env.cells scope.names []) s₄.heap.objs.size code bi X.env))),
            toks := s₄.toks + 1 + 1 + 1,
            heap := h'.push { cls := .type "generator", data := .fields #[.int s₄.gens.size 0, .str "<genexpr>" (s₄.toks + 1), .str (X.env.qual ++ "<genexpr>") (s₄.toks + 1 + 1)] } }) X.xe { s2 with heap := h3, toks := tk } := by
    rintro code h3 tk ps' hx hsz hP3 ⟨more, rfl⟩ ht4
    obtain ⟨bm, ob, e1, e2, e3, e4, e5, e6, e7, e8⟩ := TB.bm
    refine wpAny_builtinsFor (m := X.mg) (by rw [I2.ok.glob]; exact (I2.mod.glob.keeps I2.bk).extBut hx TB.gP) e1 e2 (hx _ _ e4 (I2.bk _ _ e5)) e6 e7 e8 ?_
    intro h' hns hsb
    have I3 : Inv X pins σ (upd H2 P (.tbl (ps ++ more))) { s2 with heap := h3, toks := tk } := GxR.inv_tab (g' := s2.gens) (d' := s2.drawn) I2 hP (fun b o hb e => hx b o hb e) hP3 I2.bare
    have lt2 : ∀ b ∈ fp, b < s2.heap.objs.size := fun b hb => by
      obtain ⟨o, e, _⟩ := T.obj _ _ st2 b hb
      exact Heap.lt_size e
    have f3 : ∀ b ∈ fp, FpOk X pins (upd H2 P (.tbl (ps ++ more))) b ∧ b < ({ s2 with heap := h3, toks := tk } : Shared).heap.objs.size := fun b hb => by
      refine ⟨⟨?_, (f2 b hb).2⟩, Nat.lt_of_lt_of_le (lt2 b hb) hsz⟩
      rw [upd_ne (nP b (f2 b hb).1)]
      exact (f2 b hb).1
    have st3 : tn 0 h3 := T.keep _ _ _ st2 fun b hb o e => hx b o (nP b (f2 b hb).1) e
    generalize hs4 : ({ s2 with heap := h3, toks := tk } : Shared) = s4 at I3 f3 hns hsb ⊢
    have h4 : s4.heap = h3 := by rw [← hs4]
    have hsz4 : h'.objs.size = s4.heap.objs.size + 1 := by rw [hsb.1, Heap.size_push]
    have keep' : ∀ b o, s4.heap.get? b = some o → h'.get? b = some o := fun b o e => hsb.extBut b o (Nat.ne_of_lt (Heap.lt_size e)) (Heap.get?_push_of_some _ e)
    generalize hgo : ({ cls := .type "generator", data := .fields #[.int s4.gens.size 0, .str "<genexpr>" (s4.toks + 1), .str (X.env.qual ++ "<genexpr>") (s4.toks + 1 + 1)] } : Obj) = go
    have hGO : GenObj go s4.gens.size := by rw [← hgo]; exact ⟨_, _, rfl, rfl, rfl⟩
    have k5 : ∀ b o, s4.heap.get? b = some o → (h'.push go).get? b = some o := fun b o e => Heap.get?_push_of_some _ (keep' b o e)
    have pg := fun A' => hg A' s4 (upd H2 P (.tbl (ps ++ more))) s4.heap.objs.size (cloFrom X.env.cells scope.names []) code fp
    have pt := fun A' => ht A' s4 (upd H2 P (.tbl (ps ++ more))) s4.heap.objs.size (cloFrom X.env.cells scope.names []) code fp
    have pe := fun A' => he A' s4 (upd H2 P (.tbl (ps ++ more))) s4.heap.objs.size (cloFrom X.env.cells scope.names []) code fp
    generalize hce : genEnv scope (cloFrom X.env.cells scope.names []) s4.heap.objs.size code builtinsNs X.env = cenv at pg pt pe ⊢
    have hscn : cenv.scope = scope := by rw [← hce]; rfl
    generalize hA' : A.over (.compLoop (.GeneratorExp elt [⟨tg, iter, ifs, 0⟩] scope gpos) 0 (.ref it) .none cenv) [] = A'
    have hfrA : A'.frames = some (cenv :: X.stack) := by
      rw [← hA']
      show pushEnvs [cenv] A.frames = _
      rw [near.fr, I2.ok.frames]
      rfl
    have hhd : A'.handled = none := by
      rw [← hA']
      show A.handled = none
      rw [near.hd]
      exact hr.hd
    have rm : Room k A' := by
      refine ⟨hhd, ?_, ?_⟩
      · have := hr.dp
        have := near.dp
        rw [← hA']
        show A.depth + 0 + 1 + 3 * k + 5 < _
        omega
      · have := hr.un
        have := near.un
        rw [← hA']
        show A.units + 0 + 3 + 16 * k + 200 < _
        omega
    have gdA : A'.guards = X.A.guards := by
      rw [← hA']
      show pushGuards [] A.guards = _
      rw [near.gd]
      rfl
    have I5 : Inv (gblk X A' s4 (upd H2 P (.tbl (ps ++ more))) cenv fp) [(h'.objs.size, go)] (wipe σ (own.map (·.2))) (upd H2 P (.tbl (ps ++ more)))
        { s4 with gens := s4.gens.push (.fresh (.compStart (.GeneratorExp elt [⟨tg, iter, ifs, 0⟩] scope gpos) 0 (.ref it) .none cenv)), toks := s4.toks + 1 + 1 + 1, heap := h'.push go } := by
      subst hce
      refine gen_start (it := .ref it) I3 ok nocell hN f3 hhd hfrA rfl (I3.bare.push rfl) k5 (hns.push _) fun p hp => ?_
      have e : p = (h'.objs.size, go) := by simpa using hp
      subst e
      refine ⟨by show s4.heap.objs.size < h'.objs.size; omega, Heap.get?_push_size _ (by rw [← hgo]; rfl), fun v z => ?_⟩
      rw [← hgo] at z
      cases z
    refine hQ J H2 _ _ _ q ⟨⟨_, upd_same, ht4⟩, fun b hb => upd_ne hb⟩ ⟨A', s4, _, cenv, fp, h'.objs.size, s4.gens.size, go, tn, _, rfl, hGO, Array.getElem?_push_size .., rfl, I5, ?_, fun b hb => (f3 b hb).1.1, fun b hb => ?_, T.keep, fun cp σ' H' s' I' => ?_, ?_⟩
    · exact T.keep _ _ _ st3 fun b _ o e => k5 b o (by rw [h4]; exact e)
    · have := (f3 b hb).2
      rw [hsz4]
      exact Nat.lt_succ_of_lt this
    · exact I3.call' (ch := fp) I'.os I'.base I'.hok I'.bare fun b hb => ⟨(f3 b hb).1.2.2.2.1, (f3 b hb).1.2.1, (f3 b hb).1.2.2.2.2.1, (f3 b hb).1.2.2.2.2.2⟩
    · intro α AC End Yd W m n a cp s' turn w hmn hAC hac I' st'
      refine ⟨rfl, ?_⟩
      have loop := seg_gx (A := A) (pos := gpos) (iter := iter) (scope := scope) hA' hc (by rw [hscn]; exact hco) T (pg A' rm gdA) (pt A' rm gdA) (pe A' rm gdA) hAC turn m n 0 a _ s' s' cp hmn w hac (fun p hp => (I'.pin p (List.mem_append_right _ hp)).1) I' st' fun b hb => (f3 b hb).1.1
      show Seg _ A _ _ _ s' _ ((compStart (.GeneratorExp elt [⟨tg, iter, ifs, 0⟩] scope gpos) 0 (.ref it) .none cenv).onRaise (leaving cenv)) [] s'
      unfold compStart
      rw [Sem.onRaise_eq_wrap]
      show Seg _ A _ _ _ s' _ ((ask >>= _).wrap _ _ _ _) [] s'
      refine seg_bind_wrap (wpAny_askSetting ?_)
      split
      · exact seg_again rfl loop
      · first
          | exact seg_bind_wrap (wpAny_rule (seg_bind_wrap (wpAny_standAt (seg_bind_wrap (T.self _ 0 s' _ _ st' (seg_again rfl loop))))))
          | (refine seg_bind_wrap (wpAny_rule ?_); show Seg _ A _ _ _ s' _ ((standAt iter.pos >>= _).wrap _ _ _ _) [] s'; exact seg_bind_wrap (wpAny_standAt (seg_bind_wrap (T.self _ 0 s' _ _ st' (seg_again rfl loop)))))
  cases hf : codeAmong gpos ps.toList with
  | none =>
    refine wpAny_genexprCodeX hcode (cd.code hPs ht3) (cd.tab hPs) hf fun c' h' tk hx hge hlt hco' _ htab' _ => ?_
    obtain ⟨o1, vs, f1, tf, fl, tg, inF, tx, tt, op, _, _, _, _, _, _, _, _, _, htr, _⟩ := hco'
    exact cont _ h' tk _ hx (Nat.le_trans hge (Nat.le_of_lt hlt)) htab'.2 ⟨_, rfl⟩ htr
  | some cv =>
    refine wpAny_genexprCode_hit hcode (cd.code hPs ht3) hf ?_
    exact cont cv s2.heap s2.toks ps (Heap.ExtBut.refl _ _) (Nat.le_refl _) hPs ⟨#[], by simp⟩ ht3
end
/-! ### asking -/
section
variable {α : Type} {X : Cx} {A A' : Around} {s_0 : Shared} {H_0 : Hp} {cenv : Env} {fp : List Addr} {tn : Nat → Heap → Prop} {AC : α → List (Addr × Obj) → Prop} {End : α → Hp → Prop} {Yd : α → V → Hp → (α → Hp → Prop) → Prop} {ga : Addr} {gn n : Nat} {go : Obj}
theorem next_gx2 {gs : GenState} {s : Shared} {Q : Option Value → Shared → Prop} {E : Value → Shared → Prop} (hh : A.handled = none) (hroom : A.depth < recursionLimit) (hl : s.heap.NoLimit) (hG : GenObj go gn) (e : s.heap.get? ga = some go) (hgs : s.gens[gn]? = some gs)
    (hgo : gs.Goes (model X.prog X.w) A.in1 (RG (gblk X A' s_0 H_0 cenv fp) AC End) (YG (gblk X A' s_0 H_0 cenv fp) fp tn AC Yd) n (.send .none) (s.setGen gn .running))
    (item : ∀ (a : α) (x : V) (σ : L2.St) (H : Hp) (i : Nat) (cp : List (Addr × Obj)) (Nx : α → Hp → Prop) (v : Value) (s1 : Shared) (gs' : GenState), RelV x v → AC a cp → (∀ p ∈ cp, s.heap.get? p.1 = some p.2) → Inv (gblk X A' s_0 H_0 cenv fp) cp σ H s1 → tn i s1.heap → Yd a x H Nx → s1.gens[gn]? = some gs' →
      (∀ a' cp' s', Nx a' H → AC a' cp' → Inv (gblk X A' s_0 H_0 cenv fp) cp' σ H s' → tn i s'.heap → ∃ m, n = m + 1 ∧ gs'.Goes (model X.prog X.w) A.in1 (RG (gblk X A' s_0 H_0 cenv fp) AC End) (YG (gblk X A' s_0 H_0 cenv fp) fp tn AC Yd) m (.send .none) s') → Q (some v) s1)
    (done : ∀ (a : α) (σ : L2.St) (H : Hp) (cp : List (Addr × Obj)) (s1 : Shared), AC a cp → (∀ p ∈ cp, s.heap.get? p.1 = some p.2) → Inv (gblk X A' s_0 H_0 cenv fp) cp σ H s1 → End a H → Q none s1) :
    wpAny (model X.prog X.w) A (pyNext (.ref ga)) Q E s := by
  have hgl : gn < s.gens.size := (Array.getElem?_eq_some_iff.mp hgs).1
  refine GenW.wpAny_gsz (n := gn + 1) hgl (next_genG (Er := fun _ _ => False) hh hl hroom (hG.isGen e) hgs hgo (fun v s₁ gs' hbare hv => ?_) (fun s₁ hp h' hk => ?_) fun e s₁ he => he.elim)
  · intro hsz
    obtain ⟨a, x, σ, H, i, cp, Nx, r, hac, tie, I, st, nf, hy, kap⟩ := hv
    have hsz1 : gn < s₁.gens.size := by
      have q : (s₁.setGen gn gs').gens.size = s₁.gens.size := GenW.setGen_size _ _ _
      have hsz' : gn + 1 ≤ (s₁.setGen gn gs').gens.size := hsz
      omega
    refine item a x σ H i cp Nx v (s₁.setGen gn gs') gs' r hac tie (inv_moved I rfl (allBare_setGen I.bare hbare) fun _ _ q => q) st hy (setGen_at hsz1) fun a' cp' s' nx hac' I' st' => ?_
    have z := kap a' cp' s' nx hac' I' st'
    cases n with
    | zero => exact z.elim
    | succ m => exact ⟨m, rfl, z⟩
  · intro _
    obtain ⟨a, σ, H, cp, hac, tie, I, q⟩ := hp
    exact done a σ H cp _ hac tie (inv_moved I rfl (allBare_setGen I.bare rfl) hk) q
theorem next_gx {gs : GenState} {s : Shared} {Q : Option Value → Shared → Prop} {E : Value → Shared → Prop} (hh : A.handled = none) (hroom : A.depth < recursionLimit) (hl : s.heap.NoLimit) (hG : GenObj go gn) (e : s.heap.get? ga = some go) (hgs : s.gens[gn]? = some gs)
    (hgo : gs.Goes (model X.prog X.w) A.in1 (RG (gblk X A' s_0 H_0 cenv fp) AC End) (YG (gblk X A' s_0 H_0 cenv fp) fp tn AC Yd) n (.send .none) (s.setGen gn .running))
    (item : ∀ (a : α) (x : V) (σ : L2.St) (H : Hp) (i : Nat) (cp : List (Addr × Obj)) (Nx : α → Hp → Prop) (v : Value) (s1 : Shared) (gs' : GenState), RelV x v → AC a cp → Inv (gblk X A' s_0 H_0 cenv fp) cp σ H s1 → tn i s1.heap → Yd a x H Nx → s1.gens[gn]? = some gs' →
      (∀ a' cp' s', Nx a' H → AC a' cp' → Inv (gblk X A' s_0 H_0 cenv fp) cp' σ H s' → tn i s'.heap → ∃ m, n = m + 1 ∧ gs'.Goes (model X.prog X.w) A.in1 (RG (gblk X A' s_0 H_0 cenv fp) AC End) (YG (gblk X A' s_0 H_0 cenv fp) fp tn AC Yd) m (.send .none) s') → Q (some v) s1)
    (done : ∀ (a : α) (σ : L2.St) (H : Hp) (cp : List (Addr × Obj)) (s1 : Shared), AC a cp → Inv (gblk X A' s_0 H_0 cenv fp) cp σ H s1 → End a H → Q none s1) :
    wpAny (model X.prog X.w) A (pyNext (.ref ga)) Q E s :=
  next_gx2 hh hroom hl hG e hgs hgo (fun a x σ H i cp Nx v s1 gs' r hac _ I st hy at_ kap => item a x σ H i cp Nx v s1 gs' r hac I st hy at_ kap) fun a σ H cp s1 hac _ I q => done a σ H cp s1 hac I q
/-- all(..) asks on -/
theorem all_gx {R : Result → Shared → Prop} {Stop : Hp → Prop} {End : Unit → Hp → Prop} (hh : A.handled = none) (hroom : A.depth < recursionLimit) (hG : GenObj go gn)
    (yes : ∀ (σ : L2.St) (H : Hp) (cp : List (Addr × Obj)) (s1 : Shared), Inv (gblk X A' s_0 H_0 cenv fp) cp σ H s1 → End () H → R (.ok (.ret (.bool true))) s1)
    (no : ∀ (σ : L2.St) (H : Hp) (cp : List (Addr × Obj)) (s1 : Shared), Inv (gblk X A' s_0 H_0 cenv fp) cp σ H s1 → Stop H → R (.ok (.ret (.bool false))) s1) :
    ∀ (n : Nat) (s : Shared), s.heap.NoLimit → s.heap.get? ga = some go → (∃ gs, s.gens[gn]? = some gs ∧ gs.Goes (model X.prog X.w) A.in1.in1 (RG (gblk X A' s_0 H_0 cenv fp) (fun _ cp => cp = [(ga, go)]) End)
      (YG (gblk X A' s_0 H_0 cenv fp) fp tn (fun _ cp => cp = [(ga, go)]) (fun _ y H Nx => ∃ b : Bool, y = .bl b ∧ if b = true then Nx () H else Stop H)) n (.send .none) (s.setGen gn .running)) →
      codeAny (model X.prog X.w) A (.builtin "all.loop" ⟨[.ref ga], []⟩) R s := by
  intro n
  induction n with
  | zero =>
    rintro s hl e ⟨gs, hgs, hgo⟩
    refine codeAny_builtin F.entry_all_loop ?_
    rw [Around.under_plainId F.plain_all_loop _]
    show wpAny _ A.in1 (pyNext (.ref ga) >>= _) _ _ s
    refine wpAny_bind (next_gx (A := A.in1) hh hroom hl hG e hgs hgo (fun a x σ H i cp Nx v s1 gs' r hac I st hy at_ kap => ?_) fun a σ H cp s1 hac I q => ?_)
    · obtain ⟨b, rfl, hb⟩ := hy
      cases (show v = Value.bool b from r)
      refine wpAny_bind (wpAny_holding (wpAny_truthy_bool ?_))
      refine wpAny_bind (wpAny_letGo ?_)
      cases b with
      | true =>
        obtain ⟨m, hm, _⟩ := kap () cp s1 hb hac I st
        cases hm
      | false =>
        simp only [Bool.false_eq_true, if_false] at hb ⊢
        exact wpAny_bind (wpAny_rule (wpAny_pure (no σ H cp s1 I hb)))
    · exact wpAny_bind (wpAny_rule (wpAny_pure (yes σ H cp s1 I q)))
  | succ n ih =>
    rintro s hl e ⟨gs, hgs, hgo⟩
    refine codeAny_builtin F.entry_all_loop ?_
    rw [Around.under_plainId F.plain_all_loop _]
    show wpAny _ A.in1 (pyNext (.ref ga) >>= _) _ _ s
    refine wpAny_bind (next_gx (A := A.in1) hh hroom hl hG e hgs hgo (fun a x σ H i cp Nx v s1 gs' r hac I st hy at_ kap => ?_) fun a σ H cp s1 hac I q => ?_)
    · obtain ⟨b, rfl, hb⟩ := hy
      cases (show v = Value.bool b from r)
      refine wpAny_bind (wpAny_holding (wpAny_truthy_bool ?_))
      refine wpAny_bind (wpAny_letGo ?_)
      cases b with
      | true =>
        simp only [if_true] at hb ⊢
        subst hac
        refine wpAny_pure ⟨plainId_quiet F.plain_all_loop _, ih s1 I.nolimit (I.pin (ga, go) (List.mem_append_right _ List.mem_cons_self)).1 ⟨gs', at_, ?_⟩⟩
        obtain ⟨m, hm, z⟩ := kap () [(ga, go)] (s1.setGen gn .running) hb rfl (inv_moved I rfl (allBare_setGen I.bare rfl) fun _ _ q => q) st
        cases hm
        exact z
      | false =>
        simp only [Bool.false_eq_true, if_false] at hb ⊢
        exact wpAny_bind (wpAny_rule (wpAny_pure (no σ H cp s1 I hb)))
    · exact wpAny_bind (wpAny_rule (wpAny_pure (yes σ H cp s1 I q)))
end
section
variable {X : Cx}
/-- all(elt for tg in iter ..) -/
def tAllX (P : Addr) (wi : TI) (g : TG) (tt : TT) (te : TE) (vs : List Nat) : TE := fun σ H Q => wi σ H fun J H1 => GxR.TabG H1 P ∧ ∀ H2, GxR.Tabbed P H1 H2 → ∃ W : Nat → Nat → Unit → Hp → Prop, (∃ m, W 0 m () H2) ∧
  tGx J g tt te (wipe σ vs) vs (fun _ H => Q (.bl true) H) (fun _ y H Nx => ∃ b : Bool, y = .bl b ∧ if b = true then Nx () H else Q (.bl false) H) W
theorem pe_allX {c P : Addr} {elt tg iter : Expr} {ifs : List Expr} {p pos gpos : Pos} {scope : Scope} {own : List (Str × Nat)} {wi : TI} {g : TG} {tt : TT} {te : TE} {k : Nat}
    (hr : Room (k + 1) X.A) (hc : X.calm = true) (hN : X.N.Nodup) (hgl : Gl X "all") (hm : X.mg "all" = none) (hb : bootBuiltins "all" = some (.builtin "all")) (TB : GxR.TabB X.base X.mg c P) (hcode : X.env.code = .ref c)
    (hco : scope.isCoroutine = false) (hdot : scope.names.lookup (".0" : Str) = some NameKind.local) (nocell : ∀ y ∈ scope.names, y.2 ≠ .cell) (ok : BlkOk X.N X.env.scope scope own) (hi : PI X tg iter wi)
    (hg : ∀ (A' : Around) (s : Shared) (H : Hp) (C : Addr) (cl : List (Str × Addr)) (code : Value) (fp : List Addr), Room k A' → A'.guards = X.A.guards → PG (gblk X A' s H (genEnv scope cl C code builtinsNs X.env) fp) tg g)
    (ht : ∀ (A' : Around) (s : Shared) (H : Hp) (C : Addr) (cl : List (Str × Addr)) (code : Value) (fp : List Addr), Room k A' → A'.guards = X.A.guards → PTs (gblk X A' s H (genEnv scope cl C code builtinsNs X.env) fp) ifs tt)
    (he : ∀ (A' : Around) (s : Shared) (H : Hp) (C : Addr) (cl : List (Str × Addr)) (code : Value) (fp : List Addr), Room k A' → A'.guards = X.A.guards → PE (gblk X A' s H (genEnv scope cl C code builtinsNs X.env) fp) elt te)
    (hs : ∀ v, genFold iter X.env v = pure v)
    (hst : starEach [.GeneratorExp elt [⟨tg, iter, ifs, 0⟩] scope gpos] X.env = (false, eval (.GeneratorExp elt [⟨tg, iter, ifs, 0⟩] scope gpos) X.env) :: starEach [] X.env := by rfl) :
    PE X (.Call (.Name "all" p) [.GeneratorExp elt [⟨tg, iter, ifs, 0⟩] scope gpos] [] pos) (tAllX P wi g tt te (own.map (·.2))) := by
  refine ⟨fun pins s σ H Q I h => ?_⟩
  refine wpAny_Call_Name_kw (ld_blt I hgl hm hb ?_)
  refine PyProof.Rows.callWith_builtin1 ?_ hst (by rfl)
  rw [hst]
  show wpAny _ _ (spliced ((false, eval (.GeneratorExp elt [⟨tg, iter, ifs, 0⟩] scope gpos) X.env) :: backTo pos (starEach [] X.env))) _ _ s
  refine Calls.spliced_cons (gx_make (A := X.A.in1.in1) hr ⟨rfl, rfl, rfl, rfl, (by show X.A.units + 1 + 1 ≤ _; omega)⟩ hc hN TB hcode hco hdot nocell ok hi hg ht he hs I h fun J H1 H2 u s5 hR hT hG => ?_)
  obtain ⟨A', s_0, H_0, cenv, fp, ga, gn, go, tn, gs, rfl, hGO, hgs, hbare, I5, st5, nf, hlt, keep, back, goes⟩ := hG
  obtain ⟨W, ⟨m, w0⟩, turn⟩ := hR H2 hT
  refine Calls.spliced_nil ?_
  have pin5 := (I5.pin (ga, go) (List.mem_append_right _ List.mem_cons_self)).1
  refine call_function_tree F.kind_all F.plain_all F.entry_all (F.args_all1 _) ?_
  unfold Builtin.«all»
  refine wpAny_bind (m := oneArg "all" _) (wpAny_pure ?_)
  refine wpAny_bind (wpAny_pyIter_gen (hGO.isGen pin5) ?_)
  refine wpAny_pure ⟨plainId_quiet F.plain_all_loop _, all_gx (A' := A') (s_0 := s_0) (H_0 := H_0) (cenv := cenv) (fp := fp) (tn := tn) (go := go) (gn := gn) (Stop := fun H => Q (.bl false) H) (End := fun _ H => Q (.bl true) H) hr.hd hr.depth hGO
    (fun σ' H' cp s1 I1 q => ⟨.bl true, H', back _ _ _ _ I1, rfl, q⟩) (fun σ' H' cp s1 I1 q => ⟨.bl false, H', back _ _ _ _ I1, rfl, q⟩) (m + 1) s5 I5.nolimit pin5 ⟨gs, hgs, ?_⟩⟩
  refine goes Unit _ _ _ W m (m + 1) () [(ga, go)] _ turn w0 (Nat.lt_succ_self _) (fun a cp hac p hp b hb z => ?_) rfl (inv_moved I5 rfl (allBare_setGen I5.bare rfl) fun _ _ q => q) st5
  subst hac
  have e : p = (ga, go) := by simpa using hp
  subst e
  exact absurd (hlt b hb) (by rw [← z]; exact Nat.lt_irrefl _)
end
/-! ### tuple(..) -/
section
variable {X : Cx} {A A' : Around} {s_0 : Shared} {H_0 : Hp} {cenv : Env} {fp : List Addr} {tn : Nat → Heap → Prop} {ga S : Addr} {gn n : Nat} {go : Obj}
/-- the asker's list S holds what is out -/
def ACl (ga : Addr) (go : Obj) (S : Addr) (ys : List V) (cp : List (Addr × Obj)) : Prop := ∃ (acc : Array Value) (c : Nat), cp = [(ga, go), (S, lstObj acc c)] ∧ Vals ys acc.toList
def YdL (ys : List V) (y : V) (H : Hp) (Nx : List V → Hp → Prop) : Prop := ys.length < sizeLine ∧ Nx (ys ++ [y]) H
theorem ext_gx {R : Result → Shared → Prop} {End : List V → Hp → Prop} {res : Value} (hh : A.handled = none) (hroom : A.depth < recursionLimit) (hG : GenObj go gn) (hSa : S ≠ ga) (far : (gblk X A' s_0 H_0 cenv fp).s_0.heap.objs.size ≤ S) (hSc : ∀ x c, cenv.cells.lookup x = some c → c ≠ S)
    (keep : ∀ i h h', tn i h → (∀ b ∈ fp, ∀ o, h.get? b = some o → h'.get? b = some o) → tn i h') (hSf : ∀ b ∈ fp, b ≠ S)
    (yes : ∀ (σ : L2.St) (H : Hp) (ys : List V) (acc : Array Value) (c : Nat) (s1 : Shared), Inv (gblk X A' s_0 H_0 cenv fp) [(ga, go), (S, lstObj acc c)] σ H s1 → Vals ys acc.toList → End ys H → R (.ok (.ret res)) s1) :
    ∀ (n : Nat) (s : Shared), s.heap.NoLimit → s.heap.get? ga = some go → (∃ gs, s.gens[gn]? = some gs ∧ gs.Goes (model X.prog X.w) A.in1.in1 (RG (gblk X A' s_0 H_0 cenv fp) (ACl ga go S) End)
      (YG (gblk X A' s_0 H_0 cenv fp) fp tn (ACl ga go S) YdL) n (.send .none) (s.setGen gn .running)) →
      codeAny (model X.prog X.w) A (.builtin "list.extend.loop" ⟨[.ref S, .ref ga, res], []⟩) R s := by
  intro n
  induction n with
  | zero =>
    rintro s hl e ⟨gs, hgs, hgo⟩
    refine codeAny_builtin F.entry_extend_loop ?_
    rw [Around.under_plainId F.plain_extend_loop _]
    show wpAny _ A.in1 (pyNext (.ref ga) >>= _) _ _ s
    refine wpAny_bind (next_gx (A := A.in1) hh hroom hl hG e hgs hgo (fun ys x σ H i cp Nx v s1 gs' r hac I st hy at_ kap => ?_) fun ys σ H cp s1 hac I q => ?_)
    · obtain ⟨acc, c, rfl, rv⟩ := hac
      have pS := I.pin (S, lstObj acc c) (List.mem_append_right _ (List.mem_cons_of_mem _ List.mem_cons_self))
      have I0 : Inv (gblk X A' s_0 H_0 cenv fp) [(ga, go)] σ H s1 := I.pins_of fun p hp => I.pin p (List.mem_append_right _ (by rw [List.mem_singleton.mp hp]; exact List.mem_cons_self))
      have I1 := I0.turned (t' := s1.toks) (h' := s1.heap.update S (Obj.mapSeq (·.push v))) (it := S) (fun b o hb q => (Heap.get?_update_other _ _ (Ne.symm hb)).trans q) pS.2.1 pS.2.2.1 (.inr far) hSc (fun p hp => by rw [List.mem_singleton.mp (show p ∈ [(ga, go)] by simpa using hp)]; exact Ne.symm hSa)
      have e2 := Heap.get?_update_self (Obj.mapSeq (·.push v)) pS.1 rfl
      obtain ⟨m, hm, _⟩ := kap (ys ++ [x]) [(ga, go), (S, _)] _ hy.2 ⟨acc.push v, _, rfl, by rw [Array.toList_push]; exact rv.append (.cons r .nil)⟩ (I1.pins_of fun p hp => by
        rcases List.mem_cons.mp hp with z | z
        · rw [z]; exact I1.pin (ga, go) (List.mem_append_right _ List.mem_cons_self)
        · rw [List.mem_singleton.mp z]; exact ⟨e2, pS.2.1, pS.2.2.1, pS.2.2.2.1, fun v q => by cases q⟩) (keep _ _ _ st fun b hb o q => (Heap.get?_update_other _ _ (Ne.symm (hSf b hb))).trans q)
      cases hm
    · obtain ⟨acc, c, rfl, rv⟩ := hac
      exact wpAny_pure (yes σ H ys acc c s1 I rv q)
  | succ n ih =>
    rintro s hl e ⟨gs, hgs, hgo⟩
    refine codeAny_builtin F.entry_extend_loop ?_
    rw [Around.under_plainId F.plain_extend_loop _]
    show wpAny _ A.in1 (pyNext (.ref ga) >>= _) _ _ s
    refine wpAny_bind (next_gx (A := A.in1) hh hroom hl hG e hgs hgo (fun ys x σ H i cp Nx v s1 gs' r hac I st hy at_ kap => ?_) fun ys σ H cp s1 hac I q => ?_)
    · obtain ⟨acc, c, rfl, rv⟩ := hac
      have pS := I.pin (S, lstObj acc c) (List.mem_append_right _ (List.mem_cons_of_mem _ List.mem_cons_self))
      have I0 : Inv (gblk X A' s_0 H_0 cenv fp) [(ga, go)] σ H s1 := I.pins_of fun p hp => I.pin p (List.mem_append_right _ (by rw [List.mem_singleton.mp hp]; exact List.mem_cons_self))
      have I1 := I0.turned (t' := s1.toks) (h' := s1.heap.update S (Obj.mapSeq (·.push v))) (it := S) (fun b o hb q => (Heap.get?_update_other _ _ (Ne.symm hb)).trans q) pS.2.1 pS.2.2.1 (.inr far) hSc (fun p hp => by rw [List.mem_singleton.mp (show p ∈ [(ga, go)] by simpa using hp)]; exact Ne.symm hSa)
      have e2 := Heap.get?_update_self (Obj.mapSeq (·.push v)) pS.1 rfl
      have hln := rv.length
      have hlt : acc.size < sizeLine := by
        have := hy.1
        rw [hln] at this
        simpa using this
      have pG := I1.pin (ga, go) (List.mem_append_right _ List.mem_cons_self)
      show wpAny _ A.in1 (updateSeq S (·.push v) >>= _) _ _ _
      refine wpAny_bind ?_
      refine wpAny_updateSeq pS.1 rfl (wpAny_pure ⟨plainId_quiet F.plain_extend_loop _, ih _ I1.nolimit pG.1 ⟨gs', at_, ?_⟩⟩) (Nat.le_of_lt hlt) (by show (acc.push v).size ≤ sizeLine + 1; rw [Array.size_push]; omega)
      obtain ⟨m, hm, z⟩ := kap (ys ++ [x]) [(ga, go), (S, _)] (({ s1 with heap := s1.heap.update S (Obj.mapSeq (·.push v)) } : Shared).setGen gn .running) hy.2 ⟨acc.push v, _, rfl, by rw [Array.toList_push]; exact rv.append (.cons r .nil)⟩ (inv_moved (I1.pins_of fun p hp => by
        rcases List.mem_cons.mp hp with z | z
        · rw [z]; exact pG
        · rw [List.mem_singleton.mp z]; exact ⟨e2, pS.2.1, pS.2.2.1, pS.2.2.2.1, fun v q => by cases q⟩) rfl (allBare_setGen (s := { s1 with heap := s1.heap.update S (Obj.mapSeq (·.push v)) }) I1.bare rfl) fun _ _ q => q) (keep _ _ _ st fun b hb o q => (Heap.get?_update_other _ _ (Ne.symm (hSf b hb))).trans q)
      cases hm
      exact z
    · obtain ⟨acc, c, rfl, rv⟩ := hac
      exact wpAny_pure (yes σ H ys acc c s1 I rv q)
end
section
variable {X : Cx} {pins : List (Addr × Obj)} {σ : L2.St} {s5 : Shared} {J : It} {g : TG} {tt : TT} {te : TE} {vs : List Nat} {H4 : Hp} {u : Value}
/-- all that a generator hands out, in a list of the asker's own -/
theorem collect_gx {A : Around} {E : Value → Shared → Prop} {Q : List Value → Shared → Prop} {End : List V → Hp → Prop} {W : Nat → Nat → List V → Hp → Prop} {m : Nat} (hh : A.handled = none) (hroom : A.depth < recursionLimit) (G : Gx X pins σ A.in1.in1 J g tt te vs H4 u s5)
    (w0 : W 0 m [] H4) (turn : tGx J g tt te (wipe σ vs) vs End YdL W)
    (hQ : ∀ (s' : Shared) (acc : Array Value) (ys : List V) (H' : Hp), Inv X pins σ H' s' → Vals ys acc.toList → End ys H' → Q acc.toList s') : wpAny (model X.prog X.w) A (collect u) Q E s5 := by
  obtain ⟨A', s_0, H_0, cenv, fp, ga, gn, go, tn, gs, rfl, hGO, hgs, hbare, I5, st5, nf, hlt, keep, back, goes⟩ := G
  have pin5 := I5.pin (ga, go) (List.mem_append_right _ List.mem_cons_self)
  have glt : ga < s5.heap.objs.size := Heap.lt_size pin5.1
  have hSI : s5.heap.objs.size ≠ ga := Nat.ne_of_gt glt
  unfold collect
  refine wpAny_bind (wpAny_runValue (codeAny_builtin F.entry_proto_collect ?_))
  rw [Around.under_plainId F.plain_proto_collect _]
  show wpAny _ A.in1 (newList [] >>= fun l => again (.builtin "list.__iadd__" ⟨[l, .ref ga], []⟩)) _ _ s5
  refine wpAny_bind (wpAny_newObj_type ?_)
  refine wpAny_pure ⟨plainId_quiet F.plain_list_iadd _, codeAny_builtin F.entry_list_iadd ?_⟩
  rw [Around.under_plainId F.plain_list_iadd _]
  show wpAny _ A.in1 (Builtin.List.listExtendWith (.ref s5.heap.objs.size) (.ref ga) (.ref s5.heap.objs.size)) _ _ _
  unfold Builtin.List.listExtendWith
  have k1 : ∀ b o, s5.heap.get? b = some o → (s5.heap.push { cls := .type "list", data := .seq ([] : List Value).toArray }).get? b = some o := fun b o e => Heap.get?_push_of_some _ e
  have hT : Shared.TypeIs { s5 with heap := s5.heap.push { cls := .type "list", data := .seq ([] : List Value).toArray } } (.ref ga) "generator" := Heap.IsGen.typeIs (s := { s5 with heap := _ }) (hGO.isGen (k1 _ _ pin5.1))
  refine wpAny_bind (wpAny_typeOf hT ?_)
  have h1 : Builtin.List.listSameRef (.ref s5.heap.objs.size) (.ref ga) = false := by simp [Builtin.List.listSameRef, hSI]
  have h2 : (Value.type "generator" == Value.type "list") = false := by decide
  have h3 : (Value.type "generator" == Value.type "tuple") = false := by decide
  simp only [h1, h2, h3, Bool.or_false, Bool.false_eq_true, if_false]
  refine wpAny_bind (wpAny_pyIter_gen (s := { s5 with heap := _ }) (hGO.isGen (k1 _ _ pin5.1)) ?_)
  refine wpAny_bind (wpAny_holding ?_)
  unfold Builtin.List.listLengthHint
  refine wpAny_bind (wpAny_specialOf hT F.gen_no_len ?_)
  show wpAny _ A.in1 (specialOf (Value.ref ga) (Str.ofString "__length_hint__") >>= _) _ _ _
  refine wpAny_bind (wpAny_specialOf hT F.gen_no_hint ?_)
  refine wpAny_pure ?_
  show wpAny _ A.in1 (rule "list.extend.makes-room" >>= fun _ => Builtin.List.listTouch (.ref s5.heap.objs.size) >>= fun _ =>
    again (.builtin "list.extend.loop" ⟨[.ref s5.heap.objs.size, .ref ga, .ref s5.heap.objs.size], []⟩)) _ _ _
  refine wpAny_bind (wpAny_rule ?_)
  have hS₁ : (s5.heap.push { cls := .type "list", data := .seq ([] : List Value).toArray }).get? s5.heap.objs.size = some { cls := .type "list", data := .seq ([] : List Value).toArray } := Heap.get?_push_size _ rfl
  refine wpAny_bind ?_
  show wpAny _ A.in1 (updateSeq s5.heap.objs.size (·.push .none) >>= fun _ => updateSeq s5.heap.objs.size (·.pop)) _ _ _
  refine wpAny_bind (wpAny_updateSeq hS₁ rfl ?_)
  have hS₂ := Heap.get?_update_self (Obj.mapSeq (·.push Value.none)) hS₁ rfl
  refine wpAny_updateSeq hS₂ rfl ?_
  have hS₃ := Heap.get?_update_self (Obj.mapSeq (·.pop)) hS₂ rfl
  obtain ⟨c3, hS₄⟩ : ∃ c, (((s5.heap.push { cls := .type "list", data := .seq ([] : List Value).toArray }).update s5.heap.objs.size (Obj.mapSeq (·.push Value.none))).update s5.heap.objs.size (Obj.mapSeq (·.pop))).get? s5.heap.objs.size = some (lstObj #[] c) := ⟨_, hS₃⟩
  have k3 : ∀ b o, s5.heap.get? b = some o → (((s5.heap.push { cls := .type "list", data := .seq ([] : List Value).toArray }).update s5.heap.objs.size (Obj.mapSeq (·.push Value.none))).update s5.heap.objs.size (Obj.mapSeq (·.pop))).get? b = some o :=
    fun b o e => (Heap.get?_update_other _ _ (Ne.symm (Nat.ne_of_lt (Heap.lt_size e)))).trans ((Heap.get?_update_other _ _ (Ne.symm (Nat.ne_of_lt (Heap.lt_size e)))).trans (k1 b o e))
  have fS : FpOk (gblk X A' s_0 H_0 cenv fp) [(ga, go)] H4 s5.heap.objs.size := I5.fpOk (Nat.le_refl _) (I5.hok.fresh (Nat.le_refl _))
  have hfS : ∀ b ∈ fp, b ≠ s5.heap.objs.size := fun b hb => Nat.ne_of_lt (Nat.lt_trans (hlt b hb) glt)
  have I6 := inv_moved (s' := { s5 with heap := ((s5.heap.push { cls := .type "list", data := .seq ([] : List Value).toArray }).update s5.heap.objs.size (Obj.mapSeq (·.push Value.none))).update s5.heap.objs.size (Obj.mapSeq (·.pop)) }) I5 rfl I5.bare k3
  refine wpAny_pure ⟨plainId_quiet F.plain_extend_loop _, ext_gx (A := A) (A' := A') (s_0 := s_0) (H_0 := H_0) (cenv := cenv) (fp := fp) (tn := tn) (go := go) (gn := gn) (End := End) hh hroom hGO hSI ?_ fS.2.2.2.2.1 keep hfS
    (fun σ' H' ys acc c s1 I1 rv q => ?_) (m + 1) _ I6.nolimit (k3 _ _ pin5.1) ⟨gs, hgs, ?_⟩⟩
  · exact Nat.le_trans I5.sz (Nat.le_refl _)
  · show wpAny _ A (load s5.heap.objs.size >>= _) _ _ s1
    have pS := (I1.pin (s5.heap.objs.size, lstObj acc c) (List.mem_append_right _ (List.mem_cons_of_mem _ List.mem_cons_self))).1
    refine wpAny_bind (wpAny_load pS ?_)
    exact wpAny_pure (hQ s1 acc ys H' (back _ _ _ _ I1) rv q)
  · refine goes (List V) (ACl ga go s5.heap.objs.size) End YdL W m (m + 1) [] [(ga, go), (s5.heap.objs.size, lstObj #[] c3)] _ turn w0 (Nat.lt_succ_self _) (fun ys cp hac p hp b hb z => ?_) ⟨#[], c3, rfl, .nil⟩
      (inv_moved (I6.pins_of fun p hp => ?_) rfl (allBare_setGen (s := { s5 with heap := _ }) I5.bare rfl) fun _ _ q => q) (keep _ _ _ st5 fun b hb o q => k3 b o q)
    · obtain ⟨acc, c, rfl, _⟩ := hac
      rcases List.mem_cons.mp hp with e | e
      · rw [e] at z
        exact absurd (hlt b hb) (by rw [← z]; exact Nat.lt_irrefl _)
      · rw [List.mem_singleton.mp e] at z
        exact hfS b hb z.symm
    · rcases List.mem_cons.mp hp with e | e
      · rw [e]
        exact I6.pin (ga, go) (List.mem_append_right _ List.mem_cons_self)
      · rw [List.mem_singleton.mp e]
        exact ⟨hS₄, fS.1, fS.2.1, fS.2.2.1, fun v q => by cases q⟩
end
section
variable {X : Cx}
/-- tuple(elt for tg in iter ..) -/
def tTupX (P : Addr) (wi : TI) (g : TG) (tt : TT) (te : TE) (vs : List Nat) : TE := fun σ H Q => wi σ H fun J H1 => GxR.TabG H1 P ∧ ∀ H2, GxR.Tabbed P H1 H2 → ∃ W : Nat → Nat → List V → Hp → Prop, (∃ m, W 0 m [] H2) ∧
  tGx J g tt te (wipe σ vs) vs (fun ys H => ys.length ≤ sizeLine ∧ ∀ p, H p = none → Q (.ref p) (upd H p (.tup ys))) YdL W
theorem pe_tupX {c P : Addr} {elt tg iter : Expr} {ifs : List Expr} {p pos gpos : Pos} {scope : Scope} {own : List (Str × Nat)} {wi : TI} {g : TG} {tt : TT} {te : TE} {k : Nat}
    (hr : Room (k + 1) X.A) (hc : X.calm = true) (hN : X.N.Nodup) (hgl : Gl X "tuple") (hm : X.mg "tuple" = none) (hb : bootBuiltins "tuple" = some (.type "tuple")) (TB : GxR.TabB X.base X.mg c P) (hcode : X.env.code = .ref c)
    (hco : scope.isCoroutine = false) (hdot : scope.names.lookup (".0" : Str) = some NameKind.local) (nocell : ∀ y ∈ scope.names, y.2 ≠ .cell) (ok : BlkOk X.N X.env.scope scope own) (hi : PI X tg iter wi)
    (hg : ∀ (A' : Around) (s : Shared) (H : Hp) (C : Addr) (cl : List (Str × Addr)) (code : Value) (fp : List Addr), Room k A' → A'.guards = X.A.guards → PG (gblk X A' s H (genEnv scope cl C code builtinsNs X.env) fp) tg g)
    (ht : ∀ (A' : Around) (s : Shared) (H : Hp) (C : Addr) (cl : List (Str × Addr)) (code : Value) (fp : List Addr), Room k A' → A'.guards = X.A.guards → PTs (gblk X A' s H (genEnv scope cl C code builtinsNs X.env) fp) ifs tt)
    (he : ∀ (A' : Around) (s : Shared) (H : Hp) (C : Addr) (cl : List (Str × Addr)) (code : Value) (fp : List Addr), Room k A' → A'.guards = X.A.guards → PE (gblk X A' s H (genEnv scope cl C code builtinsNs X.env) fp) elt te)
    (hs : ∀ v, genFold iter X.env v = pure v)
    (hst : starEach [.GeneratorExp elt [⟨tg, iter, ifs, 0⟩] scope gpos] X.env = (false, eval (.GeneratorExp elt [⟨tg, iter, ifs, 0⟩] scope gpos) X.env) :: starEach [] X.env := by rfl) :
    PE X (.Call (.Name "tuple" p) [.GeneratorExp elt [⟨tg, iter, ifs, 0⟩] scope gpos] [] pos) (tTupX P wi g tt te (own.map (·.2))) := by
  refine ⟨fun pins s σ H Q I h => ?_⟩
  refine wpAny_Call_Name_kw (ld_blt I hgl hm hb ?_)
  refine PyProof.Rows.callWith_type1 ?_ hst (by rfl)
  rw [hst]
  show wpAny _ _ (spliced ((false, eval (.GeneratorExp elt [⟨tg, iter, ifs, 0⟩] scope gpos) X.env) :: backTo pos (starEach [] X.env))) _ _ s
  refine Calls.spliced_cons (gx_make (A := X.A.in1.in1.in1.in1) hr ⟨rfl, rfl, rfl, rfl, (by show X.A.units + 1 + 1 + 1 + 1 ≤ _; omega)⟩ hc hN TB hcode hco hdot nocell ok hi hg ht he hs I h fun J H1 H2 u s5 hR hT hG => ?_)
  obtain ⟨W, ⟨m, w0⟩, turn⟩ := hR H2 hT
  refine Calls.spliced_nil ?_
  have ⟨A', s_0, H_0, cenv, fp, ga, gn, go, tn, gs, eu, hGO, hgs, hbare, I5, st5, nf, hlt, keep, back, goes⟩ := hG
  have pin5 := (I5.pin (ga, go) (List.mem_append_right _ List.mem_cons_self)).1
  rw [eu] at hG ⊢
  refine callType_codes (Q₁ := fun obj s₁ => s₁.TypeIs obj "tuple" ∧ EP X pins σ Q obj s₁) F.called_tuple (F.typeCall_tuple_1 _) F.entry_object_init ?_ fun obj s₁ h₁ =>
    ⟨h₁.1, F.args_object_init_2 obj _, object_init_meets F.called_tuple.init.lookup F.called_tuple.made (by decide) X.prog X.w X.A.in1 _ s₁ ⟨h₁.1, rfl, h₁.2⟩⟩
  refine codeAny_of_tree ?_
  show wpAny _ X.A.in1.in1 (do checkBuiltinCall "tuple.__new__" ⟨[.type "tuple", .ref ga], []⟩; again (.builtin "tuple.__new__" ⟨[.type "tuple", .ref ga], []⟩)) _ _ s5
  refine wpAny_bind (wpAny_of_eq (F.newCall_tuple_1 _) (wpAny_pure ⟨plainId_quiet F.plain_tuple_new _, codeAny_builtin F.entry_tuple_new ?_⟩))
  rw [Around.under_plainId F.plain_tuple_new _]
  have hsub := sub_tuple_self
  have hinit := init_tuple_lookup
  have hmh := madeHere_tuple
  have hTI : s5.TypeIs (.ref ga) "generator" := (hGO.isGen pin5).typeIs
  have col : ∀ {Q0 : List Value → Shared → Prop} {E0 : Value → Shared → Prop}, (∀ (s' : Shared) (acc : Array Value), (∃ (ys : List V) (H' : Hp), Inv X pins σ H' s' ∧ Vals ys acc.toList ∧ ys.length ≤ sizeLine ∧ ∀ p, H' p = none → Q (.ref p) (upd H' p (.tup ys))) → Q0 acc.toList s') →
      wpAny (model X.prog X.w) X.A.in1.in1 (collect (.ref ga)) Q0 E0 s5 := fun hq => collect_gx hr.hd hr.depth hG w0 turn (fun s' acc ys H' I' rv q => hq s' acc ⟨ys, H', I', rv, q.1, q.2⟩)
  wp_walk using wpAny_typeOf hTI, col
  rintro s' acc ⟨ys, H', I', rv, small, q⟩
  show wpAny _ _ (Builtin.Tuple.tupleExact acc.toList.toArray >>= fun v => ret v) _ _ _
  unfold Builtin.Tuple.tupleExact
  refine wpAny_bind (wpAny_newObj_type ?_ (by show acc.toList.toArray.size ≤ sizeLine; rw [List.size_toArray, ← rv.length]; exact small))
  refine wpAny_pure ?_
  have free : H' s'.heap.objs.size = none := I'.hok.fresh (Nat.le_refl _)
  refine ⟨⟨_, Heap.get?_push_size _ rfl, rfl⟩, .ref s'.heap.objs.size, upd H' s'.heap.objs.size (.tup ys), I'.laid (t' := s'.toks) (fun b u z => Heap.get?_push_of_some _ z) (Nat.le_refl _) ⟨small, acc.toList, rv, ?_⟩, rfl, q _ free⟩
  exact ⟨_, Heap.get?_push_size _ rfl, rfl, 0, rfl⟩
end
/-! ### a def by its body, its code object known -/
theorem okC {P : Program} {w : World} {K : PySem.W.Frag} {mg : Str → Option Value} {base : Heap} {x qual : Str} {st : Stmt} {f : Addr} {fd : FuncData} {N ps : List Str} {k : Nat} {sp : Sp} (F : Fun K x qual st f fd) (S : FnScope N ps (defScope st)) (len : ∀ vs H Q E, sp vs H Q E → vs.length = ps.length)
    (body : ∀ (A : Around) (outer : List Env) (s : Shared) (H : Hp) (vs : List V) (Q : VK) (E : XK), Room k (A.deeper (envOfC qual (defScope st) s.heap.objs.size f fd.code)) → sp vs H Q E →
      ∃ t, PSs (cxOf CX0 P w K mg base N qual (defScope st) f fd.code A outer s H E).nox (defBody st) t ∧ t { nx := fun _ H' => Q .non H', rt := Q } (start N vs) H) : FnOk P w K mg base CX0 (k + 1) f fd ps sp := by
  obtain ⟨oc, od, kV, doc, pm, an, cdv, ct, osl, rfl, lk, hcd⟩ := F.ex
  refine fn_of lk hcd S len fun A outer s H vs Q E hr hsp => ?_
  obtain ⟨t, h, q⟩ := body A outer s H vs Q E hr hsp
  exact ⟨t, h.nox, q⟩
/-! ### from the head's facts -/
theorem fun_of {K : PySem.W.Frag} {x qual : Str} {st : Stmt} {f : Addr} {fd : FuncData} (F : FunD K x qual (defArgs st) (defBody st) (defScope st) [] [] f fd) : Fun K x qual st f fd := by
  obtain ⟨oc, od, dV, kV, doc, pm, an, cdv, ct, osl, rfl, lk, hcd, hd, _⟩ := F.ex
  rcases hd with ⟨_, rfl⟩ | ⟨z, _⟩
  · exact ⟨⟨oc, od, kV, doc, pm, an, cdv, ct, osl, rfl, lk, hcd⟩, F.kp⟩
  · exact absurd rfl z
theorem code_of {K : PySem.W.Frag} {x qual : Str} {st : Stmt} {p : He.Defn} {fd : FuncData} (F : Fun K x qual st (He.fAd K p) fd) : fd.code = .ref (He.cT K p).1 := by
  obtain ⟨oc, od, kV, doc, pm, an, cdv, ct, osl, rfl, lk, hcd⟩ := F.ex
  obtain ⟨c, rfl⟩ := He.codeIn_ref hcd
  show Value.ref c = Value.ref (He.codeOf K p)
  rw [He.codeOf_eq lk rfl]
theorem tab_of {base : Heap} {mg : Str → Option Value} {c P : Addr} (h : LamX.TabB base mg c P) : GxR.TabB base mg c P := ⟨h.code, h.bm, h.gP⟩
/-! ### heaps whose tables grow -/
def Tabs (H : Hp) (Ps : List Addr) : Prop := ∀ P ∈ Ps, GxR.TabG H P
/-- what is no table stays; tables stay tables -/
def Gr (H H' : Hp) : Prop := (∀ b o, (∀ ps, o ≠ HO.tbl ps) → H b = some o → H' b = some o) ∧ ∀ b, GxR.TabG H b → GxR.TabG H' b
theorem Gr.refl {H : Hp} : Gr H H := ⟨fun _ _ _ e => e, fun _ e => e⟩
theorem Gr.trans {H H1 H2 : Hp} (a : Gr H H1) (b : Gr H1 H2) : Gr H H2 := ⟨fun c o n e => b.1 c o n (a.1 c o n e), fun c e => b.2 c (a.2 c e)⟩
theorem Gr.of {H H' : Hp} (h : ∀ b o, H b = some o → H' b = some o) : Gr H H' := ⟨fun b o _ e => h b o e, fun b ⟨ps, e, t⟩ => ⟨ps, h _ _ e, t⟩⟩
theorem Gr.tab {P : Addr} {H H' : Hp} (t : GxR.TabG H P) (h : GxR.Tabbed P H H') : Gr H H' := by
  obtain ⟨ps, e, _⟩ := t
  refine ⟨fun b o n q => ?_, fun b q => ?_⟩
  · by_cases hb : b = P
    · rw [hb, e] at q
      exact absurd (Option.some.inj q).symm (n ps)
    · rw [h.2 b hb]; exact q
  · by_cases hb : b = P
    · rw [hb]; exact h.1
    · obtain ⟨ps', e', t'⟩ := q
      exact ⟨ps', by rw [h.2 b hb]; exact e', t'⟩
theorem Gr.tup {H H' : Hp} (g : Gr H H') {a : Addr} {xs : List V} (h : H a = some (.tup xs)) : H' a = some (.tup xs) := g.1 a _ (fun _ z => by cases z) h
theorem Gr.lst {H H' : Hp} (g : Gr H H') {a : Addr} {xs : List V} (h : H a = some (.lst xs)) : H' a = some (.lst xs) := g.1 a _ (fun _ z => by cases z) h
theorem Gr.tabs {H H' : Hp} (g : Gr H H') {Ps : List Addr} (h : Tabs H Ps) : Tabs H' Ps := fun P hP => g.2 P (h P hP)
theorem Gr.none {H : Hp} {a : Addr} {o : HO} (n : H a = Option.none) : Gr H (upd H a o) := Gr.of fun b u e => by
  rw [upd_ne (ne_of_none e n)]
  exact e
namespace CwR
/-- behind it a token is out -/
def PEp (X : Cx) (e : Expr) (t : TE) : Prop := ∀ (pins : List (Addr × Obj)) (s : Shared) (σ : L2.St) (H : Hp) (Q : VK), Inv X pins σ H s → t σ H Q → wpAny (model X.prog X.w) X.A (eval e X.env) (fun u s' => 1 ≤ s'.toks ∧ EP X pins σ Q u s') X.xe s
theorem pep_ix {X : Cx} {a : Expr} {i : Int} {j : Nat} {p pos : Pos} {ta : TE} {r : R2} (hr : IxR X r) (ha : PE X a ta) (hs : PlainIx (.Constant (.int i) j p)) : PEp X (.Subscript a (.Constant (.int i) j p) pos) (tOp r ta (tC (.int i))) := by
  intro pins s σ H Q I h
  refine Subscript_ (thn (ha.run pins s σ H _ I h) fun v s1 ⟨x, H1, I1, r1, q1⟩ => wpAny_Constant_int ?_)
  refine wpAny_mono (PySem.wpAny_toks (hr a _ pins { s1 with toks := s1.toks + 1 } σ H1 x (.int i) v (.int i s1.toks) Q (I1.tok _) r1 ⟨_, rfl⟩ q1 (hs _ _))) (fun u s2 q => ⟨?_, q.2⟩) fun _ _ z => z.2
  have h1 : s1.toks + 1 ≤ s2.toks := q.1
  omega
theorem pep_repl {X : Cx} {o : Expr} {to : TE} {y z : Str} {j k : Nat} {c0 c1 apos pos : Pos} (ho : PEp X o to) (hyz : (y == z) = false := by decide)
    (hst : starEach [.Constant (.str y) j c0, .Constant (.str z) k c1] X.env = [(false, eval (.Constant (.str y) j c0) X.env), (false, eval (.Constant (.str z) k c1) X.env)] := by rfl)
    (hbase : attributeBase o "replace" X.env (eval o X.env) = eval o X.env := by rfl) (hline : (apos.endLine == pos.line) = true := by rfl) :
    PEp X (.Call (.Attribute o "replace" apos) [.Constant (.str y) j c0, .Constant (.str z) k c1] [] pos) (CwR.tReplC to y z) := by
  intro pins s σ H Q I h
  refine PySem.Call_method2 hbase hst hline (wpAny_mono (ho pins s σ H _ I h) (fun v s1 q => ?_) fun _ _ z => z)
  obtain ⟨hk, v', H1, I1, r1, x, e1, hb, q⟩ := q
  subst e1
  obtain ⟨tx, e2⟩ := r1
  subst e2
  refine ⟨"str", _, PySem.F.plainAttrs_str, PySem.F.slot_str_replace, PySem.F.type_str_replace, typeIs_str _ _ _, (fun _ e => nomatch e), Calls.callWith_builtin rfl (Calls.evalArgs_plain (Calls.spliced_cons ?_))⟩
  refine Calls.Constant_str (Calls.spliced_cons (Calls.Constant_str (Calls.spliced_nil ?_)))
  refine wpAny_mono (PySem.wpAny_toks (PySem.SC.replace (Q := fun u s' => EP X pins σ Q u s') (by show s1.toks ≠ 0; omega) (by show s1.toks + 1 ≠ 0; omega) (by show s1.toks ≠ s1.toks + 1; omega) hyz hb fun t' k => ⟨.str (Txt.replace x y z), H1, I1.tok k, ⟨t', rfl⟩, q⟩)) (fun u s2 q => ⟨?_, q.2⟩) fun _ _ z => z.2
  have h1 : s1.toks + 1 + 1 ≤ s2.toks := q.1
  omega
theorem pe_replP {X : Cx} {e : Expr} {t : TE} (h : PEp X e t) : PE X e t := ⟨fun pins s σ H Q I q => wpAny_mono (h pins s σ H Q I q) (fun _ _ z => z.2) fun _ _ z => z⟩
end CwR

/-! ### heaps -/
theorem same_upd {H : Hp} {p : Addr} {o : HO} (h : H p = none) : Same H (upd H p o) := fun b x e => by
  rw [upd_ne (ne_of_none e h)]
  exact e
def Fr (d l : Addr) (H H' : Hp) : Prop := ∀ b o, b ≠ d → b ≠ l → H b = some o → H' b = some o
theorem Fr.trans {d l : Addr} {H H1 H2 : Hp} (a : Fr d l H H1) (b : Fr d l H1 H2) : Fr d l H H2 := fun c o h1 h2 h => b c o h1 h2 (a c o h1 h2 h)
theorem Fr.refl {d l : Addr} {H : Hp} : Fr d l H H := fun _ _ _ _ h => h
theorem Fr.new {d l p : Addr} {H : Hp} {o : HO} (h : H p = none) : Fr d l H (upd H p o) := fun b x _ _ e => same_upd h b x e
theorem Fr.of {d l : Addr} {H H' : Hp} (h : Same H H') : Fr d l H H' := fun b x _ _ e => h b x e
theorem Fr.d {d l : Addr} {H : Hp} {o : HO} : Fr d l H (upd H d o) := fun b x h1 _ e => by rw [upd_ne h1]; exact e
theorem Fr.l {d l : Addr} {H : Hp} {o : HO} : Fr d l H (upd H l o) := fun b x _ h2 e => by rw [upd_ne h2]; exact e
def Deck (H : Hp) (d l : Addr) : Prop := d ≠ l ∧ ∃ (cs : List Int) (z : Int), H d = some (.lst [.ref l, .int z]) ∧ H l = some (.lst (cs.map V.int)) ∧ cs.length ≤ 63 ∧ 0 ≤ z ∧ z < 4294967296
theorem Deck.same {H H' : Hp} {d l : Addr} (D : Deck H d l) (s : Same H H') : Deck H' d l := by
  obtain ⟨ne, cs, z, hd, hl, r⟩ := D
  exact ⟨ne, cs, z, s _ _ hd, s _ _ hl, r⟩
theorem Deck.new {H : Hp} {d l p : Addr} {o : HO} (D : Deck H d l) (h : H p = none) : Deck (upd H p o) d l := D.same (same_upd h)
theorem Deck.ne_new {H : Hp} {d l p : Addr} (D : Deck H d l) (h : H p = none) : p ≠ d ∧ p ≠ l := by
  obtain ⟨ne, cs, z, hd, hl, r⟩ := D
  exact ⟨(ne_of_none hd h).symm, (ne_of_none hl h).symm⟩
theorem p29 : (0 : Int) < 2147483629 := by decide
theorem p47 : (0 : Int) < 2147483647 := by decide
theorem p87 : (0 : Int) < 2147483587 := by decide
theorem sl1 : 1 ≤ sizeLine := by decide
theorem sl2 : 2 ≤ sizeLine := by decide
theorem sl3 : 3 ≤ sizeLine := by decide
theorem sl4 : 4 ≤ sizeLine := by decide
theorem seqIx0 {α : Type} (x : α) (xs : List α) : seqIndex? 0 (x :: xs).length = some 0 := by
  refine (ixN_seq (n := (x :: xs).length) (i := 0) (j := 0) ?_).1
  unfold ixN
  rw [if_pos (by decide), if_pos (by rw [List.length_cons]; omega)]
  rfl
theorem dpInts {K : PySem.W.Frag} {H : Hp} : ∀ cs : List Int, DpAll K H (cs.map V.int) (cs.map PyData.int)
  | [] => .nil
  | c :: r => .cons (.int c) (dpInts r)
theorem shInts (ns : List Int) : SeqAt.shaped (.list (ns.map PyData.int)) = true := by
  unfold SeqAt.shaped
  rw [Bool.and_eq_true]
  refine ⟨?_, ?_⟩
  · simp only [PyData.canLay0, canLayAll_ints]
  · simp only [PyData.depth, depthAll_ints]
    decide
theorem at_pick {xs : List V} {j : Int} (h0 : 0 ≤ j) (h1 : j < xs.length) : ∃ x, atI xs j = some x ∧ x ∈ xs := by
  obtain ⟨k, rfl⟩ : ∃ k : Nat, j = (k : Int) := ⟨j.toNat, (Int.toNat_of_nonneg h0).symm⟩
  have hk : k < xs.length := by omega
  exact ⟨xs[k], atI_nat (List.getElem?_eq_getElem hk), List.getElem_mem hk⟩
theorem units65 {k : Nat} {A : Around} (r : Room k A) : A.units + 65 < cLine := by have := r.un; omega
def rLenK (K : PySem.W.Frag) : List V → Hp → VK → Prop := fun xs H Q => ∃ p ys, xs = [.ref p] ∧ (SqL K H p ys ∨ SqT K H p ys) ∧ Q (.int ys.length) H
def rTupK (K : PySem.W.Frag) : List V → Hp → VK → Prop := fun xs H Q => ∃ p ys, xs = [.ref p] ∧ ((SqL K H p ys ∧ ∀ l, H l = none → Q (.ref l) (upd H l (.tup ys))) ∨ (SqT K H p ys ∧ Q (.ref p) H))
def rLstK (K : PySem.W.Frag) : List V → Hp → VK → Prop := fun xs H Q => ∃ p ys, xs = [.ref p] ∧ (SqL K H p ys ∨ SqT K H p ys) ∧ ∀ l, H l = none → Q (.ref l) (upd H l (.lst ys))
/-- joining ways behind a test, behind an expression -/
def tCutT (t : TT) : TT := fun σ H Q => ∃ Mid : Bool → Hp → Prop, t σ H Mid ∧ ∀ b H1, Mid b H1 → Q b H1
theorem pt_cut {X : Cx} {e : Expr} {t : TT} (h : PT X e t) : PT X e (tCutT t) := ⟨fun pins s σ H Q I hw => by
  obtain ⟨Mid, h1, q⟩ := hw
  exact thn (h.run pins s σ H _ I h1) fun c s1 ⟨H1, I1, m⟩ => ⟨H1, I1, q _ _ m⟩⟩
def tCutE (t : TE) : TE := fun σ H Q => ∃ Mid : VK, t σ H Mid ∧ ∀ v H1, Mid v H1 → Q v H1
theorem pe_cut {X : Cx} {e : Expr} {t : TE} (h : PE X e t) : PE X e (tCutE t) := ⟨fun pins s σ H Q I hw => by
  obtain ⟨Mid, h1, q⟩ := hw
  exact thn (h.run pins s σ H _ I h1) fun u s1 ⟨v, H1, I1, r, m⟩ => ⟨v, H1, I1, r, q _ _ m⟩⟩

/-! ### defs called where nothing is being shown (so that repr tells what stands there) -/
structure FnG (P : Program) (w : World) (K : PySem.W.Frag) (mg : Str → Option Value) (bs : Heap) (CX : CXT) (k : Nat) (f : Addr) (fd : FuncData) (ps : List Str) (sp : Sp) : Prop where
  many : ∀ vs H Q E, sp vs H Q E → vs.length = ps.length
  go : ∀ A : Around, A.guards = some [] → Room k A → ∀ (fr : List Env) (s : Shared) (H : Hp) (ar : Args) (us : List Value) (vs : List V) (Q : VK) (E : XK), Env0 P w K mg bs A fr s H → BindsTo s fd ar (ps.zip us) → Vals vs us → sp vs H Q E → codeAny (model P w) A (.call (.ref f) ar) (CR CX fr P w H s Q E) s
theorem FnG.of {P : Program} {w : World} {K : PySem.W.Frag} {mg : Str → Option Value} {bs : Heap} {CX : CXT} {k : Nat} {f : Addr} {fd : FuncData} {ps : List Str} {sp : Sp} (F : FnOk P w K mg bs CX k f fd ps sp) : FnG P w K mg bs CX k f fd ps sp :=
  ⟨F.len, fun A _ room fr s H ar us vs Q E e0 b r h => F.run A fr s H ar us vs Q E room e0 b r h⟩
theorem okG {CX : CXT} {P : Program} {w : World} {K : PySem.W.Frag} {mg : Str → Option Value} {bs : Heap} {x qual : Str} {st : Stmt} {f : Addr} {fd : FuncData} {N ps : List Str} {k : Nat} {sp : Sp} (F : Fun K x qual st f fd) (S : FnScope N ps (defScope st))
    (many : ∀ vs H Q E, sp vs H Q E → vs.length = ps.length)
    (body : ∀ (cdv : Value) (A : Around) (fr : List Env) (s : Shared) (H : Hp) (vs : List V) (Q : VK) (E : XK), A.guards = some [] → Room k (A.deeper (envOfC qual (defScope st) s.heap.objs.size f cdv)) → sp vs H Q E →
      ∃ t, PSs (cxOf CX P w K mg bs N qual (defScope st) f cdv A fr s H E) (defBody st) t ∧ t ⟨fun _ H' => Q .non H', Q, fun _ _ => False, fun _ _ => False⟩ (start N vs) H) : FnG P w K mg bs CX (k + 1) f fd ps sp := by
  obtain ⟨oc, od, kV, doc, pm, an, cdv, ct, osl, rfl, lk, code⟩ := F.ex
  refine ⟨many, fun A nothing room fr s H ar us vs Q E e0 bound rel told => ?_⟩
  have stays : ∀ b o, bs.get? b = some o → s.heap.get? b = some o := fun b o z => (e0.bs b o z).1
  have inK : K.In s.heap := e0.mod.kin.keeps stays
  have places : ∀ y ∈ ps.zip us, (defScope st).names.lookup y.1 = some .local ∨ ((defScope st).names.lookup y.1 = some .cell ∧ ((cellsFrom (s.heap.objs.size + 1) (defScope st).names []).lookup y.1).isSome = true) := by
    rintro ⟨n, v⟩ hy
    exact (S.par n (List.of_mem_zip hy).1).imp id fun c => ⟨c, PySem.W.cellsFrom_some _ _ _ (Or.inl c)⟩
  refine codeAny_call_function room.depth (inK _ _ lk) rfl S.co S.gen rfl (PySem.W.codeRec_of inK code) (bound _ _ _ _
    (wpAny_newFunctionEnv_cells S.kind places fun env he s1 made => ?_))
  subst he
  obtain ⟨t, runs, holds⟩ := body cdv A fr s H vs Q E nothing (room.deeper _) told
  refine ⟨(e0.mod.nolimit.keeps stays).keeps made.toInCall.keep, codeAny_func (wpAny_mono (runs.run [] s1 (start N vs) H _ (inv_start S room.hd e0 (many _ _ _ _ told) rel made) holds) (fun fl s2 z => ?_) fun _ _ z => z)⟩
  match fl, z with
  | .ret _, ⟨v, _, H', J, rv, q⟩ => exact ⟨v, H', J.os, J.bare, J.base, J.hok, rv, q⟩
  | .next, ⟨_, H', J, q⟩ => exact ⟨V.non, H', J.os, J.bare, J.base, J.hok, rfl, q⟩
  | .brk, ⟨_, _, _, q⟩ => exact q.elim
  | .cont, ⟨_, _, _, q⟩ => exact q.elim
theorem okG0 {P : Program} {w : World} {K : PySem.W.Frag} {mg : Str → Option Value} {bs : Heap} {x qual : Str} {st : Stmt} {f : Addr} {fd : FuncData} {N ps : List Str} {k : Nat} {sp : Sp} (F : Fun K x qual st f fd) (S : FnScope N ps (defScope st))
    (many : ∀ vs H Q E, sp vs H Q E → vs.length = ps.length)
    (body : ∀ (cdv : Value) (A : Around) (fr : List Env) (s : Shared) (H : Hp) (vs : List V) (Q : VK) (E : XK), A.guards = some [] → Room k (A.deeper (envOfC qual (defScope st) s.heap.objs.size f cdv)) → sp vs H Q E →
      ∃ t, PSs (cxOf CX0 P w K mg bs N qual (defScope st) f cdv A fr s H E).nox (defBody st) t ∧ t ⟨fun _ H' => Q .non H', Q, fun _ _ => False, fun _ _ => False⟩ (start N vs) H) : FnG P w K mg bs CX0 (k + 1) f fd ps sp :=
  okG F S many fun cdv A fr s H vs Q E g r h => by
    obtain ⟨t, p, q⟩ := body cdv A fr s H vs Q E g r h
    exact ⟨t, p.nox, q⟩
section
variable {X : Cx} {CX : CXT} {k : Nat} {f : Addr} {fd : FuncData} {ps : List Str} {sp : Sp} {ds : List Value} {dvs : List V} {E : XK}
theorem runG {pins : List (Addr × Obj)} {σ : L2.St} {H : Hp} {s : Shared} {Q : VK} {us : List Value} {vs : List V} (F : FnG X.prog X.w X.K X.mg X.base CX k f fd ps sp) (nothing : X.A.guards = some []) (room : Room k X.A) (hb : Binds X.K fd ps ds)
    (hd : Vals dvs ds) (out : Passes CX X E) (I : Inv X pins σ H s) (r : Vals vs us) (told : sp (vs ++ dvs) H Q E) : wpAny (model X.prog X.w) X.A (call (.ref f) us) (EP X pins σ Q) X.xe s := by
  have rel : Vals (vs ++ dvs) (us ++ ds) := r.append hd
  have size : (us ++ ds).length = ps.length := rel.length ▸ F.many _ _ _ _ told
  refine wpAny_call (codeAny_mono (F.go X.A nothing room X.stack s H _ _ _ Q E I.env0 (hb s us I.kIn size) rel told) fun res s2 z => ?_)
  match res, z with
  | .error e, z => exact out pins σ H s e s2 I z
  | .ok (.ret u), z => exact I.after z
  | .ok .next, z => exact z.elim
  | .ok .brk, z => exact z.elim
  | .ok .cont, z => exact z.elim
theorem pe_callG {x : Str} {p pos : Pos} {e : Expr} {es : List Expr} {t : TA} (F : FnG X.prog X.w X.K X.mg X.base CX k f fd ps sp) (nothing : X.A.guards = some []) (room : Room k X.A) (hg : Gl X x) (hm : X.mg x = some (.ref f)) (kp : PySem.W.keepIn X.K (.ref f) = true)
    (hb : Binds X.K fd ps ds) (hd : Vals dvs ds) (out : Passes CX X E) (ha : PA X (e :: es) t) (nd : (x == ("__debug__" : Str)) = false := by decide) (he : starEach (e :: es) X.env = (false, eval e X.env) :: starEach es X.env := by rfl)
    (hpl : (backTo pos (starEach es X.env)).any (·.1) = false := by rfl) : PE X (.Call (.Name x p) (e :: es) [] pos) (tCall sp dvs E t) := by
  refine ⟨fun pins s σ H Q I told => wpAny_Call_Name_kw (ld_glob I hg hm ?_ nd)⟩
  refine PySem.W.callWith_K (h₀ := X.base) I.ok.mod.kin kp (thn (ha.run pos pins s σ H _ I told) ?_) he hpl
  rintro us s1 ⟨vs, H1, J, r, q⟩
  exact ⟨J.kIn, runG F nothing room hb hd out J r q⟩
end
/-! ### what is shown by repr: plain data, whose lists and dicts were made by the law -/
def kD : Key → PyData
  | .inl i => .int i
  | .inr x => .str x
mutual
inductive Sh (H : Hp) : V → PyData → Prop
  | non : Sh H .non .none
  | bl (b : Bool) : Sh H (.bl b) (.bool b)
  | int (i : Int) : Sh H (.int i) (.int i)
  | str (x : Str) : Sh H (.str x) (.str x)
  | lst {a : Addr} {xs : List V} {ds : List PyData} : H a = some (.lst xs) → a ≠ sysModules → ShAll H xs ds → Sh H (.ref a) (.list ds)
  | tup {a : Addr} {xs : List V} {ds : List PyData} : H a = some (.tup xs) → ShAll H xs ds → Sh H (.ref a) (.tuple ds)
  | dic {a : Addr} {kvs : List (Key × V)} {ds : List PyData} : H a = some (.dK kvs) → ShAll H (kvs.map (·.2)) ds → Sh H (.ref a) (.dict ((kvs.map fun kv => kD kv.1).zip ds))
inductive ShAll (H : Hp) : List V → List PyData → Prop
  | nil : ShAll H [] []
  | cons {v : V} {vs : List V} {d : PyData} {ds : List PyData} : Sh H v d → ShAll H vs ds → ShAll H (v :: vs) (d :: ds)
end
theorem ShAll.length {H : Hp} : ∀ {vs : List V} {ds : List PyData}, ShAll H vs ds → vs.length = ds.length
  | _, _, .nil => rfl
  | _, _, .cons _ t => by rw [List.length_cons, List.length_cons, t.length]
mutual
theorem Sh.same {H H' : Hp} (s : Same H H') : ∀ {v : V} {d : PyData}, Sh H v d → Sh H' v d
  | _, _, .non => .non
  | _, _, .bl b => .bl b
  | _, _, .int i => .int i
  | _, _, .str x => .str x
  | _, _, .lst h n t => .lst (s _ _ h) n (t.same s)
  | _, _, .tup h t => .tup (s _ _ h) (t.same s)
  | _, _, .dic h t => .dic (s _ _ h) (t.same s)
theorem ShAll.same {H H' : Hp} (s : Same H H') : ∀ {vs : List V} {ds : List PyData}, ShAll H vs ds → ShAll H' vs ds
  | _, _, .nil => .nil
  | _, _, .cons h t => .cons (h.same s) (t.same s)
end
/-- the name of the class of such data -/
def tyD : PyData → String
  | .none => "NoneType"
  | .bool _ => "bool"
  | .int _ => "int"
  | .str _ => "str"
  | .list _ => "list"
  | .tuple _ => "tuple"
  | .dict _ => "dict"
theorem Sh.ty {K : PySem.W.Frag} {H : Hp} {v : V} {d : PyData} (h : Sh H v d) : TyX K H v (.type (tyD d)) := by
  cases h with
  | non => exact .base .non
  | bl b => exact .base (.bl b)
  | int i => exact .base (.int i)
  | str x => exact .base (.str x)
  | lst h _ _ => exact .base (.lst h)
  | tup h _ => exact .base (.tup h)
  | dic h _ => exact .base (.dK h)
section
variable {X : Cx} {pins : List (Addr × Obj)} {σ : L2.St} {H : Hp} {s : Shared}
theorem pairs_keys {P : Program} {w : World} {h : Heap} : ∀ {es : List DictEntry} {kvs : List (Key × Value)}, Pairs (mixKind P w) es kvs → ReadsAll h (es.map (·.key)) (kvs.map fun kv => kD kv.1) []
  | _, _, .nil => .nil
  | _, _, .cons (kv := kv) hk _ t => by
    have r := pairs_keys (h := h) t
    rcases keyIs_shape (k := kv.1) hk with ⟨i, u, e1, e2⟩ | ⟨x, u, e1, e2⟩
    · rw [List.map_cons, List.map_cons, e1, e2]
      exact ReadsAll.cons (as := []) (.int i u) r
    · rw [List.map_cons, List.map_cons, e1, e2]
      exact ReadsAll.cons (as := []) (.str x u) r
theorem pairs_vals {P : Program} {w : World} : ∀ {es : List DictEntry} {kvs : List (Key × Value)}, Pairs (mixKind P w) es kvs → es.map (·.val) = kvs.map (·.2)
  | _, _, .nil => rfl
  | _, _, .cons _ hv t => by rw [List.map_cons, List.map_cons, hv, pairs_vals t]
theorem kv_rel : ∀ {kvs : List (Key × V)} {vs : List (Key × Value)}, KV kvs vs → kvs.map (·.1) = vs.map (·.1) ∧ Vals (kvs.map (·.2)) (vs.map (·.2))
  | _, _, .nil => ⟨rfl, .nil⟩
  | _, _, .cons h t => by
    obtain ⟨a, b⟩ := kv_rel t
    exact ⟨by rw [List.map_cons, List.map_cons, a, h.1], .cons h.2 b⟩
mutual
theorem Sh.reads (I : Inv X pins σ H s) : ∀ (v : V) (d : PyData) (u : Value), Sh H v d → RelV v u → ∃ as, Reads s.heap u d as ∧ sysModules ∉ as
  | _, _, _, .non, r => by cases r; exact ⟨_, .none, List.not_mem_nil⟩
  | _, _, _, .bl b, r => by cases r; exact ⟨_, .bool b, List.not_mem_nil⟩
  | _, _, _, .int i, r => by obtain ⟨t, rfl⟩ := r; exact ⟨_, .int i t, List.not_mem_nil⟩
  | _, _, _, .str x, r => by obtain ⟨t, rfl⟩ := r; exact ⟨_, .str x t, List.not_mem_nil⟩
  | _, _, _, .lst (a := a) (xs := xs) h n t, r => by
    cases r
    obtain ⟨_, its, c, rv, ho⟩ := (show ObjOk X.prog X.w H s.heap a (.lst xs) from I.hok a _ h)
    obtain ⟨as, q, m⟩ := ShAll.reads I _ _ its t rv
    exact ⟨_, .list ho rfl rfl (by simpa using q), fun z => (List.mem_cons.mp z).elim (fun e => n e.symm) m⟩
  | _, _, _, .tup (a := a) (xs := xs) h t, r => by
    cases r
    obtain ⟨_, its, rv, o, ho, hc, c, hd⟩ := (show ObjOk X.prog X.w H s.heap a (.tup xs) from I.hok a _ h)
    obtain ⟨as, q, m⟩ := ShAll.reads I _ _ its t rv
    exact ⟨_, .tuple ho hc hd (by simpa using q), m⟩
  | _, _, _, .dic (a := a) (kvs := kvs) (ds := ds) h t, r => by
    cases r
    obtain ⟨_, low, vs, rel, o, es, ep, ho, hx, hd, _, hp, _⟩ := (show ObjOk X.prog X.w H s.heap a (.dK kvs) from I.hok a _ h)
    obtain ⟨rk, rv⟩ := kv_rel rel
    obtain ⟨as, q, m⟩ := ShAll.reads I _ _ (vs.map (·.2)) t rv
    have k1 : (kvs.map fun kv => kD kv.1) = vs.map fun kv => kD kv.1 := by
      have := congrArg (List.map kD) rk
      rw [List.map_map, List.map_map] at this
      exact this
    have ln : (kvs.map fun kv => kD kv.1).length = ds.length := by
      have := t.length
      rw [List.length_map] at this
      rw [List.length_map, this]
    refine ⟨_, .dict (as := []) (bs := as) ho hx.1 hd ?_ ?_, ?_⟩
    · rw [List.map_fst_zip (Nat.le_of_eq ln), k1]
      exact pairs_keys hp
    · rw [List.map_snd_zip (Nat.le_of_eq ln.symm), pairs_vals hp]
      exact q
    · intro z
      rcases List.mem_cons.mp z with e | e
      · exact absurd low (by rw [← e]; simp)
      · exact m e
theorem ShAll.reads (I : Inv X pins σ H s) : ∀ (vs : List V) (ds : List PyData) (us : List Value), ShAll H vs ds → Vals vs us → ∃ as, ReadsAll s.heap us ds as ∧ sysModules ∉ as
  | _, _, _, .nil, r => by cases r; exact ⟨_, .nil, List.not_mem_nil⟩
  | _, _, _, .cons h t, r => by
    cases r with
    | cons r1 r2 =>
      obtain ⟨as, q1, m1⟩ := Sh.reads I _ _ _ h r1
      obtain ⟨bs, q2, m2⟩ := ShAll.reads I _ _ _ t r2
      exact ⟨_, .cons q1 q2, fun z => (List.mem_append.mp z).elim m1 m2⟩
end
end
def rRepr : List V → Hp → VK → Prop := fun xs H Q => ∃ x d, xs = [x] ∧ Sh H x d ∧ d.showable = true ∧ d.shown.length ≤ sizeLine ∧ d.depth ≤ 50 ∧ Q (.str d.shown) H
theorem call_repr {X : Cx} (nothing : X.A.guards = some []) (hu : X.A.units + 64 < cLine) : CallR X (.builtin "repr") rRepr := by
  intro pins s σ H xs us Q I r h
  obtain ⟨x, d, rfl, sh, able, fits, deep, q⟩ := h
  cases r with
  | @cons _ u _ _ r1 r2 =>
    cases r2
    obtain ⟨as, rd, low⟩ := Sh.reads I _ _ _ sh r1
    have fin : ∀ h' t tk, (∀ b o, s.heap.get? b = some o → h'.get? b = some o) → EP X pins σ Q (.str d.shown t) { s with heap := h', toks := tk } := fun h' t tk kept => ⟨.str d.shown, H, I.kept kept, ⟨t, rfl⟩, q⟩
    cases sh with
    | non => cases r1; exact PySem.P.repr_of_none (fin _ _ _ fun _ _ z => z)
    | bl b => cases r1; exact PySem.P.repr_of_bool (fin _ _ _ fun _ _ z => z)
    | int i => obtain ⟨t, rfl⟩ := r1; exact PySem.P.repr_of_int (of_decide_eq_true able) (fin _ _ _ fun _ _ z => z)
    | str x => obtain ⟨t, rfl⟩ := r1; exact PySem.P.repr_of_str (fin _ _ _ fun _ _ z => z) fits
    | lst _ _ _ => cases r1; exact repr_of_reads' rd able (fun _ => low) nothing (by omega) (fun _ _ z => z) fin fits
    | tup _ _ => cases r1; exact repr_of_reads' rd able (fun _ => low) nothing (by omega) (fun _ _ z => z) fin fits
    | dic _ _ => cases r1; exact repr_of_reads' rd able (fun _ => low) nothing (by omega) (fun _ _ z => z) fin fits
/-- a display's list is none of the interpreter's own -/
def tLstN (t : TA) : TE := fun σ H Q => t σ H fun xs H1 => xs.length ≤ sizeLine ∧ ∀ p, H1 p = none → p ≠ sysModules → Q (.ref p) (upd H1 p (.lst xs))
theorem pe_lstN {X : Cx} {es : List Expr} {t : TA} {pos : Pos} (h : PA X es t) : PE X (.List es pos) (tLstN t) := by
  refine ⟨fun pins s σ H Q I told => wpAny_List_spliced (thn (h.run pos pins s σ H _ I told) ?_)⟩
  rintro us s1 ⟨xs, H1, J, r, small, q⟩
  have free : H1 s1.heap.objs.size = none := J.hok.fresh (Nat.le_refl _)
  refine ⟨by rw [← r.length]; exact small, .ref s1.heap.objs.size, upd H1 s1.heap.objs.size (.lst xs), J.laid (t' := s1.toks) (fun b u z => Heap.get?_push_of_some _ z) (Nat.le_refl _) ⟨small, us, 0, r, Heap.get?_push_size _ rfl⟩, rfl, q _ free (Nat.ne_of_gt J.big)⟩
/-! ### the end of a law whose defs are called where nothing is being shown -/
theorem law_G {P : Program} {w : World} {K : PySem.W.Frag} {mg mb : Str → Option Value} {CX : CXT} {k : Nat} {fa a : Addr} {fd : FuncData} {x : Str} {sp : Sp} {s : Shared} {vs : List Value} {ns : List Int}
    (inK : K.In s.heap) (gl : s.heap.Ns mainGlobals mg) (bl : s.heap.Ns builtinsNs mb) (boot : ∀ y : Str, y ≠ "__name__" → mb y = bootBuiltins y) (lim : s.heap.NoLimit) (ng : s.gens = #[])
    (at_ : s.heap.get? a = some { cls := .type "list", data := .seq vs.toArray }) (are : IntsAre vs ns) (small : ns.length ≤ sizeLine) (room : Room k callerA)
    (F : ∀ bs : Heap, K.In bs → bs.Ns mainGlobals mg → FnG P w K mg bs CX k fa fd [x] sp) (bound : ∀ (s : Shared) (u : Value), BindsTo s fd ⟨[u], []⟩ [(x, u)])
    (told : ∀ H : Hp, Only H → SqL K H a (ns.map V.int) → sp [.ref a] H (fun v _ => v = .bl true) fun _ _ _ => False)
    (noX : ∀ H e s', CX [] H s (fun _ _ _ => False) e s' → False) :
    codeAny (model P w) callerA (.call (.ref fa) ⟨[.ref a], []⟩) (fun r s' => r = .ok (.ret (.bool true)) ∧ OldK s.heap s'.heap ∧ s'.os = s.os ∧ AllBare s'.gens) s := by
  have main : ∀ H : Hp, Only H → SqL K H a (ns.map V.int) → HOk P w H s.heap → (∀ b, H b ≠ none → b = a) → (H a ≠ none → K.lookup a = none) →
      codeAny (model P w) callerA (.call (.ref fa) ⟨[.ref a], []⟩) (fun r s' => r = .ok (.ret (.bool true)) ∧ OldK s.heap s'.heap ∧ s'.os = s.os ∧ AllBare s'.gens) s := by
    intro H only list ok alone out
    have seen : ∀ {b : Addr} {o : Obj}, s.heap.get? b = some o → H b = none → (hidT s.heap H).get? b = some o := fun z n => hidT_get z n
    have dict : ∀ {b : Addr} {o : Obj} {es : Array DictEntry} {ep : Nat}, s.heap.get? b = some o → o.data = .dict es ep → H b = none := by
      intro b o es ep z dz
      refine Classical.byContradiction fun some_ => ?_
      have eb := alone b some_
      rw [eb, at_] at z
      cases z
      cases (show Data.seq vs.toArray _ = Data.dict es ep from dz)
    have names : ∀ {b : Addr} {m : Str → Option Value}, s.heap.Ns b m → (hidT s.heap H).Ns b m := by
      rintro b m ⟨o, es, ep, z, dz, rest⟩
      exact ⟨o, es, ep, seen z (dict z dz), dz, rest⟩
    have inB : K.In (hidT s.heap H) := by
      intro b o z
      refine seen (inK b o z) (Classical.byContradiction fun some_ => ?_)
      have eb := alone b some_
      subst eb
      rw [out some_] at z
      cases z
    obtain ⟨ml, l1, l2⟩ := lim
    have mod : Mod K mg (hidT s.heap H) := ⟨inB, names gl, ⟨mb, names bl, boot⟩, ⟨ml, names l1, l2⟩⟩
    have env : Env0 P w K mg (hidT s.heap H) callerA [] s H := { frames := rfl, mod := mod, bs := fun b o z => of_hidT z, bsz := Nat.le_of_eq (hidT_size _ _), funs := trivial, frf := (fun b hb => by cases (show b ∈ ([] : List Addr) from hb)), hok := ok, bare := .of_eq ng }
    refine codeAny_mono ((F _ inB (names gl)).go callerA rfl room [] s H _ [.ref a] [.ref a] _ _ env (bound s (.ref a)) (.cons rfl .nil) (told H only list)) fun r s2 z => ?_
    match r, z with
    | .error e, z => exact (noX H e s2 z).elim
    | .ok .next, z => exact z.elim
    | .ok .brk, z => exact z.elim
    | .ok .cont, z => exact z.elim
    | .ok (.ret u), ⟨v, H2, os, bare, un, ok2, rel, q⟩ =>
      cases (show v = V.bl true from q)
      cases (show u = Value.bool true from rel)
      refine ⟨rfl, OldK.of_keep fun b o z => ?_, os, bare⟩
      by_cases hb : H b = none
      · exact un.keep b o z hb (fun m => by cases (show b ∈ ([] : List Addr) from m)) (fun m => by cases m)
      · rcases only b with n | ⟨ob, xs, f⟩
        · exact absurd n hb
        · have o1 := (ok b _ f).1
          have o2 := (ok2 b _ (un.frzs b ob _ f)).1
          rw [z] at o1
          rw [Option.some.inj o1]
          exact o2
  have rel := vals_ints are
  cases hk : K.lookup a with
  | some o =>
    have z := inK a o hk
    rw [at_] at z
    cases z
    exact main (fun _ => none) (fun _ => .inl rfl) (.inr ⟨_, vs.toArray, _, hk, rfl, rfl, rfl, by rw [List.size_toArray, are.length]; exact small, by simpa using rel⟩) (fun b u z => by cases z) (fun b z => absurd rfl z) fun z => absurd rfl z
  | none =>
    have on : ∀ b : Addr, b = a → (if b = a then some (HO.frz { cls := .type "list", data := .seq vs.toArray } (.lst (ns.map V.int))) else none) = some (HO.frz { cls := .type "list", data := .seq vs.toArray } (.lst (ns.map V.int))) := fun b e => if_pos e
    refine main (fun b => if b = a then some (.frz { cls := .type "list", data := .seq vs.toArray } (.lst (ns.map V.int))) else none) (fun b => ?_) (.inl (.inr ⟨_, on a rfl⟩)) (fun b u z => ?_) (fun b z => ?_) fun _ => hk
    · rcases Classical.em (b = a) with e | e
      · exact .inr ⟨_, _, on b e⟩
      · exact .inl (if_neg e)
    · rcases Classical.em (b = a) with e | e
      · have := (on b e).symm.trans z
        cases this
        subst e
        exact ⟨at_, by rw [List.length_map]; exact small, vs, _, rel, at_⟩
      · have := (if_neg e).symm.trans z
        cases this
    · exact Classical.byContradiction fun e => z (if_neg e)
theorem walk_G {l : PySem.W.OpenLaw} {n k : Nat} {q : Program} {loose : List Str} {XP : (Str → Option Value) → Heap → Prop} {YP : World → Heap → Prop} {d : DefRec} {K : Params → PySem.W.Frag} {CX : World → CXT} {sp : World → Sp} {x : Str}
    (most : l.most = some n) (small : n ≤ sizeLine) (nodef : d.params.defaults = []) (room : Room k callerA) (inK : ∀ (w : World) (h : Heap), YP w h → (K w.params).In h)
    (F : ∀ (w : World) (mg : Str → Option Value) (fa : Addr) (h : Heap), (K w.params).In h → h.Ns mainGlobals mg → mg d.name = some (.ref fa) →
      ∃ fd : FuncData, (∀ (s : Shared) (u : Value), BindsTo s fd ⟨[u], []⟩ [(x, u)]) ∧ ∀ bs : Heap, (K w.params).In bs → bs.Ns mainGlobals mg → FnG l.prog w (K w.params) mg bs (CX w) k fa fd [x] (sp w))
    (told : ∀ (w : World) (H : Hp) (a : Addr) (ns : List Int), ns.length ≤ n → Only H → SqL (K w.params) H a (ns.map V.int) → sp w [.ref a] H (fun v _ => v = .bl true) fun _ _ _ => False)
    (noX : ∀ (w : World) (H : Hp) (s : Shared) (e : Value) (s' : Shared), CX w [] H s (fun _ _ _ => False) e s' → False) :
    PySem.W.WalkO q loose XP YP l.row.toRowW d [] (fun f vs => PySem.call f vs) := by
  refine Att.attach_call most nodef fun w s₀ s₁ mg mb fa o pm cd doc a vs ns G Y ho hd hcd hmg hobj hints hlen hg => ?_
  obtain ⟨fd, bound, FG⟩ := F w mg fa _ (inK w _ Y) G.T.g hmg
  exact law_G (inK w _ Y) G.T.g G.T.b G.T.builtins G.T.nolimit hg hobj hints (Nat.le_trans hlen small) room FG bound (fun H only list => told w H a ns hlen only list) fun H e s2 => noX w H s₁ e s2

/-! ### the end of a law whose defs are called where nothing is being shown, with tables of code objects -/
def LawAtG (l : PySem.W.OpenLaw) (w : World) (K : PySem.W.Frag) (CX : CXT) (k n : Nat) (x : Str) (mg : Str → Option Value) (f : Addr) (top : Heap) : Prop :=
  ∃ (fd : FuncData) (ts : List (Addr × Addr)) (sp : Sp), (∀ t ∈ ts, top.get? t.2 = some { cls := .none, data := .fields #[] }) ∧ (∀ t ∈ ts, K.lookup t.2 = none) ∧ (∀ t ∈ ts, PySem.W.CodeHd top t.1 t.2) ∧ (∀ (st : Shared) (v : Value), BindsTo st fd ⟨[v], []⟩ [(x, v)]) ∧
    (∀ (H : Hp) (p : Addr) (zs : List Int), zs.length ≤ n → (∀ z ∈ zs, Builtin.Int.intBits z ≤ 1048576) → (∀ t ∈ ts, H t.2 = some (.tbl #[])) → SqL K H p (zs.map V.int) → sp [.ref p] H (fun v _ => v = .bl true) fun _ _ _ => False) ∧
    ∀ under : Heap, K.In under → under.Ns mainGlobals mg → (∀ t ∈ ts, LamX.TabB under mg t.1 t.2) → FnG l.prog w K mg under CX k f fd [x] sp
theorem law_GT {P : Program} {w : World} {K : PySem.W.Frag} {mg mb : Str → Option Value} {CX : CXT} {k : Nat} {f p : Addr} {ts : List (Addr × Addr)} {fd : FuncData} {x : Str} {sp : Sp} {s : Shared} {us : List Value} {zs : List Int}
    (inK : K.In s.heap) (gl : s.heap.Ns mainGlobals mg) (bl : s.heap.Ns builtinsNs mb) (boot : ∀ y : Str, y ≠ "__name__" → mb y = bootBuiltins y) (lim : s.heap.NoLimit) (ng : s.gens = #[])
    (bare : ∀ t ∈ ts, s.heap.get? t.2 = some { cls := .none, data := .fields #[] }) (out : ∀ t ∈ ts, K.lookup t.2 = none) (code : ∀ t ∈ ts, PySem.W.CodeHd s.heap t.1 t.2)
    (bmod : ∃ (m : Addr) (o : Obj), mg "__builtins__" = some (.ref m) ∧ m ≠ builtinsNs ∧ s.heap.get? m = some o ∧ o.cls = .type "module" ∧ o.dict = some builtinsNs ∧ o.data = .plain)
    (script : s.heap.get? p = some { cls := .type "list", data := .seq us.toArray }) (are : IntsAre us zs) (small : zs.length ≤ sizeLine) (room : Room k callerA)
    (F : ∀ under : Heap, K.In under → under.Ns mainGlobals mg → (∀ t ∈ ts, LamX.TabB under mg t.1 t.2) → FnG P w K mg under CX k f fd [x] sp) (bound : ∀ (st : Shared) (v : Value), BindsTo st fd ⟨[v], []⟩ [(x, v)])
    (told : ∀ H : Hp, (∀ t ∈ ts, H t.2 = some (.tbl #[])) → SqL K H p (zs.map V.int) → sp [.ref p] H (fun v _ => v = .bl true) fun _ _ _ => False)
    (noX : ∀ H e st, CX [] H s (fun _ _ _ => False) e st → False) :
    codeAny (model P w) callerA (.call (.ref f) ⟨[.ref p], []⟩) (fun r st => r = .ok (.ret (.bool true)) ∧ OldK s.heap st.heap ∧ st.os = s.os ∧ AllBare st.gens) s := by
  have tabAt : ∀ c ∈ ts.map Prod.snd, s.heap.get? c = some { cls := .none, data := .fields #[] } := by
    intro c hc
    obtain ⟨t, ht, rfl⟩ := List.mem_map.mp hc
    exact bare t ht
  have inTs : ∀ {t : Addr × Addr}, t ∈ ts → t.2 ∈ ts.map Prod.snd := fun ht => List.mem_map_of_mem ht
  have pNo : ¬ p ∈ ts.map Prod.snd := by
    intro hp
    have both := (tabAt p hp).symm.trans script
    have kinds := congrArg (fun o : Option Obj => o.map Obj.cls) both
    simp at kinds
  have main : ∀ H : Hp, (∀ t ∈ ts, H t.2 = some (.tbl #[])) → (∀ c, H c = none ∨ c ∈ ts.map Prod.snd ∨ ∃ o ys, H c = some (.frz o (.lst ys))) → SqL K H p (zs.map V.int) → HOk P w H s.heap → (∀ c, H c ≠ none → c = p ∨ c ∈ ts.map Prod.snd) → (H p ≠ none → K.lookup p = none) →
      codeAny (model P w) callerA (.call (.ref f) ⟨[.ref p], []⟩) (fun r st => r = .ok (.ret (.bool true)) ∧ OldK s.heap st.heap ∧ st.os = s.os ∧ AllBare st.gens) s := by
    intro H tabs kinds list ok alone off
    have free : ∀ {c : Addr} {o : Obj}, s.heap.get? c = some o → (∀ ys m, ¬ o.data = .seq ys m) → ¬ o.data = .fields #[] → H c = none := by
      intro c o ho n1 n2
      refine Classical.byContradiction fun some_ => ?_
      rcases alone c some_ with rfl | hc
      · cases Option.some.inj (ho.symm.trans script)
        exact n1 _ _ rfl
      · cases Option.some.inj (ho.symm.trans (tabAt c hc))
        exact n2 rfl
    have names : ∀ {c : Addr} {m : Str → Option Value}, s.heap.Ns c m → (hidT s.heap H).Ns c m := by
      rintro c m ⟨o, es, ep, ho, dz, more⟩
      refine ⟨o, es, ep, hidT_get ho (free ho (fun ys j z => ?_) fun z => ?_), dz, more⟩ <;> exact Data.noConfusion (dz.symm.trans z)
    have inB : K.In (hidT s.heap H) := by
      intro c o ho
      refine hidT_get (inK c o ho) (Classical.byContradiction fun some_ => ?_)
      rcases alone c some_ with rfl | hc
      · exact absurd (ho.symm.trans (off some_)) (by simp)
      · obtain ⟨t, ht, rfl⟩ := List.mem_map.mp hc
        exact absurd (ho.symm.trans (out t ht)) (by simp)
    obtain ⟨ml, l1, l2⟩ := lim
    have mod : L2.Mod K mg (hidT s.heap H) := ⟨inB, names gl, ⟨mb, names bl, boot⟩, ⟨ml, names l1, l2⟩⟩
    have tables : ∀ t ∈ ts, LamX.TabB (hidT s.heap H) mg t.1 t.2 := by
      intro t ht
      constructor
      · obtain ⟨o, ys, file, tf, flags, tg, inF, text, tt, c1, c2, c3, c4, c5, c6, c7, c8, c9, c10⟩ := code t ht
        refine ⟨o, ys, file, tf, flags, tg, inF, text, tt, hidT_get c1 (free c1 (fun us j z => Data.noConfusion (c3.symm.trans z)) fun z => ?_), c2, c3, c4, c5, c6, c7, c8, c9, c10⟩
        have z2 := c3.symm.trans z
        cases z2
        simp at c4
      · obtain ⟨m, o, b1, b2, b3, b4, b5, b6⟩ := bmod
        refine ⟨m, o, b1, b2, fun z => ?_, fun z => ?_, hidT_get b3 (free b3 (fun us j z => Data.noConfusion (b6.symm.trans z)) fun z => Data.noConfusion (b6.symm.trans z)), b4, b5, b6⟩
        · obtain ⟨o', es, ep, ho, dz, _⟩ := gl
          subst z
          cases Option.some.inj (b3.symm.trans ho)
          exact Data.noConfusion (b6.symm.trans dz)
        · subst z
          cases Option.some.inj (b3.symm.trans (bare t ht))
          exact Data.noConfusion b6
      · intro z
        obtain ⟨o', es, ep, ho, dz, _⟩ := gl
        rw [z] at ho
        cases Option.some.inj (ho.symm.trans (bare t ht))
        exact Data.noConfusion dz
    have env : Env0 P w K mg (hidT s.heap H) callerA [] s H := { frames := rfl, mod := mod, bs := fun c o z => of_hidT z, bsz := Nat.le_of_eq (hidT_size _ _), funs := trivial, frf := (fun c hc => by cases (show c ∈ ([] : List Addr) from hc)), hok := ok, bare := .of_eq ng }
    refine codeAny_mono ((F _ inB (names gl) tables).go callerA rfl room [] s H _ [.ref p] [.ref p] _ _ env (bound s (.ref p)) (.cons rfl .nil) (told H tabs list)) fun r st z => ?_
    match r, z with
    | .error e, z => exact (noX H e st z).elim
    | .ok .next, z => exact z.elim
    | .ok .brk, z => exact z.elim
    | .ok .cont, z => exact z.elim
    | .ok (.ret u), ⟨v, H2, os, bg, un, ok2, rel, q⟩ =>
      cases (show v = V.bl true from q)
      cases (show u = Value.bool true from rel)
      have old : ∀ c o, ¬ c ∈ ts.map Prod.snd → s.heap.get? c = some o → st.heap.get? c = some o := by
        intro c o nc ho
        by_cases hc : H c = none
        · exact un.keep c o ho hc (fun m => by cases (show c ∈ ([] : List Addr) from m)) (fun m => by cases m)
        · rcases kinds c with n | n | ⟨ob, ys, fz⟩
          · exact absurd n hc
          · exact absurd n nc
          · have o1 := (ok c _ fz).1
            have o2 := (ok2 c _ (un.frzs c ob _ fz)).1
            rw [ho] at o1
            rw [Option.some.inj o1]
            exact o2
      have grown : ∀ c ∈ ts.map Prod.snd, ∃ more : Array Value, st.heap.get? c = some { cls := .none, data := .fields more } := by
        intro c hc
        obtain ⟨t, ht, rfl⟩ := List.mem_map.mp hc
        obtain ⟨more, hm⟩ := un.tbls t.2 #[] (tabs t ht)
        exact ⟨_, ok2 t.2 _ hm⟩
      refine ⟨rfl, ⟨fun c o ho => ?_, fun c o ho => ?_⟩, os, bg⟩
      · by_cases hc : c ∈ ts.map Prod.snd
        · obtain ⟨more, hm⟩ := grown c hc
          obtain ⟨t, ht, rfl⟩ := List.mem_map.mp hc
          cases Option.some.inj (ho.symm.trans (bare t ht))
          exact .inr (.inl ⟨((code t ht).tab (bare t ht)).isCodeTable, rfl, #[], more, rfl, by rw [Array.empty_append]; exact hm⟩)
        · exact .inl (old c o hc ho)
      · by_cases hc : c ∈ ts.map Prod.snd
        · obtain ⟨more, hm⟩ := grown c hc
          exact ⟨_, hm⟩
        · exact ⟨o, old c o hc ho⟩
  have rel := vals_ints are
  let base : Hp := fun c => if c ∈ ts.map Prod.snd then some (.tbl #[]) else none
  have onT : ∀ {c : Addr}, c ∈ ts.map Prod.snd → base c = some (.tbl #[]) := fun hc => if_pos hc
  have offT : ∀ {c : Addr}, ¬ c ∈ ts.map Prod.snd → base c = none := fun hc => if_neg hc
  cases hk : K.lookup p with
  | some o =>
    cases Option.some.inj ((inK p o hk).symm.trans script)
    refine main base (fun t ht => onT (inTs ht)) (fun c => ?_) (.inr ⟨_, us.toArray, _, hk, rfl, rfl, rfl, by rw [List.size_toArray, are.length]; exact small, by simpa using rel⟩) (fun c u z => ?_) (fun c z => ?_) fun z => absurd (offT pNo) z
    · rcases Classical.em (c ∈ ts.map Prod.snd) with hc | hc
      · exact .inr (.inl hc)
      · exact .inl (offT hc)
    · rcases Classical.em (c ∈ ts.map Prod.snd) with hc | hc
      · cases Option.some.inj ((onT hc).symm.trans z)
        exact tabAt c hc
      · exact absurd ((offT hc).symm.trans z) (by simp)
    · exact .inr (Classical.byContradiction fun hc => z (offT hc))
  | none =>
    let frz : HO := .frz { cls := .type "list", data := .seq us.toArray } (.lst (zs.map V.int))
    have onP : (fun c => if c = p then some frz else base c) p = some frz := if_pos rfl
    have offP : ∀ {c : Addr}, ¬ c = p → (fun c => if c = p then some frz else base c) c = base c := fun hc => if_neg hc
    refine main (fun c => if c = p then some frz else base c) (fun t ht => ?_) (fun c => ?_) (.inl (.inr ⟨_, onP⟩)) (fun c u z => ?_) (fun c z => ?_) fun _ => hk
    · refine (offP fun e => pNo ?_).trans (onT (inTs ht))
      rw [← e]
      exact inTs ht
    · rcases Classical.em (c = p) with rfl | e
      · exact .inr (.inr ⟨_, _, onP⟩)
      · rcases Classical.em (c ∈ ts.map Prod.snd) with hc | hc
        · exact .inr (.inl hc)
        · exact .inl ((offP e).trans (offT hc))
    · rcases Classical.em (c = p) with rfl | e
      · cases Option.some.inj (onP.symm.trans z)
        exact ⟨script, by rw [List.length_map]; exact small, us, _, rel, script⟩
      · have z := (offP e).symm.trans z
        rcases Classical.em (c ∈ ts.map Prod.snd) with hc | hc
        · cases Option.some.inj ((onT hc).symm.trans z)
          exact tabAt c hc
        · exact absurd ((offT hc).symm.trans z) (by simp)
    · rcases Classical.em (c = p) with e | e
      · exact .inl e
      · exact .inr (Classical.byContradiction fun hc => z ((offP e).trans (offT hc)))
theorem walk_GT {l : PySem.W.OpenLaw} {n k : Nat} {q : Program} {loose : List Str} {XP : (Str → Option Value) → Heap → Prop} {YP : World → Heap → Prop} {d : DefRec} {CX : World → CXT} {x : Str}
    (most : l.most = some n) (small : n ≤ sizeLine) (nodef : d.params.defaults = []) (room : Room k callerA)
    (F : ∀ (w : World) (mg : Str → Option Value) (f : Addr) (top : Heap), YP w top → top.Ns mainGlobals mg → mg d.name = some (.ref f) → ∃ K : PySem.W.Frag, K.In top ∧ LawAtG l w K (CX w) k n x mg f top)
    (noX : ∀ (w : World) (H : Hp) (s : Shared) (e : Value) (st : Shared), CX w [] H s (fun _ _ _ => False) e st → False) :
    PySem.W.WalkO q loose XP YP l.row.toRowW d [] (fun f vs => PySem.call f vs) := by
  refine Att.attach_callB most nodef fun w s0 s mg mb f o pm cd doc p us zs G Y ho hd hcd named script are few bits ng => ?_
  obtain ⟨K, inK, fd, ts, sp, bare, out, code, bound, told, FG⟩ := F w mg f _ Y G.T.g named
  exact law_GT inK G.T.g G.T.b G.T.builtins G.T.nolimit ng bare out code G.T.bmain script are (Nat.le_trans few small) room FG bound (fun H tabs list => told H p zs few bits tabs list) fun H e st => noX w H s e st

/-! ### data made by the law or the program: numbers, truths, texts, lists and tuples of these -/
mutual
inductive Tk (H : Hp) : V → PyData → Prop
  | bl (b : Bool) : Tk H (.bl b) (.bool b)
  | int (i : Int) : Tk H (.int i) (.int i)
  | str (x : Str) : Tk H (.str x) (.str x)
  | lst {a : Addr} {xs : List V} {ds : List PyData} : H a = some (.lst xs) → TkAll H xs ds → Tk H (.ref a) (.list ds)
  | tup {a : Addr} {xs : List V} {ds : List PyData} : H a = some (.tup xs) → TkAll H xs ds → Tk H (.ref a) (.tuple ds)
inductive TkAll (H : Hp) : List V → List PyData → Prop
  | nil : TkAll H [] []
  | cons {v : V} {vs : List V} {d : PyData} {ds : List PyData} : Tk H v d → TkAll H vs ds → TkAll H (v :: vs) (d :: ds)
end
theorem TkAll.length {H : Hp} : ∀ {vs : List V} {ds : List PyData}, TkAll H vs ds → vs.length = ds.length
  | _, _, .nil => rfl
  | _, _, .cons _ t => by rw [List.length_cons, List.length_cons, t.length]
mutual
theorem Tk.same {H H' : Hp} (s : Same H H') : ∀ {v : V} {d : PyData}, Tk H v d → Tk H' v d
  | _, _, .bl b => .bl b
  | _, _, .int i => .int i
  | _, _, .str x => .str x
  | _, _, .lst h t => .lst (s _ _ h) (t.same s)
  | _, _, .tup h t => .tup (s _ _ h) (t.same s)
theorem TkAll.same {H H' : Hp} (s : Same H H') : ∀ {vs : List V} {ds : List PyData}, TkAll H vs ds → TkAll H' vs ds
  | _, _, .nil => .nil
  | _, _, .cons h t => .cons (h.same s) (t.same s)
end
theorem TkAll.get {H : Hp} : ∀ {xs : List V} {ds : List PyData} {j : Nat} {x : V}, TkAll H xs ds → xs[j]? = some x → ∃ d, ds[j]? = some d ∧ Tk H x d
  | _, _, _, _, .nil, h => by simp at h
  | _, _, 0, _, .cons (d := d) a _, h => by
    cases (Option.some.inj h)
    exact ⟨d, rfl, a⟩
  | _, _, j + 1, _, .cons _ t, h => t.get h
theorem TkAll.append {H : Hp} : ∀ {xs ys : List V} {ds es : List PyData}, TkAll H xs ds → TkAll H ys es → TkAll H (xs ++ ys) (ds ++ es)
  | _, _, _, _, .nil, t => t
  | _, _, _, _, .cons a r, t => .cons a (r.append t)
theorem TkAll.ints {H : Hp} : ∀ ns : List Int, TkAll H (ns.map V.int) (ns.map PyData.int)
  | [] => .nil
  | n :: r => .cons (.int n) (TkAll.ints r)
theorem Tk.int_inv {H : Hp} {v : V} {i : Int} (h : Tk H v (.int i)) : v = .int i := by cases h; rfl
theorem Tk.tup_inv {H : Hp} {v : V} {ds : List PyData} (h : Tk H v (.tuple ds)) : ∃ a xs, v = .ref a ∧ H a = some (.tup xs) ∧ TkAll H xs ds := by
  cases h with
  | tup h t => exact ⟨_, _, rfl, h, t⟩
theorem Tk.lst_inv {H : Hp} {v : V} {ds : List PyData} (h : Tk H v (.list ds)) : ∃ a xs, v = .ref a ∧ H a = some (.lst xs) ∧ TkAll H xs ds := by
  cases h with
  | lst h t => exact ⟨_, _, rfl, h, t⟩
theorem TkAll.int_inv {H : Hp} : ∀ {vs : List V} {ns : List Int}, TkAll H vs (ns.map PyData.int) → vs = ns.map V.int
  | _, [], .nil => rfl
  | _, n :: r, .cons h t => by rw [List.map_cons, h.int_inv, t.int_inv]
/-- heaps without one place -/
def hd1 (p : Addr) (H : Hp) : Hp := fun b => if b = p then none else H b
theorem hd1_le {p : Addr} {H : Hp} : Same (hd1 p H) H := fun b o e => by
  unfold hd1 at e
  by_cases h : b = p
  · rw [if_pos h] at e; cases e
  · rw [if_neg h] at e; exact e
theorem hd1_same {p : Addr} {H H' : Hp} (s : Same H H') : Same (hd1 p H) (hd1 p H') := fun b o e => by
  unfold hd1 at e ⊢
  by_cases h : b = p
  · rw [if_pos h] at e; cases e
  · rw [if_neg h] at e ⊢; exact s _ _ e
theorem hd1_upd {p : Addr} {H : Hp} {o : HO} : Same (hd1 p H) (hd1 p (upd H p o)) := fun b x e => by
  unfold hd1 at e ⊢
  by_cases h : b = p
  · rw [if_pos h] at e; cases e
  · rw [if_neg h] at e ⊢; rw [upd_ne h]; exact e
theorem hd1_at {p b : Addr} {H : Hp} (h : b ≠ p) : hd1 p H b = H b := if_neg h
theorem hd1_of {p : Addr} {H H' : Hp} (s : Same H H') (n : H p = none) : Same H (hd1 p H') := fun b o e => by
  rw [hd1_at (ne_of_none e n)]
  exact s _ _ e
theorem same_of_hd1 {p : Addr} {H H' : Hp} {o : HO} (s : Same H (hd1 p H')) : Same H (upd H' p o) := fun b x e => by
  have z := s b x e
  unfold hd1 at z
  by_cases h : b = p
  · rw [if_pos h] at z; cases z
  · rw [if_neg h] at z; rw [upd_ne h]; exact z

/-! ### tables and gates -/
def tabOf (bs : List Bool) : Str := ⟨(bs.map fun b => if b = true then 49 else 48).toArray⟩
def plc (ws : List Int) : Int := ws.foldl (fun p w => 2 * p + w) 0
def gateM (bs : List Bool) (ws : List Int) : Int := if bs.getD (plc ws).toNat false = true then 1 else 0
theorem plc_snoc (ws : List Int) (w : Int) : plc (ws ++ [w]) = 2 * plc ws + w := by
  unfold plc
  rw [List.foldl_append]
  rfl
theorem plc_take {ws : List Int} {i : Nat} {u : Int} (h : ws[i]? = some u) : plc (ws.take (i + 1)) = 2 * plc (ws.take i) + u := by
  rw [List.take_add_one, h]
  exact plc_snoc _ _
theorem plc_bd : ∀ (n : Nat) (ws : List Int), ws.length = n → (∀ w ∈ ws, w = 0 ∨ w = 1) → 0 ≤ plc ws ∧ plc ws < 2 ^ n := by
  intro n
  induction n with
  | zero =>
    intro ws h _
    cases List.eq_nil_of_length_eq_zero h
    decide
  | succ n ih =>
    intro ws h hw
    have hne : ws ≠ [] := fun z => by rw [z] at h; cases h
    obtain ⟨r, x, rfl⟩ : ∃ r x, ws = r ++ [x] := ⟨ws.dropLast, ws.getLast hne, (List.dropLast_concat_getLast hne).symm⟩
    have hr := ih r (by rw [List.length_append] at h; simpa using h) fun w h' => hw w (List.mem_append_left _ h')
    have hx := hw x (by simp)
    rw [plc_snoc, Int.pow_succ]
    omega
theorem gate01 (bs : List Bool) (ws : List Int) : gateM bs ws = 0 ∨ gateM bs ws = 1 := by
  unfold gateM
  split
  · exact .inr rfl
  · exact .inl rfl
theorem int_sign (b : Bool) : PySem.intText? ⟨#[if b = true then 49 else 48]⟩ = some (if b = true then 1 else 0) := by
  cases b <;> decide +kernel
def spGate (K : PySem.W.Frag) : Sp := fun vs H Q _ => ∃ (bs : List Bool) (la : Addr) (ws : List Int), vs = [.str (tabOf bs), .ref la] ∧ SqL K H la (ws.map V.int) ∧ (∀ w ∈ ws, w = 0 ∨ w = 1) ∧ bs.length = 2 ^ ws.length ∧ ws.length ≤ 3 ∧ Q (.int (gateM bs ws)) H
theorem gate_read {bs : List Bool} {ws : List Int} (hw : ∀ w ∈ ws, w = 0 ∨ w = 1) (hb : bs.length = 2 ^ ws.length) (h3 : ws.length ≤ 3) : ∃ b : Bool, 0 ≤ plc ws ∧ plc ws < 2 ^ 63 ∧ plc ws < (tabOf bs).length ∧ (tabOf bs).cps[(plc ws).toNat]? = some (if b = true then 49 else 48) ∧ gateM bs ws = if b = true then 1 else 0 := by
  obtain ⟨p0, p1⟩ := plc_bd _ ws rfl hw
  have p8 : plc ws < 8 := by
    have : (2 : Int) ^ ws.length ≤ 8 := by
      have : ws.length = 0 ∨ ws.length = 1 ∨ ws.length = 2 ∨ ws.length = 3 := by omega
      rcases this with h | h | h | h <;> rw [h] <;> decide
    omega
  have hlt : (plc ws).toNat < bs.length := by
    have : ((2 ^ ws.length : Nat) : Int) = (2 : Int) ^ ws.length := by simp
    omega
  refine ⟨bs[(plc ws).toNat], p0, by omega, ?_, ?_, ?_⟩
  · have : (tabOf bs).length = bs.length := by simp [tabOf, Str.length]
    rw [this]
    omega
  · simp [tabOf, List.getElem?_eq_getElem hlt]
  · unfold gateM
    rw [List.getD_eq_getElem?_getD, List.getElem?_eq_getElem hlt]
    rfl

/-! ### walks -/
theorem gx_tup {α : Type} {K : PySem.W.Frag} {a : Addr} {xs : List V} {g : TG} {tt : TT} {te : TE} {vs : List Nat} {σ0 : L2.St} {End : α → Hp → Prop} {Yd : α → V → Hp → (α → Hp → Prop) → Prop} {a0 : α} {H0 : Hp} (Pv : Nat → α → Hp → Prop) (h0 : Pv 0 a0 H0)
    (hl : ∀ i c H, i ≤ xs.length → Pv i c H → SqT K H a xs)
    (hs : ∀ i x c H, xs[i]? = some x → Pv i c H → g x σ0 H fun σ2 H2 => wipe σ2 vs = σ0 ∧ tt σ2 H2 fun b H3 => if b = true then te σ2 H3 fun y H4 => Yd c y H4 (Pv (i + 1)) else Pv (i + 1) c H3) (hd : ∀ c H, Pv xs.length c H → End c H) :
    ∃ W : Nat → Nat → α → Hp → Prop, (∃ m, W 0 m a0 H0) ∧ tGx (Itt K a) g tt te σ0 vs End Yd W := by
  refine ⟨fun i m c H => m = xs.length - i ∧ i ≤ xs.length ∧ Pv i c H, ⟨xs.length, rfl, Nat.zero_le _, h0⟩, ?_⟩
  rintro i m c H ⟨rfl, hi, p⟩
  by_cases hlt : i < xs.length
  · have hx : xs[i]? = some xs[i] := List.getElem?_eq_getElem hlt
    refine .inr ⟨⟨xs, xs[i], hl i c H hi p, hx⟩, Pv (i + 1), fun c' H' p' => ⟨xs.length - (i + 1), by omega, rfl, hlt, p'⟩, fun x H' y => ?_⟩
    obtain ⟨rfl, y⟩ := y
    exact hs i x c _ (y xs (hl i c _ hi p)) p
  · have e : i = xs.length := by omega
    subst e
    exact .inl ⟨⟨xs, hl _ c H hi p, Nat.le_refl _⟩, hd c H p⟩
theorem lc_zipT {K : PySem.W.Frag} {a b : Addr} {xs ys : List V} {g : TG} {tt : TT} {te : TE} {vs : List Nat} {σ : L2.St} {H1 : Hp} {D : Addr} {Qd : Hp → Prop} (el : xs.length = ys.length) (Pv : Nat → Hp → Prop) (h0 : Pv 0 (upd H1 D (.lst []))) (hl : ∀ i H, i ≤ xs.length → Pv i H → SqT K H a xs ∧ SqT K H b ys)
    (hs : ∀ i x y T H, xs[i]? = some x → ys[i]? = some y → H T = none → Pv i H → g (.ref T) (wipe σ vs) (upd H T (.tup [x, y])) fun σ2 H2 => wipe σ2 vs = wipe σ vs ∧ tt σ2 H2 fun b H3 =>
      if b = true then te σ2 H3 fun y H4 => ∃ acc, H4 D = some (.lst acc) ∧ acc.length < sizeLine ∧ Pv (i + 1) (upd H4 D (.lst (acc ++ [y]))) else Pv (i + 1) H3) (hd : ∀ H, Pv xs.length H → Qd H) :
    ∃ W : Nat → Nat → Hp → Prop, (∃ m, W 0 m (upd H1 D (.lst []))) ∧ ∀ i m H, W i m H →
      ((RZ.ItzT K a b).stop i H ∧ Qd H) ∨ ((RZ.ItzT K a b).go i H ∧ ∃ Nx : Hp → Prop, (∀ H', Nx H' → ∃ m', m' < m ∧ W (i + 1) m' H') ∧ ∀ x H', (RZ.ItzT K a b).yld i H x H' → g x (wipe σ vs) H' fun σ2 H2 => wipe σ2 vs = wipe σ vs ∧ tt σ2 H2 fun b H3 =>
        if b = true then te σ2 H3 fun y H4 => ∃ acc, H4 D = some (.lst acc) ∧ acc.length < sizeLine ∧ Nx (upd H4 D (.lst (acc ++ [y]))) else Nx H3) := by
  refine ⟨fun i m H => m = xs.length - i ∧ i ≤ xs.length ∧ Pv i H, ⟨xs.length, by simp, Nat.zero_le _, h0⟩, ?_⟩
  rintro i m H ⟨rfl, hi, p⟩
  obtain ⟨qx, qy⟩ := hl i H hi p
  by_cases hlt : i < xs.length
  · have hx : xs[i]? = some xs[i] := List.getElem?_eq_getElem hlt
    have hy : ys[i]? = some (ys[i]'(by omega)) := List.getElem?_eq_getElem _
    refine .inr ⟨⟨xs, ys, _, _, qx, qy, hx, hy⟩, Pv (i + 1), fun H' p' => ⟨xs.length - (i + 1), by omega, rfl, hlt, p'⟩, fun x H' y => ?_⟩
    obtain ⟨T, x1, y1, rfl, nT, rfl, e1, e2⟩ := y
    exact hs i x1 y1 T H (e1 xs qx) (e2 ys qy) nT p
  · have e : i = xs.length := by omega
    subst e
    exact .inl ⟨⟨xs, ys, qx, qy, .inl (Nat.le_refl _)⟩, hd H p⟩

/-! ### enumerate(tuple) -/
theorem draws_tuple {P : Program} {w : World} {A : Around} (hA : A.handled = none) (it a : Addr) (items : Array Value) (hne : a ≠ it) : Draws P w A it [it, a] items.size (fun i v => items[i]? = some v) (fun i h => h.IsTupleIter it a i ∧ h.IsTuple a items) where
  live := fun _ _ st => let ⟨o, ho, _⟩ := st.1; ⟨o, ho⟩
  frame := fun _ _ _ st hk => ⟨st.1.at fun o e => hk it (by simp) o e, by
    obtain ⟨o, ho, r⟩ := st.2
    exact ⟨o, hk a (by simp) o ho, r⟩⟩
  item := fun i s Q E hi st hQ => by
    refine RZ.nextOf_tuple_item st.1 st.2 (x := items[i]) (by simp [hi]) fun h' hit' hs' => ?_
    refine hQ _ h' s.toks (by simp [hi]) ⟨hit', ?_⟩ hs'
    obtain ⟨o, ho, r⟩ := st.2
    exact ⟨o, hs'.extBut a o hne ho, r⟩
  done := fun s Q E st hE => RZ.nextOf_tuple_end hA st.1 st.2 (by simp) hE
open PySem.AutoSeq1 in
set_option maxHeartbeats 1000000 in
theorem meets_enumerate_newT (l : Addr) (items : Array Value) (o : Obj) (hc : o.cls = .type "tuple") (n : Nat) (hd : o.data = .seq items n) :
    Meets (Builtin.«enumerate.__new__» ⟨[.type "enumerate", .ref l], []⟩) (fun _ R s => s.heap.get? l = some o ∧
      R (.ok (.ret (.ref (s.heap.push { cls := .type "tuple_iterator", data := .fields #[.ref l, .int 0 0] }).objs.size)))
        { s with heap := (s.heap.push { cls := .type "tuple_iterator", data := .fields #[.ref l, .int 0 0] }).push { cls := .type "enumerate", data := .fields #[.none, .bool false, .ref s.heap.objs.size, rawInt 0, .none, .none] } }) :=
  .of_wp fun prog w A R s h => by
    obtain ⟨hp, g, d, tk, os⟩ := s; obtain ⟨hl, h⟩ := h
    have hsub := sub_enumerate
    have hL : Heap.IsTuple (Shared.heap ⟨hp, g, d, tk, os⟩) l items := ⟨_, hl, hc, n, hd⟩
    wp_walk using wpAny_loadPart' hl
    refine wpAny_stack_any fun st => wpAny_pure ?_
    split
    · rename_i c _ _ _ _ _
      cases (c == Value.type "enumerate")
      · wp_walk using wpAny_loadPart' hl, wpAny_pyIter_tuple hL
        exact ⟨_, rfl, h⟩
      · wp_walk using wpAny_loadPart' hl, wpAny_pyIter_tuple hL
        exact ⟨_, rfl, h⟩
    · wp_walk using wpAny_loadPart' hl, wpAny_pyIter_tuple hL
      exact ⟨_, rfl, h⟩
theorem call_enumerate_tuple {prog : Program} {w : World} {A : Around} {E : Value → Shared → Prop} {s : Shared} {l : Addr} {items : Array Value} {Q : Value → Shared → Prop} (hL : s.heap.IsTuple l items)
    (h : ∀ h', IsEnum h' (s.heap.objs.size + 1) s.heap.objs.size 0 .none → h'.IsTupleIter s.heap.objs.size l 0 → h'.objs.size = s.heap.objs.size + 2 →
      (∀ b o, s.heap.get? b = some o → h'.get? b = some o) → Q (.ref (s.heap.objs.size + 1)) { s with heap := h' }) :
    wpAny (model prog w) A (call (.type "enumerate") [.ref l]) Q E s := by
  obtain ⟨o, hl, hc, n, hd⟩ := hL
  refine callType_new F.called_enumerate (by decide) (F.typeCall_enumerate_1 _) (F.newCall_enumerate_1 _) (fun obj => F.args_object_init_2 obj _) F.entry_enumerate_new
    (meets_enumerate_newT l items o hc n hd) ⟨hl, ?_⟩
  have hz : (s.heap.push { cls := .type "tuple_iterator", data := .fields #[.ref l, .int 0 0] }).objs.size = s.heap.objs.size + 1 := Heap.size_push ..
  show _ ∧ _
  rw [hz]
  have he : IsEnum ((s.heap.push { cls := .type "tuple_iterator", data := .fields #[.ref l, .int 0 0] }).push
      { cls := .type "enumerate", data := .fields #[.none, .bool false, .ref s.heap.objs.size, rawInt 0, .none, .none] }) (s.heap.objs.size + 1) s.heap.objs.size 0 .none := by
    have := Heap.get?_push_size (s.heap.push { cls := .type "tuple_iterator", data := .fields #[.ref l, .int 0 0] })
      (o := { cls := .type "enumerate", data := .fields #[.none, .bool false, .ref s.heap.objs.size, rawInt 0, .none, .none] }) rfl
    rw [hz] at this; exact this
  refine ⟨⟨_, he, rfl⟩, h _ he ⟨_, Heap.get?_push_of_some _ (Heap.get?_push_size _ rfl), rfl, rfl⟩ (by rw [Heap.size_push, hz]) fun b o x => Heap.get?_push_of_some _ (Heap.get?_push_of_some _ x)⟩
/-- the tuple at a, each item in a new pair -/
def IteT (K : PySem.W.Frag) (a : Addr) : It :=
  ⟨fun i H => ∃ (xs : List V) (x : V), SqT K H a xs ∧ xs[i]? = some x, fun i H v H' => ∃ T x, v = .ref T ∧ H T = none ∧ H' = upd H T (.tup [.int (i : Nat), x]) ∧ ∀ xs, SqT K H a xs → xs[i]? = some x, fun i H => ∃ xs : List V, SqT K H a xs ∧ xs.length = i⟩
theorem turn_enumT {P : Program} {w : World} {K : PySem.W.Frag} {elts : List Expr} {kk : Nat} {tpos : Pos} (a e it : Addr) :
    Turn P w K (.Tuple elts kk tpos) (IteT K a) [e, it] e (fun i h => (∃ old, IsEnum h e it ((i : Nat) : Int) old) ∧ h.IsTupleIter it a i ∧ e ≠ it) where
  mem := by simp
  obj := fun i h st b hb => by
    obtain ⟨⟨old, he⟩, ⟨o, ho, hc, hd⟩, _⟩ := st
    have e' : b = e ∨ b = it := by simpa using hb
    rcases e' with z | z
    · rw [z]; exact ⟨_, he, fun v q => nomatch q⟩
    · rw [z]; exact ⟨o, ho, fun v q => by rw [hd] at q; cases q⟩
  keep := fun i h h' st k => let ⟨⟨old, he⟩, hi, hne⟩ := st; ⟨⟨old, k e (by simp) _ he⟩, hi.at fun o q => k it (by simp) o q, hne⟩
  item := by
    intro X hP hw hK hc i pins s σ H E I hf st hg
    subst hP hw hK
    obtain ⟨⟨old, he⟩, hit, hne⟩ := st
    obtain ⟨xs, x, hq, hx⟩ := hg
    obtain ⟨its, rv, p, hz⟩ := I.tuple hq
    obtain ⟨u, hu, ru⟩ := rv.get hx
    have hel : e < s.heap.objs.size := Heap.lt_size he
    have hil : it < s.heap.objs.size := by obtain ⟨_, q, _⟩ := hit; exact Heap.lt_size q
    have hpt : s.heap.IsTuple a its.toArray := p
    have hai : a ≠ it := fun z => by
      obtain ⟨o1, h1, c1, _⟩ := hpt
      obtain ⟨o2, h2, c2, _⟩ := hit
      rw [z, h2] at h1
      cases h1
      rw [c2] at c1
      exact absurd (Value.type.inj c1) (by decide)
    have hae : e ≠ a := fun z => by
      obtain ⟨o1, h1, c1, _⟩ := hpt
      rw [← z, he] at h1
      cases h1
      exact absurd (Value.type.inj c1) (by decide)
    have hil2 : i < its.toArray.size := by
      rw [List.size_toArray]
      exact (List.getElem?_eq_some_iff.mp hu).1
    refine wpAny_pyNext_enum_itemD (draws_tuple (A := X.A.in1) (I.ok.hd hc) it a its.toArray hai) he ⟨hit, hpt⟩ hil2 hne (by simp only [List.mem_cons, List.not_mem_nil, or_false, not_or]; exact ⟨hne, hae⟩) fun y h' tk hy ho hst hT hsz hk => ?_
    have hyu : y = u := by
      have : its[i]? = some y := by simpa using hy
      rw [hu] at this
      exact (Option.some.inj this).symm
    subst hyu
    have hit' := hst.1
    refine ⟨_, rfl, wpAny_letOwnedTupleGo_enum (s := { s with heap := h', toks := tk + 1 }) ho fun h'' he' sb => ?_⟩
    have hT2 : h''.get? s.heap.objs.size = some { cls := .type "tuple", data := .seq #[.int i tk, y] } := (sb.2 _ (Nat.ne_of_gt hel)).trans hT
    have new : ObjOk X.prog X.w (upd H s.heap.objs.size (.tup [.int (i : Nat), x])) h'' s.heap.objs.size (.tup [.int (i : Nat), x]) :=
      ⟨by show 2 ≤ sizeLine; decide, [.int i tk, y], .cons ⟨_, rfl⟩ (.cons ru .nil), ⟨_, hT2, rfl, _, rfl⟩⟩
    have I1 : Inv X pins σ (upd H s.heap.objs.size (.tup [.int (i : Nat), x])) { s with heap := h'', toks := tk + 1 } :=
      I.turnedNew (ch := [e, it]) (fun b ob hb q => (sb.2 b (fun z => hb (by simp [z]))).trans (hk b ob (fun z => hb (by simp [z])) (fun z => hb (by simp [z])) q)) hf (Nat.le_refl _) new
    refine ⟨.ref s.heap.objs.size, _, I1, rfl, ⟨_, x, rfl, I.hok.fresh (Nat.le_refl _), rfl, fun ys hy => by rw [I.tuple_inj hy hq]; exact hx⟩, ⟨⟨y, ?_⟩, hit'.at fun o q => (sb.2 it (Ne.symm hne)).trans q, hne⟩, fun b hb => ?_⟩
    · have e1 : ((i + 1 : Nat) : Int) = (i : Int) + 1 := by omega
      rw [e1]; exact he'
    · have hb' : b < s.heap.objs.size := by
        have e' : b = e ∨ b = it := by simpa using hb
        rcases e' with z | z
        · rw [z]; exact hel
        · rw [z]; exact hil
      rw [upd_ne (Nat.ne_of_lt hb')]
      exact (hf b hb).1
  done := by
    intro X hP hw hK hc i pins s σ H E I hf st hg
    subst hP hw hK
    obtain ⟨⟨old, he⟩, hit, hne⟩ := st
    obtain ⟨xs, hq, hx⟩ := hg
    obtain ⟨its, rv, p, hz⟩ := I.tuple hq
    obtain ⟨f0, f1, f2, f3, f4, f5⟩ := hf it (by simp)
    have hl := rv.length
    have hpt : s.heap.IsTuple a its.toArray := p
    have hai : a ≠ it := fun z => by
      obtain ⟨o1, h1, c1, _⟩ := hpt
      obtain ⟨o2, h2, c2, _⟩ := hit
      rw [z, h2] at h1
      cases h1
      rw [c2] at c1
      exact absurd (Value.type.inj c1) (by decide)
    have hn : i = its.toArray.size := by rw [List.size_toArray]; omega
    exact wpAny_pyNext_enum_endD (draws_tuple (A := X.A.in1) (I.ok.hd hc) it a its.toArray hai) he (by rw [← hn]; exact ⟨hit, hpt⟩) fun h' eb => ⟨rfl, I.turned (t' := s.toks) (fun b o hb q => eb b o hb q) f0 f1 f3 f4 f5⟩
  self := fun A i s Q E st h => let ⟨⟨_, he⟩, _⟩ := st; wpAny_pyIter_enum he h
def iEnumT (K : PySem.W.Frag) (ta : TA) : TI := fun σ H R => ta σ H fun vs H1 => ∃ a xs, vs = [.ref a] ∧ SqT K H1 a xs ∧ R (IteT K a) H1
theorem pi_enumT {X : Cx} {e : Expr} {ta : TA} {p pos tpos : Pos} {elts : List Expr} {kk : Nat} (hg : Gl X "enumerate") (hm : X.mg "enumerate" = none) (ha : PA X [e] ta) (hs : starEach [e] X.env = [(false, eval e X.env)] := by rfl) :
    PI X (.Tuple elts kk tpos) (.Call (.Name "enumerate" p) [e] [] pos) (iEnumT X.K ta) := by
  refine ⟨fun pins s σ H R I h => ?_⟩
  refine Call_ (ld_blt I hg hm boot_enumerate (PyProof.Rows.callWith_type1 (thn (ha.run pos pins s σ H _ I h) fun us s1 ⟨vs, H1, I1, r1, q1⟩ => ?_) hs rfl))
  obtain ⟨a, xs, ex, hq, q⟩ := q1
  subst ex
  cases r1 with
  | cons r rr =>
    cases rr
    cases r
    obtain ⟨its, rv, p', hz⟩ := I1.tuple hq
    refine call_enumerate_tuple p' fun h' he hit hsz hk => wpAny_pyIter_enum he ?_
    have I2 : Inv X pins σ H1 { s1 with heap := h' } := I1.kept (t' := s1.toks) hk
    refine ⟨s1.heap.objs.size + 1, [s1.heap.objs.size + 1, s1.heap.objs.size], _, _, H1, rfl, I2, turn_enumT a (s1.heap.objs.size + 1) s1.heap.objs.size, ⟨⟨.none, he⟩, hit, Nat.succ_ne_self _⟩, fun b hb => ?_, q⟩
    have e' : b = s1.heap.objs.size + 1 ∨ b = s1.heap.objs.size := by simpa using hb
    have hle : s1.heap.objs.size ≤ b := by
      rcases e' with z | z
      · rw [z]; exact Nat.le_add_right _ _
      · rw [z]; exact Nat.le_refl _
    exact I1.fpOk hle (I1.hok.fresh hle)
theorem gx_enum {α : Type} {K : PySem.W.Frag} {a : Addr} {xs : List V} {g : TG} {tt : TT} {te : TE} {vs : List Nat} {σ0 : L2.St} {End : α → Hp → Prop} {Yd : α → V → Hp → (α → Hp → Prop) → Prop} {a0 : α} {H0 : Hp} (Pv : Nat → α → Hp → Prop) (h0 : Pv 0 a0 H0)
    (hl : ∀ i c H, i ≤ xs.length → Pv i c H → SqT K H a xs)
    (hs : ∀ i x T c H, xs[i]? = some x → H T = none → Pv i c H → g (.ref T) σ0 (upd H T (.tup [.int (i : Nat), x])) fun σ2 H2 => wipe σ2 vs = σ0 ∧ tt σ2 H2 fun b H3 => if b = true then te σ2 H3 fun y H4 => Yd c y H4 (Pv (i + 1)) else Pv (i + 1) c H3) (hd : ∀ c H, Pv xs.length c H → End c H) :
    ∃ W : Nat → Nat → α → Hp → Prop, (∃ m, W 0 m a0 H0) ∧ tGx (IteT K a) g tt te σ0 vs End Yd W := by
  refine ⟨fun i m c H => m = xs.length - i ∧ i ≤ xs.length ∧ Pv i c H, ⟨xs.length, rfl, Nat.zero_le _, h0⟩, ?_⟩
  rintro i m c H ⟨rfl, hi, p⟩
  by_cases hlt : i < xs.length
  · have hx : xs[i]? = some xs[i] := List.getElem?_eq_getElem hlt
    refine .inr ⟨⟨xs, xs[i], hl i c H hi p, hx⟩, Pv (i + 1), fun c' H' p' => ⟨xs.length - (i + 1), by omega, rfl, hlt, p'⟩, fun x H' y => ?_⟩
    obtain ⟨T, x1, rfl, nT, rfl, e1⟩ := y
    exact hs i x1 T c H (e1 xs (hl i c _ hi p)) nT p
  · have e : i = xs.length := by omega
    subst e
    exact .inl ⟨⟨xs, hl _ c H hi p, rfl⟩, hd c H p⟩
theorem gx_str {α : Type} {z : Str} {g : TG} {tt : TT} {te : TE} {vs : List Nat} {σ0 : L2.St} {End : α → Hp → Prop} {Yd : α → V → Hp → (α → Hp → Prop) → Prop} {a0 : α} {H0 : Hp} (Pv : Nat → α → Hp → Prop) (h0 : Pv 0 a0 H0)
    (hs : ∀ i x c H, z.cps[i]? = some x → Pv i c H → g (.str ⟨#[x]⟩) σ0 H fun σ2 H2 => wipe σ2 vs = σ0 ∧ tt σ2 H2 fun b H3 => if b = true then te σ2 H3 fun y H4 => Yd c y H4 (Pv (i + 1)) else Pv (i + 1) c H3) (hd : ∀ c H, Pv z.cps.size c H → End c H) :
    ∃ W : Nat → Nat → α → Hp → Prop, (∃ m, W 0 m a0 H0) ∧ tGx (Its z) g tt te σ0 vs End Yd W := by
  refine ⟨fun i m c H => m = z.cps.size - i ∧ i ≤ z.cps.size ∧ Pv i c H, ⟨z.cps.size, rfl, Nat.zero_le _, h0⟩, ?_⟩
  rintro i m c H ⟨rfl, hi, p⟩
  by_cases hlt : i < z.cps.size
  · refine .inr ⟨hlt, Pv (i + 1), fun c' H' p' => ⟨z.cps.size - (i + 1), by omega, rfl, hlt, p'⟩, fun x H' y => ?_⟩
    obtain ⟨rfl, ch, hc, rfl⟩ := y
    exact hs i ch c _ hc p
  · have e : i = z.cps.size := by omega
    subst e
    exact .inl ⟨Nat.le_refl _, hd c H p⟩

/-! ### nets, and the words of nets -/
abbrev Gt := List Bool × List Nat
def gD (g : Gt) : PyData := .tuple [.str (tabOf g.1), .tuple ((g.2.map Int.ofNat).map PyData.int)]
def netD (many : Int) (gs : List Gt) : PyData := .tuple [.int many, .tuple (gs.map gD)]
def rowD (r : List Int) : PyData := .tuple (r.map PyData.int)
def chD (a b : List Int) : PyData := .tuple [rowD a, rowD b]
def GtOk (n : Nat) (g : Gt) : Prop := g.1.length = 2 ^ g.2.length ∧ 1 ≤ g.2.length ∧ g.2.length ≤ 3 ∧ ∀ i ∈ g.2, i < n
def NetOk (n : Nat) (gs : List Gt) : Prop := ∀ k g, gs[k]? = some g → GtOk (n + k) g
def Row01 (r : List Int) : Prop := ∀ x ∈ r, x = 0 ∨ x = 1
mutual
theorem Tk.gr {H H' : Hp} (s : Gr H H') : ∀ {v : V} {d : PyData}, Tk H v d → Tk H' v d
  | _, _, .bl b => .bl b
  | _, _, .int i => .int i
  | _, _, .str x => .str x
  | _, _, .lst h t => .lst (s.lst h) (t.gr s)
  | _, _, .tup h t => .tup (s.tup h) (t.gr s)
theorem TkAll.gr {H H' : Hp} (s : Gr H H') : ∀ {vs : List V} {ds : List PyData}, TkAll H vs ds → TkAll H' vs ds
  | _, _, .nil => .nil
  | _, _, .cons h t => .cons (h.gr s) (t.gr s)
end
theorem Tk.row_inv {H : Hp} {v : V} {r : List Int} (h : Tk H v (rowD r)) : ∃ a, v = .ref a ∧ H a = some (.tup (r.map V.int)) := by
  obtain ⟨a, xs, rfl, ha, t⟩ := h.tup_inv
  rw [t.int_inv] at ha
  exact ⟨a, rfl, ha⟩
theorem Tk.ch_inv {H : Hp} {v : V} {a b : List Int} (h : Tk H v (chD a b)) : ∃ c ra rb, v = .ref c ∧ H c = some (.tup [.ref ra, .ref rb]) ∧ H ra = some (.tup (a.map V.int)) ∧ H rb = some (.tup (b.map V.int)) := by
  obtain ⟨c, xs, rfl, hc, t⟩ := h.tup_inv
  cases t with
  | cons h1 t => cases t with
    | cons h2 t =>
      cases t
      obtain ⟨ra, rfl, ha⟩ := h1.row_inv
      obtain ⟨rb, rfl, hb⟩ := h2.row_inv
      exact ⟨c, ra, rb, rfl, hc, ha, hb⟩
theorem Tk.net_inv {H : Hp} {v : V} {m : Int} {gs : List Gt} (h : Tk H v (netD m gs)) : ∃ n g xs, v = .ref n ∧ H n = some (.tup [.int m, .ref g]) ∧ H g = some (.tup xs) ∧ TkAll H xs (gs.map gD) := by
  obtain ⟨n, xs, rfl, hn, t⟩ := h.tup_inv
  cases t with
  | cons h1 t => cases t with
    | cons h2 t =>
      cases t
      cases h1
      obtain ⟨g, ys, rfl, hg, t2⟩ := h2.tup_inv
      exact ⟨n, g, ys, rfl, hn, hg, t2⟩
theorem Tk.gt_inv {H : Hp} {v : V} {g : Gt} (h : Tk H v (gD g)) : ∃ a i, v = .ref a ∧ H a = some (.tup [.str (tabOf g.1), .ref i]) ∧ H i = some (.tup ((g.2.map Int.ofNat).map V.int)) := by
  obtain ⟨a, xs, rfl, ha, t⟩ := h.tup_inv
  cases t with
  | cons h1 t => cases t with
    | cons h2 t =>
      cases t
      cases h1
      obtain ⟨i, rfl, hi⟩ := (show Tk H _ (rowD (g.2.map Int.ofNat)) from h2).row_inv
      exact ⟨a, i, rfl, ha, hi⟩
theorem TkAll.at {H : Hp} {α : Type} {f : α → PyData} {xs : List V} {ds : List α} (t : TkAll H xs (ds.map f)) {j : Nat} {v : V} (h : xs[j]? = some v) : ∃ x, ds[j]? = some x ∧ Tk H v (f x) := by
  obtain ⟨dx, hdx, tx⟩ := t.get h
  rw [List.getElem?_map] at hdx
  cases hz : ds[j]? with
  | none => rw [hz] at hdx; cases hdx
  | some x =>
    rw [hz] at hdx
    cases Option.some.inj hdx
    exact ⟨x, rfl, tx⟩
theorem TkAll.at' {H : Hp} {α : Type} {f : α → PyData} {xs : List V} {ds : List α} (t : TkAll H xs (ds.map f)) {j : Nat} {x : α} (h : ds[j]? = some x) : ∃ v, xs[j]? = some v ∧ Tk H v (f x) := by
  have hl := t.length
  rw [List.length_map] at hl
  have hj := (List.getElem?_eq_some_iff.mp h).1
  obtain ⟨y, hy, ty⟩ := t.at (List.getElem?_eq_getElem (l := xs) (i := j) (by omega))
  cases Option.some.inj (h.symm.trans hy)
  exact ⟨_, List.getElem?_eq_getElem _, ty⟩
theorem grow_upd {H H' : Hp} {p : Addr} {o : HO} (g : Gr H H') (n : H' p = none) : Gr H (upd H' p o) := g.trans (Gr.none n)
/-- no table, no older list: only the list at D is written -/
def GrD (D : Addr) (H H' : Hp) : Prop := Gr H (hd1 D H')
theorem GrD.gr {D : Addr} {H H' : Hp} (g : GrD D H H') : Gr H H' := g.trans (Gr.of hd1_le)
theorem TabG_hd1 {D P : Addr} {H : Hp} (h : GxR.TabG H P) (n : D ≠ P) : GxR.TabG (hd1 D H) P := by
  obtain ⟨ps, e, t⟩ := h
  exact ⟨ps, by rw [hd1_at (Ne.symm n)]; exact e, t⟩
theorem GrD.new {D : Addr} {H : Hp} {o : HO} (n : H D = none) : GrD D H (upd H D o) := Gr.of (hd1_of (same_upd n) n)
theorem hd1_gr {D : Addr} {H H' : Hp} (g : Gr H H') (hD : ∀ P, GxR.TabG H P → D ≠ P) : Gr (hd1 D H) (hd1 D H') := by
  refine ⟨fun b o n e => ?_, fun b t => ?_⟩
  · have hb : b ≠ D := fun z => by
      unfold hd1 at e
      rw [if_pos z] at e; cases e
    rw [hd1_at hb] at e ⊢
    exact g.1 b o n e
  · obtain ⟨ps, e, t⟩ := t
    have e' := hd1_le _ _ e
    exact TabG_hd1 (g.2 b ⟨ps, e', t⟩) (hD b ⟨ps, e', t⟩)
theorem GrD.then {D : Addr} {H H1 H2 : Hp} {xs : List V} (a : GrD D H H1) (hD : H1 D = some (.lst xs)) (b : Gr H1 H2) : GrD D H H2 := a.trans (hd1_gr b fun P ⟨ps, e, _⟩ z => by
  rw [← z, hD] at e
  cases e)
theorem GrD.set {D : Addr} {H H1 : Hp} {o : HO} (a : GrD D H H1) : GrD D H (upd H1 D o) := a.trans (Gr.of hd1_upd)

end Gk

set_option Elab.async false
set_option linter.all false
set_option maxRecDepth 100000
set_option maxHeartbeats 1000000
set_option pp.maxSteps 1500
set_option pp.deepTerms false
namespace Gk
open PySem PySem.Spec PyProof.Rows L2
/-! ### data of tuples alone: no list that is written can harm it -/
mutual
def noL : PyData → Bool
  | .list _ => false
  | .tuple ds => noLs ds
  | _ => true
def noLs : List PyData → Bool
  | [] => true
  | d :: r => noL d && noLs r
end
def Ts (H H' : Hp) : Prop := ∀ b xs, H b = some (HO.tup xs) → H' b = some (.tup xs)
theorem Ts.refl {H : Hp} : Ts H H := fun _ _ e => e
theorem Ts.trans {H H1 H2 : Hp} (a : Ts H H1) (b : Ts H1 H2) : Ts H H2 := fun c xs e => b c xs (a c xs e)
theorem Ts.same {H H' : Hp} (s : Same H H') : Ts H H' := fun b xs e => s _ _ e
theorem Ts.gr {H H' : Hp} (s : Gr H H') : Ts H H' := fun b xs e => s.tup e
theorem Ts.new {H : Hp} {p : Addr} {o : HO} (h : H p = none) : Ts H (upd H p o) := Ts.same (same_upd h)
theorem Ts.set {H : Hp} {p : Addr} {xs ys : List V} (h : H p = some (.lst xs)) : Ts H (upd H p (.lst ys)) := fun b zs e => by
  rw [upd_ne (ne_of e h (by intro z; cases z))]
  exact e
mutual
theorem Tk.ts {H H' : Hp} (s : Ts H H') : ∀ {v : V} {d : PyData}, Tk H v d → noL d = true → Tk H' v d
  | _, _, .bl b, _ => .bl b
  | _, _, .int i, _ => .int i
  | _, _, .str x, _ => .str x
  | _, _, .lst h t, n => by cases n
  | _, _, .tup h t, n => .tup (s _ _ h) (t.ts s n)
theorem TkAll.ts {H H' : Hp} (s : Ts H H') : ∀ {vs : List V} {ds : List PyData}, TkAll H vs ds → noLs ds = true → TkAll H' vs ds
  | _, _, .nil, _ => .nil
  | _, _, .cons (d := d) (ds := ds) h t, n => by
    have n' : noL d = true ∧ noLs ds = true := Bool.and_eq_true_iff.mp n
    exact .cons (h.ts s n'.1) (t.ts s n'.2)
end
theorem noLs_map {α : Type} {f : α → PyData} (h : ∀ x, noL (f x) = true) : ∀ l : List α, noLs (l.map f) = true
  | [] => rfl
  | x :: r => by
    show (noL (f x) && noLs (r.map f)) = true
    rw [h x, noLs_map h r]
    rfl
theorem noL_row (r : List Int) : noL (rowD r) = true := noLs_map (fun _ => rfl) r
theorem noL_gate (g : Gt) : noL (gD g) = true := by
  show (true && (noLs ((g.2.map Int.ofNat).map PyData.int) && true)) = true
  rw [noLs_map (fun _ => rfl)]
  rfl
theorem noL_gates (gs : List Gt) : noLs (gs.map gD) = true := noLs_map noL_gate gs
theorem noL_net (m : Int) (gs : List Gt) : noL (netD m gs) = true := by
  show (true && (noLs (gs.map gD) && true)) = true
  rw [noL_gates]
  rfl
theorem noL_ch (a b : List Int) : noL (chD a b) = true := by
  show (noL (rowD a) && (noL (rowD b) && true)) = true
  rw [noL_row, noL_row]
  rfl

section
variable {P : Program} {w : World} {K : PySem.W.Frag} {mg : Str → Option Value} {base : Heap}
/-! ### the deck of three parts -/
theorem p03 : (0 : Int) < 1000003 := by decide
def DeckB (H : Hp) (d l : Addr) (n : Int) : Prop := d ≠ l ∧ ∃ (cs : List Int) (z y : Int), H d = some (.lst [.ref l, .int z, .int y]) ∧ H l = some (.lst (cs.map V.int)) ∧ cs.length ≤ 63 ∧ 0 ≤ z ∧ z ≤ n
theorem DeckB.mono {H : Hp} {d l : Addr} {n m : Int} (D : DeckB H d l n) (h : n ≤ m) : DeckB H d l m := by
  obtain ⟨ne, cs, z, y, h1, h2, h3, h4, h5⟩ := D
  exact ⟨ne, cs, z, y, h1, h2, h3, h4, Int.le_trans h5 h⟩
theorem DeckB.same {H H' : Hp} {d l : Addr} {n : Int} (D : DeckB H d l n) (s : Same H H') : DeckB H' d l n := by
  obtain ⟨ne, cs, z, y, hd, hl, r⟩ := D
  exact ⟨ne, cs, z, y, s _ _ hd, s _ _ hl, r⟩
theorem DeckB.gr {H H' : Hp} {d l : Addr} {n : Int} (D : DeckB H d l n) (s : Gr H H') : DeckB H' d l n := by
  obtain ⟨ne, cs, z, y, hd, hl, r⟩ := D
  exact ⟨ne, cs, z, y, s.lst hd, s.lst hl, r⟩
theorem lc_enum {K : PySem.W.Frag} {a : Addr} {xs : List V} {g : TG} {tt : TT} {te : TE} {vs : List Nat} {σ : L2.St} {H1 : Hp} {D : Addr} {Qd : Hp → Prop} (Pv : Nat → Hp → Prop) (h0 : Pv 0 (upd H1 D (.lst []))) (hl : ∀ i H, i ≤ xs.length → Pv i H → SqL K H a xs)
    (hs : ∀ i x T H, xs[i]? = some x → H T = none → Pv i H → g (.ref T) (wipe σ vs) (upd H T (.tup [.int (i : Nat), x])) fun σ2 H2 => wipe σ2 vs = wipe σ vs ∧ tt σ2 H2 fun b H3 =>
      if b = true then te σ2 H3 fun y H4 => ∃ acc, H4 D = some (.lst acc) ∧ acc.length < sizeLine ∧ Pv (i + 1) (upd H4 D (.lst (acc ++ [y]))) else Pv (i + 1) H3) (hd : ∀ H, Pv xs.length H → Qd H) :
    ∃ W : Nat → Nat → Hp → Prop, (∃ m, W 0 m (upd H1 D (.lst []))) ∧ ∀ i m H, W i m H →
      ((Ite K a).stop i H ∧ Qd H) ∨ ((Ite K a).go i H ∧ ∃ Nx : Hp → Prop, (∀ H', Nx H' → ∃ m', m' < m ∧ W (i + 1) m' H') ∧ ∀ x H', (Ite K a).yld i H x H' → g x (wipe σ vs) H' fun σ2 H2 => wipe σ2 vs = wipe σ vs ∧ tt σ2 H2 fun b H3 =>
        if b = true then te σ2 H3 fun y H4 => ∃ acc, H4 D = some (.lst acc) ∧ acc.length < sizeLine ∧ Nx (upd H4 D (.lst (acc ++ [y]))) else Nx H3) := by
  refine ⟨fun i m H => m = xs.length - i ∧ i ≤ xs.length ∧ Pv i H, ⟨xs.length, by simp, Nat.zero_le _, h0⟩, ?_⟩
  rintro i m H ⟨rfl, hi, p⟩
  have qx := hl i H hi p
  by_cases hlt : i < xs.length
  · have hx : xs[i]? = some xs[i] := List.getElem?_eq_getElem hlt
    refine .inr ⟨⟨xs, _, qx, hx⟩, Pv (i + 1), fun H' p' => ⟨xs.length - (i + 1), by omega, rfl, hlt, p'⟩, fun x H' y => ?_⟩
    obtain ⟨T, x1, rfl, nT, rfl, e1⟩ := y
    exact hs i x1 T H (e1 xs qx) nT p
  · have e : i = xs.length := by omega
    subst e
    exact .inl ⟨⟨xs, qx, Nat.le_refl _⟩, hd H p⟩
theorem cutB {ns : List Int} (h : ns.length ≤ 63) : cutV (ns.map V.int) none (some 63) = ns.map V.int := by
  unfold cutV
  have e : HT.sIx (ns.map V.int).length (ns.map V.int).length (some 63) = min 63 (ns.map V.int).length := HT.sIx_nat _ _ 63
  rw [HT.sIx_none, e, List.length_map, List.drop_zero]
  apply List.take_of_length_le
  rw [List.length_map]
  omega
def sp_deck (K : PySem.W.Frag) : Sp := fun vs H Q _ => ∃ (a : Addr) (ns : List Int), vs = [.ref a] ∧ SqL K H a (ns.map V.int) ∧ ns.length ≤ 63 ∧ ∀ H' d l, Same H H' → DeckB H' d l 0 → Q (.ref d) H'
theorem ok_deck (T : Tx K mg) : FnOk P w K mg base CX0 1 T.f_deck T.fd_deck ["_law_script"] (sp_deck K) := by
  refine T.F_deck.ok sc_deck (fun vs H Q E h => ?_) (fun cdv A outer s H vs Q E hr h => ?_)
  · obtain ⟨a, ns, rfl, _⟩ := h
    rfl
  · obtain ⟨a, ns, rfl, hS, hlen, q⟩ := h
    refine ⟨_, (pss_cons (ps_set (i := 1) sc_deck.nd rfl (by first | exact .inl rfl | exact .inr rfl) (pe_callTy call_list_of (by rfl) T.m_list (by decide +kernel) (pa_cons (pe_slice sl_list (pv 0) po_none (po_some pe_int)) pa_nil))) (pss_one (ps_ret (pe_lst (pa_cons (pv 1) (pa_cons pe_int (pa_cons (pe_callB (cr_sum rfl) (by rfl) T.m_sum (by decide +kernel) (pa_cons (pe_lc (own := [("_law_k", 2), ("_law_cell", 3)]) (by rfl) sc_deck.nd (pi_enum (by rfl) T.m_enumerate (pa_cons (pv 1) pa_nil)) (blkOk_by (own := [("_law_k", 2), ("_law_cell", 3)]) (N := ["_law_script", "_law_cells", "_law_k", "_law_cell"]) (sc := defScope s_deck) (by decide +kernel)) (fun _ _ _ _ _ => (show PG _ _ (gTup K 2 _) from pg_tup rfl (pgs_cons (pg_name (i := 2) sc_deck.nd rfl (by first | exact .inl rfl | exact .inr rfl)) (pgs_cons (pg_name (i := 3) sc_deck.nd rfl (by first | exact .inl rfl | exact .inr rfl)) pgs_nil)))) (fun _ _ _ _ _ => pts_nil) (fun _ _ _ _ _ => (pe_op op_mul (pe_op op_mod (pv 3) pe_int) (pe_op op_add (pv 2) pe_int)))) pa_nil)) pa_nil))))))), ?_⟩
    refine ⟨.ref a, rfl, 63, rfl, a, _, rfl, hS, fun c2 nc2 => ?_⟩
    rw [cutB hlen]
    refine ⟨c2, _, rfl, .inl (SqL.of upd_same), fun l nl => ?_⟩
    have s1 : Same H (upd (upd H c2 (.lst (ns.map V.int))) l (.lst (ns.map V.int))) := (same_upd nc2).trans (same_upd nl)
    have h1 : (upd (upd H c2 (.lst (ns.map V.int))) l (.lst (ns.map V.int))) l = some (.lst (ns.map V.int)) := upd_same
    revert s1 h1
    generalize upd (upd H c2 (.lst (ns.map V.int))) l (.lst (ns.map V.int)) = H1
    intro s1 h1
    refine ⟨.ref l, rfl, .ref l, rfl, l, _, rfl, SqL.of h1, fun D nD => ?_⟩
    refine lc_enum (K := K) (a := l) (xs := ns.map V.int) (fun i H' => Same H1 (hd1 D H') ∧ ∃ ms : List Int, H' D = some (.lst (ms.map V.int)) ∧ ms.length = i) ⟨hd1_of (same_upd nD) nD, [], upd_same, rfl⟩ (fun i H' _ hP => SqL.of (hd1_le _ _ (hP.1 _ _ h1))) ?_ ?_
    · rintro i x Tq H2 hx nT ⟨s2, ms, hD, lm⟩
      rw [List.getElem?_map] at hx
      cases hj : ns[i]? with
      | none => rw [hj] at hx; cases hx
      | some c =>
        rw [hj] at hx
        cases Option.some.inj hx
        have hi := (List.getElem?_eq_some_iff.mp hj).1
        refine ⟨Tq, _, rfl, SqT.of upd_same, rfl, _, _, rfl, _, _, rfl, rfl, rfl, ?_⟩
        refine ⟨.int c, rfl, _, _, rfl, rfl, p03, .int (i : Nat), rfl, _, _, rfl, rfl, c % 1000003, (i : Int) + 2, rfl, rfl, .inr ⟨by omega, by omega⟩, ?_⟩
        have hD2 : (upd H2 Tq (.tup [.int (i : Nat), .int c])) D = some (.lst (ms.map V.int)) := by
          rw [upd_ne (ne_of_none hD nT)]
          exact hD
        refine ⟨_, hD2, ?_, (s2.trans (hd1_same (same_upd nT))).trans hd1_upd, ms ++ [c % 1000003 * ((i : Int) + 2)], ?_, by rw [List.length_append, lm]; rfl⟩
        · rw [List.length_map, lm]
          exact Nat.lt_of_lt_of_le (show i < 64 by omega) (by decide)
        · rw [upd_same, List.map_append]
          rfl
    · rintro H2 ⟨s2, ms, hD, lm⟩
      have s12 : Same H1 H2 := fun b o e => hd1_le _ _ (s2 _ _ e)
      refine ⟨D, ms, rfl, SqL.of hD, sl3, fun d nd => ?_⟩
      have nld : l ≠ d := ne_of_none (s12 _ _ h1) nd
      exact q _ d l ((s1.trans s12).trans (same_upd nd)) ⟨nld.symm, ns, 0, ms.sum, upd_same, (by rw [upd_ne nld]; exact s12 _ _ h1), hlen, Int.le_refl _, Int.le_refl _⟩
/-! ### a draw -/
def sp_draw (K : PySem.W.Frag) : Sp := fun vs H Q _ => ∃ (d l : Addr) (m n : Int), vs = [.ref d, .int m] ∧ DeckB H d l n ∧ n < 1000000000 ∧ 0 < m ∧ m < 1073741824 ∧ ∀ H' v, DeckB H' d l (n + 1) → Fr d l H H' → 0 ≤ v → v < m → Q (.int v) H'
theorem ok_draw (T : Tx K mg) : FnOk P w K mg base CX0 1 T.f_draw T.fd_draw ["_law_deck_here", "_law_most"] (sp_draw K) := by
  refine T.F_draw.ok sc_draw (fun vs H Q E h => ?_) (fun cdv A outer s H vs Q E hr h => ?_)
  · obtain ⟨d, l, m, n, rfl, _⟩ := h
    rfl
  · obtain ⟨d, l, m, n, rfl, D, hn, hm0, hm1, q⟩ := h
    obtain ⟨ne, cs, z, y, hd, hl, hcs, hz0, hz1⟩ := D
    refine ⟨_, (pss_cons (ps_asg (pe_op op_add (pe_ix ix_list (pv 0) pe_int (fun _ _ => rfl)) pe_int) (pg_sub (pv 0) pe_int set_list)) (pss_cons (ps_set (i := 2) sc_draw.nd rfl (by first | exact .inl rfl | exact .inr rfl) (pe_op op_add (pe_ix ix_list (pv 0) pe_int (fun _ _ => rfl)) (pe_op op_mul pe_int (pe_ix ix_list (pv 0) pe_int (fun _ _ => rfl))))) (pss_cons (ps_if (pt_cmpR (op_neD hr.units) (pe_ix ix_list (pv 0) pe_int (fun _ _ => rfl)) (pe_lst pa_nil) (nomark _)) (pss_cons (ps_set (i := 2) sc_draw.nd rfl (by first | exact .inl rfl | exact .inr rfl) (pe_bm PySem.F.plainAttrs_list PySem.F.slot_list_pop PySem.F.type_list_pop mt_popAt (pe_ix ix_list (pv 0) pe_int (fun _ _ => rfl)) (pa_cons pe_int pa_nil))) (pss_one (ps_if (pt_cmpR op_ge (pv 2) (pe_op op_pow pe_int pe_int) (nomark _)) (pss_cons (ps_expr (pe_bm PySem.F.plainAttrs_list PySem.F.slot_list_insert PySem.F.type_list_insert mt_insert (pe_ix ix_list (pv 0) pe_int (fun _ _ => rfl)) (pa_cons pe_int (pa_cons (pe_op op_fdiv (pv 2) (pv 1)) pa_nil)))) (pss_one (ps_ret (pe_op op_mod (pv 2) (pv 1))))) pss_nil))) pss_nil) (pss_cons (ps_set (i := 3) sc_draw.nd rfl (by first | exact .inl rfl | exact .inr rfl) (pe_op op_mod (pe_op op_mul (pe_op op_add (pe_op op_add (pe_op op_mod (pv 2) pe_int) (pe_op op_mul (pe_op op_mul pe_int (pe_ix ix_list (pv 0) pe_int (fun _ _ => rfl))) (pe_ix ix_list (pv 0) pe_int (fun _ _ => rfl)))) pe_int) pe_int) pe_int)) (pss_cons (ps_set (i := 3) sc_draw.nd rfl (by first | exact .inl rfl | exact .inr rfl) (pe_op op_mod (pe_op op_add (pe_op op_add (pe_op op_mul (pv 3) (pv 3)) (pe_op op_mul pe_int (pv 3))) (pe_ix ix_list (pv 0) pe_int (fun _ _ => rfl))) pe_int)) (pss_one (ps_ret (pe_op op_mod (pe_op op_fdiv (pv 3) pe_int) (pv 1))))))))), ?_⟩
    -- deck[1] = deck[1] + 1
    refine ⟨.ref d, rfl, d, _, 1, .int z, rfl, rfl, SqL.of hd, rfl, z, 1, rfl, rfl, .ref d, rfl, d, _, 1, 1, rfl, rfl, hd, rfl, ?_⟩
    have hd1 : (upd H d (.lst [.ref l, .int (z + 1), .int y])) d = some (.lst [.ref l, .int (z + 1), .int y]) := upd_same
    have hl1 : (upd H d (.lst [.ref l, .int (z + 1), .int y])) l = some (.lst (cs.map V.int)) := by rw [upd_ne ne.symm]; exact hl
    have fr1 : Fr d l H (upd H d (.lst [.ref l, .int (z + 1), .int y])) := Fr.d
    have hz2 : 0 ≤ z + 1 := by omega
    have hz3 : z + 1 ≤ n + 1 := by omega
    have hz4 : z + 1 < 2000000000 := by omega
    show tSeq _ _ _ _ (upd H d (.lst [.ref l, .int (z + 1), .int y]))
    revert hd1 hl1 fr1 hz2 hz3 hz4
    generalize upd H d (.lst [.ref l, .int (z + 1), .int y]) = H1
    generalize z + 1 = z'
    intro hd1 hl1 fr1 hz2 hz3 hz4
    -- cell = deck[2] + 104729 * deck[1]
    refine ⟨.ref d, rfl, d, _, 2, .int y, rfl, rfl, SqL.of hd1, rfl, .ref d, rfl, d, _, 1, .int z', rfl, rfl, SqL.of hd1, rfl, 104729, z', rfl, rfl, .inl ⟨by decide, by decide⟩, _, _, rfl, rfl, ?_⟩
    -- if deck[0] != []
    refine ⟨.ref d, rfl, d, _, 0, .ref l, rfl, rfl, SqL.of hd1, rfl, Nat.zero_le _, fun p np => ?_⟩
    have fr2 : Fr d l H (upd H1 p (.lst [])) := fr1.trans (Fr.new np)
    have hd2 : (upd H1 p (.lst [])) d = some (.lst [.ref l, .int z', .int y]) := same_upd np _ _ hd1
    have hl2 : (upd H1 p (.lst [])) l = some (.lst (cs.map V.int)) := same_upd np _ _ hl1
    refine ⟨.list (cs.map .int), .list [], .lst (SqL.of hl2) (dpInts cs), .lst (SqL.of upd_same) .nil, shInts cs, rfl, _, rfl, ?_⟩
    revert fr2 hd2 hl2
    generalize upd H1 p (.lst []) = H2
    intro fr2 hd2 hl2
    cases cs with
    | nil =>
      refine iteF ?_
      refine ⟨.int (y + 104729 * z'), rfl, _, _, rfl, rfl, p29, .ref d, rfl, d, _, 1, .int z', rfl, rfl, SqL.of hd2, rfl, 7919, z', rfl, rfl, .inl ⟨by decide, by decide⟩, .ref d, rfl, d, _, 1, .int z', rfl, rfl, SqL.of hd2, rfl, 7919 * z', z', rfl, rfl, .inr ⟨by omega, by omega⟩, _, _, rfl, rfl, _, _, rfl, rfl, _, 48271, rfl, rfl, .inr ⟨by decide, by decide⟩, _, _, rfl, rfl, p47, ?_⟩
      dsimp only
      have v0 := Int.emod_nonneg (((y + 104729 * z') % 2147483629 + 7919 * z' * z' + 31) * 48271) (show (2147483647 : Int) ≠ 0 by decide)
      have v1 := Int.emod_lt_of_pos (((y + 104729 * z') % 2147483629 + 7919 * z' * z' + 31) * 48271) (show (0 : Int) < 2147483647 by decide)
      revert v0 v1
      generalize (((y + 104729 * z') % 2147483629 + 7919 * z' * z' + 31) * 48271) % 2147483647 = v
      intro v0 v1
      refine ⟨.int v, rfl, .int v, rfl, v, v, rfl, rfl, .inl ⟨by omega, by omega⟩, .int v, rfl, 69621, v, rfl, rfl, .inl ⟨by decide, by decide⟩, _, _, rfl, rfl, .ref d, rfl, d, _, 1, .int z', rfl, rfl, SqL.of hd2, rfl, _, _, rfl, rfl, _, _, rfl, rfl, p87, ?_⟩
      refine ⟨.int ((v * v + 69621 * v + z') % 2147483587), rfl, _, _, rfl, rfl, ⟨by decide, by decide⟩, .int m, rfl, _, _, rfl, rfl, hm0, ?_⟩
      exact q _ _ ⟨ne, [], z', y, hd2, hl2, hcs, hz2, hz3⟩ fr2 (Int.emod_nonneg _ (by omega)) (Int.emod_lt_of_pos _ hm0)
    | cons c r =>
      refine iteT ?_
      -- cell = deck[0].pop(0)
      refine ⟨.ref d, rfl, d, _, 0, .ref l, rfl, rfl, SqL.of hd2, rfl, .inl ⟨rfl, _, SqL.of hl2⟩, l, _, 0, 0, .int c, rfl, rfl, hl2, by decide, by decide, seqIx0 _ _, rfl, ?_⟩
      have hd3 : (upd H2 l (.lst (r.map V.int))) d = some (.lst [.ref l, .int z', .int y]) := by rw [upd_ne ne]; exact hd2
      have hl3 : (upd H2 l (.lst (r.map V.int))) l = some (.lst (r.map V.int)) := upd_same
      have fr3 : Fr d l H (upd H2 l (.lst (r.map V.int))) := fr2.trans Fr.l
      have hr63 : r.length + 1 ≤ 63 := hcs
      -- if cell >= 10 ** 18
      refine ⟨.int c, rfl, _, _, rfl, rfl, ⟨by decide, by decide, by decide⟩, _, _, rfl, rfl, _, rfl, ite2 (fun _ => ?_) (fun _ => ?_)⟩
      · refine ⟨.ref d, rfl, d, _, 0, .ref l, rfl, rfl, SqL.of hd3, rfl, .inl ⟨rfl, _, SqL.of hl3⟩, .int c, rfl, .int m, rfl, _, _, rfl, rfl, ⟨hm0, hm1⟩, l, _, 0, _, rfl, rfl, hl3, ?_, by decide, by decide, ?_⟩
        · rw [List.length_map]
          exact Nat.lt_of_lt_of_le (show r.length < 64 by omega) (by decide)
        · refine ⟨.int c, rfl, .int m, rfl, _, _, rfl, rfl, hm0, ?_⟩
          refine q _ _ ⟨ne, c / m :: r, z', y, (by rw [upd_ne ne]; exact hd3), ?_, hr63, hz2, hz3⟩ (fr3.trans Fr.l) (Int.emod_nonneg _ (by omega)) (Int.emod_lt_of_pos _ hm0)
          rw [upd_same]
          simp
      · refine ⟨.int c, rfl, _, _, rfl, rfl, p29, .ref d, rfl, d, _, 1, .int z', rfl, rfl, SqL.of hd3, rfl, 7919, z', rfl, rfl, .inl ⟨by decide, by decide⟩, .ref d, rfl, d, _, 1, .int z', rfl, rfl, SqL.of hd3, rfl, 7919 * z', z', rfl, rfl, .inr ⟨by omega, by omega⟩, _, _, rfl, rfl, _, _, rfl, rfl, _, 48271, rfl, rfl, .inr ⟨by decide, by decide⟩, _, _, rfl, rfl, p47, ?_⟩
        dsimp only
        have v0 := Int.emod_nonneg ((c % 2147483629 + 7919 * z' * z' + 31) * 48271) (show (2147483647 : Int) ≠ 0 by decide)
        have v1 := Int.emod_lt_of_pos ((c % 2147483629 + 7919 * z' * z' + 31) * 48271) (show (0 : Int) < 2147483647 by decide)
        revert v0 v1
        generalize ((c % 2147483629 + 7919 * z' * z' + 31) * 48271) % 2147483647 = v
        intro v0 v1
        refine ⟨.int v, rfl, .int v, rfl, v, v, rfl, rfl, .inl ⟨by omega, by omega⟩, .int v, rfl, 69621, v, rfl, rfl, .inl ⟨by decide, by decide⟩, _, _, rfl, rfl, .ref d, rfl, d, _, 1, .int z', rfl, rfl, SqL.of hd3, rfl, _, _, rfl, rfl, _, _, rfl, rfl, p87, ?_⟩
        refine ⟨.int ((v * v + 69621 * v + z') % 2147483587), rfl, _, _, rfl, rfl, ⟨by decide, by decide⟩, .int m, rfl, _, _, rfl, rfl, hm0, ?_⟩
        exact q _ _ ⟨ne, r, z', y, hd3, hl3, by omega, hz2, hz3⟩ fr3 (Int.emod_nonneg _ (by omega)) (Int.emod_lt_of_pos _ hm0)

/-! ### drawn tables, nets, changes -/
def TabsIn (k : Nat) (bss : List (List Bool)) : Prop := bss ≠ [] ∧ bss.length ≤ 8 ∧ ∀ bs ∈ bss, bs.length = 2 ^ k
def vT (bs : List Bool) : V := .str (tabOf bs)
theorem tab_pick {k : Nat} {bss : List (List Bool)} (h : TabsIn k bss) {v : Int} (v0 : 0 ≤ v) (v1 : v < bss.length) : ∃ bs, atI (bss.map vT) v = some (vT bs) ∧ bs.length = 2 ^ k := by
  obtain ⟨j, rfl⟩ := Int.eq_ofNat_of_zero_le v0
  have hj : j < bss.length := by omega
  refine ⟨bss[j], atI_nat ?_, h.2.2 _ (List.getElem_mem hj)⟩
  rw [List.getElem?_map, List.getElem?_eq_getElem hj]
  rfl
def tabs1 : List (List Bool) := [[true, false], [false, true], [true, false]]
def tabs2 : List (List Bool) := [[false, false, false, true], [false, true, true, true], [false, true, true, false], [true, true, true, false], [true, false, false, false], [true, false, false, true], [false, false, true, false], [true, true, false, true]]
def tabs3 : List (List Bool) := [[false, false, false, false, false, false, false, true], [false, true, true, true, true, true, true, true], [false, true, true, false, true, false, false, true], [false, false, false, true, false, true, true, true],
  [false, false, true, true, false, true, false, true], [true, true, true, false, true, false, false, false], [true, false, false, false, false, false, false, false], [false, true, false, false, false, false, true, false]]
theorem tabsIn1 : TabsIn 1 tabs1 := ⟨by decide, by decide, by decide⟩
theorem tabsIn2 : TabsIn 2 tabs2 := ⟨by decide, by decide, by decide⟩
theorem tabsIn3 : TabsIn 3 tabs3 := ⟨by decide, by decide, by decide⟩
def sg (b : Bool) : Str := SX.S [if b = true then 49 else 48]
theorem sg0 : Str.ofString (toString (0 : Int)) = sg false := by decide +kernel
theorem sg1 : Str.ofString (toString (1 : Int)) = sg true := by decide +kernel
theorem joinL_nil : ∀ l : List (List Nat), TL.joinL [] l = l.flatten
  | [] => rfl
  | [p] => by simp [TL.joinL]
  | p :: q :: r => by
    show p ++ ([] ++ TL.joinL [] (q :: r)) = _
    rw [joinL_nil (q :: r)]
    rfl
theorem join_sg (bs : List Bool) : Txt.join (Str.ofString "") (bs.map sg) = tabOf bs := by
  have e : bs.map sg = (bs.map fun b => [if b = true then 49 else 48]).map SX.S := by rw [List.map_map]; rfl
  have z : Str.ofString "" = SX.S [] := by decide +kernel
  rw [e, z, SX.join_S, joinL_nil]
  have : (bs.map fun b => [if b = true then 49 else 48]).flatten = bs.map fun b => if b = true then 49 else 48 := by
    clear e z
    induction bs with
    | nil => rfl
    | cons b r ih => rw [List.map_cons, List.flatten_cons, ih]; rfl
  rw [this]
  rfl
theorem Fr.inv {d l : Addr} {H H' : Hp} (f : Fr d l H H') {b : Addr} {o : HO} (h1 : b ≠ d) (h2 : b ≠ l) (e : H b = some o) : H' b = some o := f b o h1 h2 e
def sp_table (K : PySem.W.Frag) : Sp := fun vs H Q _ => ∃ (d l : Addr) (n : Int) (k : Nat), vs = [.ref d, .int k] ∧ DeckB H d l n ∧ n < 1000000 ∧ 1 ≤ k ∧ k ≤ 3 ∧ ∀ H' bs, DeckB H' d l (n + 10) → Fr d l H H' → bs.length = 2 ^ k → Q (.str (tabOf bs)) H'
theorem ok_table (T : Tx K mg) : FnOk P w K mg base CX0 2 T.f_table T.fd_table ["_law_deck_here", "_law_ins"] (sp_table K) := by
  refine T.F_table.ok sc_table (fun vs H Q E h => ?_) (fun cdv A outer s H vs Q E hr h => ?_)
  · obtain ⟨d, l, n, k, rfl, _⟩ := h
    rfl
  · obtain ⟨d, l, n, k, rfl, D, hn, k1, k3, q⟩ := h
    refine ⟨_, (pss_cons (ps_set (i := 2) sc_table.nd rfl (by first | exact .inl rfl | exact .inr rfl) (pe_call (ok_draw T) (hr.mono (by decide)) (by rfl) T.g_draw T.F_draw.kp T.b_draw .nil pass0 (pa_cons (pv 0) (pa_cons pe_int pa_nil)))) (pss_cons (ps_set (i := 3) sc_table.nd rfl (by first | exact .inl rfl | exact .inr rfl) (pe_lst (pa_cons (pe_lst (pa_cons pe_str (pa_cons pe_str (pa_cons pe_str pa_nil)))) (pa_cons (pe_lst (pa_cons pe_str (pa_cons pe_str (pa_cons pe_str (pa_cons pe_str (pa_cons pe_str (pa_cons pe_str (pa_cons pe_str (pa_cons pe_str pa_nil))))))))) pa_nil)))) (pss_cons (ps_expr (pe_bm PySem.F.plainAttrs_list PySem.F.slot_list_append PySem.F.type_list_append mt_append (pv 3) (pa_cons (pe_lst (pa_cons pe_str (pa_cons pe_str (pa_cons pe_str (pa_cons pe_str (pa_cons pe_str (pa_cons pe_str (pa_cons pe_str (pa_cons pe_str pa_nil))))))))) pa_nil))) (pss_cons (ps_if (pt_cmpR op_lt (pv 2) pe_int (nomark _)) (pss_one (ps_ret (pe_ix ix_list (pe_ix ix_list (pv 3) (pe_op op_sub (pv 1) pe_int) (fun _ _ => rfl)) (pe_call (ok_draw T) (hr.mono (by decide)) (by rfl) T.g_draw T.F_draw.kp T.b_draw .nil pass0 (pa_cons (pv 0) (pa_cons (pe_callB call_len_seq (by rfl) T.m_len PySem.boot_len (pa_cons (pe_ix ix_list (pv 3) (pe_op op_sub (pv 1) pe_int) (fun _ _ => rfl)) pa_nil)) pa_nil))) (fun _ _ => rfl)))) pss_nil) (pss_one (ps_ret (pe_join pe_str (pe_lc (own := [("_law_k", 4)]) (by rfl) sc_table.nd (pi_range1 (by rfl) T.m_range (pa_cons (pe_ix ix_list (pe_lst (pa_cons pe_int (pa_cons pe_int (pa_cons pe_int pa_nil)))) (pe_op op_sub (pv 1) pe_int) (fun _ _ => rfl)) pa_nil)) (blkOk_by (own := [("_law_k", 4)]) (N := ["_law_deck_here", "_law_ins", "_law_way", "_law_some", "_law_k"]) (sc := defScope s_table) (by decide +kernel)) (fun _ _ _ _ _ => (pg_name (i := 4) sc_table.nd rfl (by first | exact .inl rfl | exact .inr rfl))) (fun _ _ _ _ _ => pts_nil) (fun _ _ _ _ _ => (pe_callTy call_str_int (by rfl) T.m_str (by decide +kernel) (pa_cons (pe_call (ok_draw T) (hr.mono (by decide)) (by rfl) T.g_draw T.F_draw.kp T.b_draw .nil pass0 (pa_cons (pv 0) (pa_cons pe_int pa_nil))) pa_nil))))))))))), ?_⟩
    refine ⟨.ref d, rfl, d, l, 3, n, rfl, D, by omega, by decide, by decide, fun H1 way D1 fr1 w0 w1 => ?_⟩
    refine ⟨by decide, fun p1 n1 => ⟨by decide, fun p2 n2 => ⟨sl2, fun p3 n3 => ?_⟩⟩⟩
    have hA1 : ([V.str (Str.ofString "10"), V.str (Str.ofString "01"), V.str (Str.ofString "10")] : List V) = tabs1.map vT := by decide +kernel
    have hA2 : ([V.str (Str.ofString "0001"), V.str (Str.ofString "0111"), V.str (Str.ofString "0110"), V.str (Str.ofString "1110"), V.str (Str.ofString "1000"), V.str (Str.ofString "1001"), V.str (Str.ofString "0010"), V.str (Str.ofString "1101")] : List V) = tabs2.map vT := by decide +kernel
    have hA3 : ([V.str (Str.ofString "00000001"), V.str (Str.ofString "01111111"), V.str (Str.ofString "01101001"), V.str (Str.ofString "00010111"), V.str (Str.ofString "00110101"), V.str (Str.ofString "11101000"), V.str (Str.ofString "10000000"), V.str (Str.ofString "01000010")] : List V) = tabs3.map vT := by decide +kernel
    rw [hA1] at n2 n3
    rw [hA2] at n3
    rw [hA1, hA2]
    refine ⟨.ref p3, rfl, .inl ⟨rfl, _, SqL.of upd_same⟩, by decide, fun p4 n4 => ?_⟩
    rw [hA3]
    have e1 : (upd (upd (upd H1 p1 (.lst (tabs1.map vT))) p2 (.lst (tabs2.map vT))) p3 (.lst [.ref p1, .ref p2])) p3 = some (.lst [.ref p1, .ref p2]) := upd_same
    have sA : Same H1 (upd (upd (upd H1 p1 (.lst (tabs1.map vT))) p2 (.lst (tabs2.map vT))) p3 (.lst [.ref p1, .ref p2])) := ((same_upd n1).trans (same_upd n2)).trans (same_upd n3)
    have e2 : (upd (upd (upd H1 p1 (.lst (tabs1.map vT))) p2 (.lst (tabs2.map vT))) p3 (.lst [.ref p1, .ref p2])) p1 = some (.lst (tabs1.map vT)) := same_upd n3 _ _ (same_upd n2 _ _ upd_same)
    have e3 : (upd (upd (upd H1 p1 (.lst (tabs1.map vT))) p2 (.lst (tabs2.map vT))) p3 (.lst [.ref p1, .ref p2])) p2 = some (.lst (tabs2.map vT)) := same_upd n3 _ _ upd_same
    have n12 : p3 ≠ p1 ∧ p3 ≠ p2 := ⟨fun z => (by rw [z, upd_ne (fun y => by rw [← y, upd_same] at n2; cases n2), upd_same] at n3; cases n3), fun z => (by rw [z, upd_same] at n3; cases n3)⟩
    revert n4 e1 sA e2 e3
    generalize upd (upd (upd H1 p1 (.lst (tabs1.map vT))) p2 (.lst (tabs2.map vT))) p3 (.lst [.ref p1, .ref p2]) = H2
    intro n4 e1 sA e2 e3
    have f1 := same_upd (o := HO.lst (tabs3.map vT)) n4 _ _ e1
    have f2 := same_upd (o := HO.lst (tabs3.map vT)) n4 _ _ e2
    have f3 := same_upd (o := HO.lst (tabs3.map vT)) n4 _ _ e3
    have f4 : (upd H2 p4 (HO.lst (tabs3.map vT))) p4 = some (.lst (tabs3.map vT)) := upd_same
    have sB : Same H1 (upd H2 p4 (HO.lst (tabs3.map vT))) := sA.trans (same_upd n4)
    have n34 : p3 ≠ p4 := ne_of_none e1 n4
    refine ⟨p3, _, _, rfl, rfl, f1, (show 2 < sizeLine by decide), ?_⟩
    have g1 : (upd (upd H2 p4 (HO.lst (tabs3.map vT))) p3 (.lst ([.ref p1, .ref p2] ++ [.ref p4]))) p3 = some (.lst [.ref p1, .ref p2, .ref p4]) := upd_same
    have g2 : (upd (upd H2 p4 (HO.lst (tabs3.map vT))) p3 (.lst ([.ref p1, .ref p2] ++ [.ref p4]))) p1 = some (.lst (tabs1.map vT)) := by rw [upd_ne n12.1.symm]; exact f2
    have g3 : (upd (upd H2 p4 (HO.lst (tabs3.map vT))) p3 (.lst ([.ref p1, .ref p2] ++ [.ref p4]))) p2 = some (.lst (tabs2.map vT)) := by rw [upd_ne n12.2.symm]; exact f3
    have g4 : (upd (upd H2 p4 (HO.lst (tabs3.map vT))) p3 (.lst ([.ref p1, .ref p2] ++ [.ref p4]))) p4 = some (.lst (tabs3.map vT)) := by rw [upd_ne n34.symm]; exact f4
    have n3' : H1 p3 = none := by
      cases z : H1 p3 with
      | none => rfl
      | some o => rw [same_upd n2 _ _ (same_upd n1 _ _ z)] at n3; cases n3
    have sC : Same H1 (upd (upd H2 p4 (HO.lst (tabs3.map vT))) p3 (.lst ([.ref p1, .ref p2] ++ [.ref p4]))) := fun b o e => by
      rw [upd_ne (ne_of_none e n3')]
      exact sB _ _ e
    show tSeq _ _ _ _ (upd (upd H2 p4 (HO.lst (tabs3.map vT))) p3 (.lst ([.ref p1, .ref p2] ++ [.ref p4])))
    revert g1 g2 g3 g4 sC
    generalize upd (upd H2 p4 (HO.lst (tabs3.map vT))) p3 (.lst ([.ref p1, .ref p2] ++ [.ref p4])) = H3
    intro g1 g2 g3 g4 sC
    have D3 := D1.same sC
    have fr3 : Fr d l H H3 := fr1.trans (Fr.of sC)
    have sel : ∃ (pk : Addr) (bss : List (List Bool)), atI [V.ref p1, V.ref p2, V.ref p4] ((k : Int) - 1) = some (.ref pk) ∧ H3 pk = some (.lst (bss.map vT)) ∧ TabsIn k bss := by
      have : k = 1 ∨ k = 2 ∨ k = 3 := by omega
      rcases this with rfl | rfl | rfl
      · exact ⟨p1, tabs1, rfl, g2, tabsIn1⟩
      · exact ⟨p2, tabs2, rfl, g3, tabsIn2⟩
      · exact ⟨p4, tabs3, rfl, g4, tabsIn3⟩
    obtain ⟨pk, bss, a1, hk, tin⟩ := sel
    have bpos : 0 < bss.length := List.length_pos_iff.mpr tin.1
    have b8 := tin.2.1
    refine ⟨.int way, rfl, _, _, rfl, rfl, _, rfl, ite2 (fun _ => ?_) (fun _ => ?_)⟩
    · refine ⟨.ref p3, rfl, .int k, rfl, _, _, rfl, rfl, p3, _, (k : Int) - 1, .ref pk, rfl, rfl, SqL.of g1, a1, .ref d, rfl, .ref p3, rfl, .int k, rfl, _, _, rfl, rfl, p3, _, (k : Int) - 1, .ref pk, rfl, rfl, SqL.of g1, a1, pk, _, rfl, .inl (SqL.of hk), ?_⟩
      rw [List.length_map]
      refine ⟨d, l, _, n + 1, rfl, D3, by omega, by omega, by omega, fun H4 v D4 fr4 v0 v1 => ?_⟩
      obtain ⟨bs, hbs, lbs⟩ := tab_pick tin v0 v1
      obtain ⟨ne, cs, z, y, hd, hl, r⟩ := D3
      have hk4 : H4 pk = some (.lst (bss.map vT)) := fr4 _ _ (fun z => ?_) (fun z => ?_) hk
      · exact ⟨pk, _, v, _, rfl, rfl, SqL.of hk4, hbs, q H4 bs (D4.mono (by omega)) (fr3.trans fr4) lbs⟩
      · rw [z, hd] at hk
        cases bss with
        | nil => exact tin.1 rfl
        | cons b r => cases hk
      · rw [z, hl] at hk
        cases bss with
        | nil => exact tin.1 rfl
        | cons b r =>
          cases cs with
          | nil => cases hk
          | cons c r => cases hk
    · refine ⟨⟨_, rfl⟩, sl3, fun p5 n5 => ?_⟩
      obtain ⟨N, hN, a2, k8⟩ : ∃ N : Nat, 2 ^ k = N ∧ atI [V.int 2, V.int 4, V.int 8] ((k : Int) - 1) = some (.int (N : Int)) ∧ N ≤ 8 := by
        have : k = 1 ∨ k = 2 ∨ k = 3 := by omega
        rcases this with rfl | rfl | rfl
        · exact ⟨2, rfl, rfl, by decide⟩
        · exact ⟨4, rfl, rfl, by decide⟩
        · exact ⟨8, rfl, rfl, by decide⟩
      refine ⟨.int k, rfl, _, _, rfl, rfl, p5, _, (k : Int) - 1, _, rfl, rfl, SqL.of upd_same, a2, _, rfl, by omega, by omega, fun D nD => ?_⟩
      have D5 := D3.same (same_upd (o := HO.lst [V.int 2, V.int 4, V.int 8]) n5)
      have fr5 : Fr d l H (upd H3 p5 (.lst [.int 2, .int 4, .int 8])) := fr3.trans (Fr.new n5)
      revert nD D5 fr5
      generalize upd H3 p5 (.lst [.int 2, .int 4, .int 8]) = H5
      intro nD D5 fr5
      have nDd : D ≠ d ∧ D ≠ l := by
        obtain ⟨ne, cs, z, y, hd, hl, r⟩ := D5
        exact ⟨(ne_of_none hd nD).symm, (ne_of_none hl nD).symm⟩
      refine lc_range (lo := 0) (n := ((N : Nat) : Int).toNat) (fun i H' => DeckB H' d l (n + 1 + i) ∧ Fr d l H H' ∧ ∃ bs : List Bool, bs.length = i ∧ H' D = some (.lst (bs.map fun b => V.str (sg b)))) ⟨(D5.same (same_upd nD)).mono (by omega), fr5.trans (Fr.new nD), [], rfl, upd_same⟩ ?_ ?_
      · rintro i H' hi ⟨Di, fri, bs, lbs, hD⟩
        have hi' : i < N := by simpa using hi
        refine ⟨rfl, .ref d, rfl, d, l, 2, _, rfl, Di, by omega, by decide, by decide, fun H6 v D6 fr6 v0 v1 => ?_⟩
        have hD6 := fr6 _ _ nDd.1 nDd.2 hD
        refine ⟨v, rfl, ?_, _, hD6, ?_, ?_, ?_, bs ++ [decide (v = 1)], by rw [List.length_append, lbs]; rfl, ?_⟩
        · have : v = 0 ∨ v = 1 := by omega
          rcases this with rfl | rfl <;> decide
        · rw [List.length_map, lbs]
          exact Nat.lt_of_lt_of_le (show i < 64 by omega) (by decide)
        · obtain ⟨ne, cs, z, y, hd, hl, r⟩ := D6
          refine ⟨ne, cs, z, y, by rw [upd_ne nDd.1.symm]; exact hd, by rw [upd_ne nDd.2.symm]; exact hl, r.1, r.2.1, ?_⟩
          have := r.2.2
          push_cast
          omega
        · intro b o h1 h2 e
          have hb : b ≠ D := ne_of_none (fr5.inv h1 h2 e) nD
          rw [upd_ne hb]
          exact fr6 _ _ h1 h2 (fri _ _ h1 h2 e)
        · rw [upd_same, List.map_append]
          have : v = 0 ∨ v = 1 := by omega
          rcases this with rfl | rfl
          · rw [sg0]; rfl
          · rw [sg1]; rfl
      · rintro H' ⟨Di, fri, bs, lbs, hD⟩
        have lb : bs.length = 2 ^ k := by rw [lbs, hN]; simp
        refine ⟨Str.ofString "", D, bs.map sg, rfl, rfl, .inl (SqL.of (by rw [hD, List.map_map]; rfl)), ?_, ?_⟩
        · rw [List.map_map, List.length_map]
          have : (bs.map ((fun x => x.length) ∘ sg)).sum = bs.length := by
            clear hD lbs lb
            induction bs with
            | nil => rfl
            | cons b r ih =>
              rw [List.map_cons, List.sum_cons, ih, List.length_cons]
              cases b <;> (show 1 + _ = _; omega)
          rw [this]
          show bs.length + bs.length * 0 ≤ _
          omega
        · rw [join_sg]
          exact q H' bs (Di.mono (by
            have : (((N : Nat) : Int).toNat : Int) ≤ 8 := by omega
            omega)) fri lb
theorem Ts.fr {H H' : Hp} {d l : Addr} {n : Int} (D : DeckB H d l n) (f : Fr d l H H') : Ts H H' := fun b xs e => by
  obtain ⟨ne, cs, z, y, hd, hl, r⟩ := D
  exact f b _ (ne_of e hd (by intro z; cases z)) (ne_of e hl (by intro z; cases z)) e
theorem DeckB.upd {H : Hp} {d l p : Addr} {n : Int} {o : HO} (D : DeckB H d l n) (h1 : p ≠ d) (h2 : p ≠ l) : DeckB (upd H p o) d l n := by
  obtain ⟨ne, cs, z, y, hd, hl, r⟩ := D
  exact ⟨ne, cs, z, y, by rw [upd_ne h1.symm]; exact hd, by rw [upd_ne h2.symm]; exact hl, r⟩
theorem DeckB.off {H : Hp} {d l p : Addr} {n : Int} (D : DeckB H d l n) (h : H p = none) : p ≠ d ∧ p ≠ l := by
  obtain ⟨ne, cs, z, y, hd, hl, r⟩ := D
  exact ⟨(ne_of_none hd h).symm, (ne_of_none hl h).symm⟩
theorem Fr.upd {d l p : Addr} {H H' : Hp} {o : HO} (f : Fr d l H H') (h : H p = none) : Fr d l H (upd H' p o) := fun b u h1 h2 e => by
  rw [upd_ne (ne_of_none e h)]
  exact f b u h1 h2 e
theorem NetOk.snoc {n : Nat} {gs : List Gt} {g : Gt} (h : NetOk n gs) (hg : GtOk (n + gs.length) g) : NetOk n (gs ++ [g]) := fun k g' e => by
  by_cases hk : k < gs.length
  · rw [List.getElem?_append_left hk] at e
    exact h k g' e
  · rw [List.getElem?_append_right (by omega)] at e
    cases hz : k - gs.length with
    | zero =>
      rw [hz] at e
      cases Option.some.inj e
      rw [show k = gs.length by omega]
      exact hg
    | succ j => rw [hz] at e; cases e


end
end Gk

set_option Elab.async false
set_option linter.all false
set_option maxRecDepth 100000
set_option maxHeartbeats 1000000
set_option pp.maxSteps 1500
set_option pp.deepTerms false
namespace Gk
open PySem PySem.Spec PyProof.Rows L2
section
variable {P : Program} {w : World} {K : PySem.W.Frag} {mg : Str → Option Value} {base : Heap}
theorem pick6 {v : Int} (v0 : 0 ≤ v) (v1 : v < 6) {a b c d e f : Nat} (ha : 1 ≤ a ∧ a ≤ 3) (hb : 1 ≤ b ∧ b ≤ 3) (hc : 1 ≤ c ∧ c ≤ 3) (hd : 1 ≤ d ∧ d ≤ 3) (he : 1 ≤ e ∧ e ≤ 3) (hf : 1 ≤ f ∧ f ≤ 3) :
    ∃ n : Nat, atI [V.int (a : Nat), V.int (b : Nat), V.int (c : Nat), V.int (d : Nat), V.int (e : Nat), V.int (f : Nat)] v = some (.int (n : Int)) ∧ 1 ≤ n ∧ n ≤ 3 := by
  have : v = 0 ∨ v = 1 ∨ v = 2 ∨ v = 3 ∨ v = 4 ∨ v = 5 := by omega
  rcases this with rfl | rfl | rfl | rfl | rfl | rfl
  · exact ⟨a, rfl, ha⟩
  · exact ⟨b, rfl, hb⟩
  · exact ⟨c, rfl, hc⟩
  · exact ⟨d, rfl, hd⟩
  · exact ⟨e, rfl, he⟩
  · exact ⟨f, rfl, hf⟩
def nV (ws : List Nat) : List V := (ws.map Int.ofNat).map V.int
theorem nV_len (ws : List Nat) : (nV ws).length = ws.length := by unfold nV; rw [List.length_map, List.length_map]
theorem nV_get {ws : List Nat} {j k : Nat} (h : ws[j]? = some k) : (nV ws)[j]? = some (.int (Int.ofNat k)) := by
  unfold nV
  rw [List.getElem?_map, List.getElem?_map, h]
  rfl
theorem nV_app (a b : List Nat) : nV (a ++ b) = nV a ++ nV b := by unfold nV; rw [List.map_append, List.map_append]
theorem nV_erase : ∀ (ws : List Nat) (t : Nat), (nV ws).eraseIdx t = nV (ws.eraseIdx t)
  | [], _ => rfl
  | _ :: _, 0 => rfl
  | w :: r, t + 1 => by
    show V.int (Int.ofNat w) :: (nV r).eraseIdx t = V.int (Int.ofNat w) :: nV (r.eraseIdx t)
    rw [nV_erase r t]
/-- a new gate behind the others -/
theorem gate_new {H : Hp} {bs : List Bool} {ws : List Nat} {ti tt : Addr} (nti : H ti = none) (ntt : (upd H ti (.tup (nV ws))) tt = none) : Tk (upd (upd H ti (.tup (nV ws))) tt (.tup [.str (tabOf bs), .ref ti])) (.ref tt) (gD (bs, ws)) :=
  .tup upd_same (.cons (.str _) (.cons (.tup (same_upd ntt _ _ upd_same) (TkAll.ints _)) .nil))
theorem none_of_fr {d l p : Addr} {H H' : Hp} {n : Int} (f : Fr d l H H') (D : DeckB H' d l n) (h : H' p = none) : H p = none := by
  have o := D.off h
  cases z : H p with
  | none => rfl
  | some x => rw [f _ _ o.1 o.2 z] at h; cases h

/-! ### a drawn formula with few readings of inputs -/
def sp_small (K : PySem.W.Frag) : Sp := fun vs H Q _ => ∃ (d l : Addr) (n : Int) (many count : Nat), vs = [.ref d, .int many, .int count, .int 12] ∧ DeckB H d l n ∧ n < 100000 ∧ 1 ≤ many ∧ many ≤ 6 ∧ count ≤ 40 ∧
  ∀ r H' gs, DeckB H' d l (n + 20 * count) → Fr d l H H' → Tk H' (.ref r) (netD (many : Nat) gs) → gs.length = count → NetOk many gs → Q (.ref r) H'
theorem ok_small (T : Tx K mg) : FnOk P w K mg base CX0 3 T.f_small T.fd_small ["_law_deck_here", "_law_many", "_law_count", "_law_most"] (sp_small K) := by
  refine T.F_small.ok sc_small (fun vs H Q E h => ?_) (fun cdv A outer s H vs Q E hr h => ?_)
  · obtain ⟨d, l, n, many, count, rfl, _⟩ := h
    rfl
  · obtain ⟨d, l, n, many, count, rfl, D, hn, m1, m6, c40, q⟩ := h
    refine ⟨_, (pss_cons (ps_set (i := 4) sc_small.nd rfl (by first | exact .inl rfl | exact .inr rfl) (pe_lst pa_nil)) (pss_cons (ps_set (i := 5) sc_small.nd rfl (by first | exact .inl rfl | exact .inr rfl) (pe_lst pa_nil)) (pss_cons (ps_set (i := 6) sc_small.nd rfl (by first | exact .inl rfl | exact .inr rfl) (pv 3)) (pss_cons (ps_for PassesOwn.never rfl (pi_range1 (by rfl) T.m_range (pa_cons (pv 2) pa_nil)) (pg_name (i := 7) sc_small.nd rfl (by first | exact .inl rfl | exact .inr rfl)) (pss_cons (ps_set (i := 8) sc_small.nd rfl (by first | exact .inl rfl | exact .inr rfl) (pe_lst pa_nil)) (pss_cons (ps_for PassesOwn.never rfl (pi_range1 (by rfl) T.m_range (pa_cons (pe_ix ix_list (pe_lst (pa_cons pe_int (pa_cons pe_int (pa_cons pe_int (pa_cons pe_int (pa_cons pe_int (pa_cons pe_int pa_nil))))))) (pe_call (ok_draw T) (hr.mono (by decide)) (by rfl) T.g_draw T.F_draw.kp T.b_draw .nil pass0 (pa_cons (pv 0) (pa_cons pe_int pa_nil))) (fun _ _ => rfl)) pa_nil)) (pg_name (i := 9) sc_small.nd rfl (by first | exact .inl rfl | exact .inr rfl)) (pss_cons (ps_set (i := 10) sc_small.nd rfl (by first | exact .inl rfl | exact .inr rfl) (pe_call (ok_draw T) (hr.mono (by decide)) (by rfl) T.g_draw T.F_draw.kp T.b_draw .nil pass0 (pa_cons (pv 0) (pa_cons pe_int pa_nil)))) (pss_one (ps_if (pt_cut (pw_and (pt_cmpR (op_neD hr.units) (pv 5) (pe_lst pa_nil) (nomark _)) (pw_and1 (pw_or (pt_cmpR op_eq (pv 10) pe_int (nomark _)) (pw_or1 (pt_cmpR op_eq (pv 6) pe_int (nomark _)))).pt)).pt) (pss_one (ps_expr (pe_bm PySem.F.plainAttrs_list PySem.F.slot_list_append PySem.F.type_list_append mt_append (pv 8) (pa_cons (pe_bm PySem.F.plainAttrs_list PySem.F.slot_list_pop PySem.F.type_list_pop mt_popAt (pv 5) (pa_cons (pe_call (ok_draw T) (hr.mono (by decide)) (by rfl) T.g_draw T.F_draw.kp T.b_draw .nil pass0 (pa_cons (pv 0) (pa_cons (pe_callB call_len_seq (by rfl) T.m_len PySem.boot_len (pa_cons (pv 5) pa_nil)) pa_nil))) pa_nil)) pa_nil)))) (pss_one (ps_if (pt_cmpR op_gt (pv 6) pe_int (nomark _)) (pss_cons (ps_expr (pe_bm PySem.F.plainAttrs_list PySem.F.slot_list_append PySem.F.type_list_append mt_append (pv 8) (pa_cons (pe_call (ok_draw T) (hr.mono (by decide)) (by rfl) T.g_draw T.F_draw.kp T.b_draw .nil pass0 (pa_cons (pv 0) (pa_cons (pv 1) pa_nil))) pa_nil))) (pss_one (ps_set (i := 6) sc_small.nd rfl (by first | exact .inl rfl | exact .inr rfl) (pe_op op_sub (pv 6) pe_int)))) pss_nil)))))) (pss_cons (ps_expr (pe_bm PySem.F.plainAttrs_list PySem.F.slot_list_append PySem.F.type_list_append mt_append (pv 4) (pa_cons (pe_tup (pa_cons (pe_call (ok_table T) (hr.mono (by decide)) (by rfl) T.g_table T.F_table.kp T.b_table .nil pass0 (pa_cons (pv 0) (pa_cons (pe_callB call_len_seq (by rfl) T.m_len PySem.boot_len (pa_cons (pv 8) pa_nil)) pa_nil))) (pa_cons (pe_callTy call_tuple_of (by rfl) T.m_tuple (by decide +kernel) (pa_cons (pv 8) pa_nil)) pa_nil))) pa_nil))) (pss_one (ps_expr (pe_bm PySem.F.plainAttrs_list PySem.F.slot_list_append PySem.F.type_list_append mt_append (pv 5) (pa_cons (pe_op op_add (pv 1) (pv 7)) pa_nil)))))))) (pss_one (ps_ret (pe_tup (pa_cons (pv 1) (pa_cons (pe_callTy call_tuple_of (by rfl) T.m_tuple (by decide +kernel) (pa_cons (pv 4) pa_nil)) pa_nil))))))))), ?_⟩
    have hcc : (((count : Int).toNat : Nat) : Int) = count := by simp
    refine ⟨Nat.zero_le _, fun G nG => ?_⟩
    have oG := D.off nG
    refine ⟨Nat.zero_le _, fun F nF => ?_⟩
    have DF := D.same (same_upd (o := HO.lst []) nG)
    have oF := DF.off nF
    have nF0 : H F = none := none_of_fr (Fr.new nG) DF nF
    have nGF : G ≠ F := fun z => by rw [← z, upd_same] at nF; cases nF
    refine ⟨.int 12, rfl, .int count, rfl, count, rfl, by omega, by omega, ?_⟩
    refine for_range (lo := 0) (n := (count : Int).toNat) (fun i σ H' => ∃ (left : Nat) (y5 y6 y7 y8 : Option V), σ = [some (.ref d), some (.int many), some (.int count), some (.int 12), some (.ref G), some (.ref F), some (.int (left : Int)), y5, y6, y7, y8] ∧ DeckB H' d l (n + 20 * i) ∧ Fr d l H H' ∧ (∃ acc gs, H' G = some (.lst acc) ∧ TkAll H' acc (gs.map gD) ∧ gs.length = i ∧ NetOk many gs) ∧ ∃ fr : List Nat, H' F = some (.lst (nV fr)) ∧ fr.length ≤ i ∧ (∀ x ∈ fr, x < many + i) ∧ (fr ≠ [] ∨ 0 < left))
      ⟨12, _, _, _, _, rfl, (DF.same (same_upd nF)).mono (by omega), (Fr.new nG).trans (Fr.new nF), ⟨[], [], same_upd nF _ _ upd_same, .nil, rfl, fun k g e => by simp at e⟩, [], upd_same, Nat.zero_le _, (fun x hx => by cases hx), .inr (by decide)⟩ ?_ ?_
    · rintro i σ H1 hi ⟨left, y5, y6, y7, y8, rfl, D1, fr1, ⟨acc, gs, hG, tg, lg, ok⟩, fr, hF, lf, okf, some1⟩
      have hi' : i < count := by simpa using hi
      refine ⟨Nat.zero_le _, fun I nI => ?_⟩
      have oI := D1.off nI
      have nI0 : H I = none := none_of_fr fr1 D1 nI
      have nGI : G ≠ I := ne_of_none hG nI
      have nFI : F ≠ I := ne_of_none hF nI
      have sI := same_upd (o := HO.lst []) nI
      have D2 := D1.same sI
      have hG2 := sI _ _ hG
      have hF2 := sI _ _ hF
      have tg2 := tg.ts (Ts.same sI) (noL_gates gs)
      have fr2 : Fr d l H (upd H1 I (.lst [])) := fr1.trans (Fr.of sI)
      have hI2 : (upd H1 I (.lst [])) I = some (.lst []) := upd_same
      show tSeq _ _ _ _ (upd H1 I (.lst []))
      revert D2 hG2 hF2 tg2 fr2 hI2
      generalize upd H1 I (.lst []) = H2
      intro D2 hG2 hF2 tg2 fr2 hI2
      refine ⟨by decide, fun p6 n6 => ?_⟩
      have o6 := D2.off n6
      have s26 := same_upd (o := HO.lst [V.int 2, V.int 2, V.int 1, V.int 3, V.int 2, V.int 3]) n6
      have D2' := D2.same s26
      refine ⟨.ref d, rfl, d, l, 6, _, rfl, D2', by omega, by decide, by decide, fun H3 v D3 fr3 v0 v1 => ?_⟩
      have h63 := fr3 _ _ o6.1 o6.2 upd_same
      have hG3 := fr3 _ _ oG.1 oG.2 (s26 _ _ hG2)
      have hF3 := fr3 _ _ oF.1 oF.2 (s26 _ _ hF2)
      have hI3 := fr3 _ _ oI.1 oI.2 (s26 _ _ hI2)
      have tg3 := tg2.ts ((Ts.same s26).trans (Ts.fr D2' fr3)) (noL_gates gs)
      have frA : Fr d l H H3 := (fr2.trans (Fr.of s26)).trans fr3
      obtain ⟨c, hc, c1, c3⟩ := pick6 (a := 2) (b := 2) (c := 1) (d := 3) (e := 2) (f := 3) v0 v1 (by omega) (by omega) (by omega) (by omega) (by omega) (by omega)
      refine ⟨p6, _, v, _, rfl, rfl, SqL.of h63, hc, c, rfl, by omega, by omega, ?_⟩
      have hc2 : (((c : Int).toNat : Nat) : Int) = c := by simp
      refine for_range (lo := 0) (n := (c : Int).toNat) (fun j σ H' => ∃ (left' : Nat) (y7 y8 : Option V), σ = [some (.ref d), some (.int many), some (.int count), some (.int 12), some (.ref G), some (.ref F), some (.int (left' : Int)), some (.int (0 + (i : Int))), some (.ref I), y7, y8] ∧ DeckB H' d l (n + 20 * i + 1 + 3 * j) ∧ Fr d l H H' ∧ H' G = some (.lst acc) ∧ TkAll H' acc (gs.map gD) ∧ (∃ fr : List Nat, H' F = some (.lst (nV fr)) ∧ fr.length ≤ i ∧ (∀ x ∈ fr, x < many + i) ∧ (j = 0 → fr ≠ [] ∨ 0 < left')) ∧
          ∃ ws : List Nat, H' I = some (.lst (nV ws)) ∧ ws.length ≤ j ∧ (0 < j → 0 < ws.length) ∧ ∀ w ∈ ws, w < many + i)
        ⟨left, _, _, rfl, D3.mono (by omega), frA, hG3, tg3, ⟨fr, hF3, lf, okf, fun _ => some1⟩, [], hI3, Nat.le_refl _, (fun z => absurd z (Nat.lt_irrefl _)), fun w hw => by cases hw⟩ ?_ ?_
      · rintro j σ H4 hj ⟨left', y7, y8, rfl, D4, fr4, hG4, tg4, ⟨f4, hF4, lf4, okf4, some4⟩, ws, hI4, lw, lw0, okw⟩
        have hj' : j < c := by simpa using hj
        refine ⟨.ref d, rfl, d, l, 3, _, rfl, D4, by omega, by decide, by decide, fun H5 way D5 fr5 w0 w1 => ?_⟩
        have hI5 := fr5 _ _ oI.1 oI.2 hI4
        have hF5 := fr5 _ _ oF.1 oF.2 hF4
        have hG5 := fr5 _ _ oG.1 oG.2 hG4
        have tg5 := tg4.ts (Ts.fr D4 fr5) (noL_gates gs)
        have frB := fr4.trans fr5
        -- the test
        refine ⟨fun b H' => Same H5 H' ∧ (b = true → f4 ≠ []) ∧ (b = false → f4 = [] ∨ 0 < left'), ?_, ?_⟩
        · refine ⟨.ref F, rfl, Nat.zero_le _, fun p np => ?_⟩
          have sp := same_upd (o := HO.lst []) np
          refine ⟨.list ((f4.map Int.ofNat).map .int), .list [], .lst (SqL.of (sp _ _ hF5)) (dpInts _), .lst (SqL.of upd_same) .nil, shInts _, rfl, _, rfl, ?_⟩
          by_cases fe : f4 = []
          · subst fe
            refine iteF ⟨sp, (fun z => by cases z), fun _ => .inl rfl⟩
          · have e1 : (!PyData.eqv (.list ((f4.map Int.ofNat).map .int)) (.list [])) = true := by
              cases f4 with
              | nil => exact absurd rfl fe
              | cons _ _ => rfl
            rw [e1]
            refine iteT ?_
            refine ⟨.int way, rfl, rfl, _, rfl, ite2 (fun _ => ⟨sp, (fun _ => fe), fun z => by cases z⟩) (fun _ => ?_)⟩
            refine ⟨.int (left' : Int), rfl, rfl, _, rfl, sp, (fun _ => fe), fun z => .inr ?_⟩
            have : ¬ V.int (left' : Int) = V.int 0 := of_decide_eq_false z
            have n0 : left' ≠ 0 := fun k => this (by rw [k]; rfl)
            omega
        · rintro b H6 ⟨s56, hb, hb2⟩
          have D6 := D5.same s56
          have hI6 := s56 _ _ hI5
          have hF6 := s56 _ _ hF5
          have hG6 := s56 _ _ hG5
          have tg6 := tg5.ts (Ts.same s56) (noL_gates gs)
          have frC := frB.trans (Fr.of s56)
          -- an in more
          have fin : ∀ {H' : Hp} {x : Nat}, DeckB H' d l (n + 20 * i + 1 + 3 * j + 2) → Fr d l H H' → H' G = some (.lst acc) → TkAll H' acc (gs.map gD) → (∃ fr : List Nat, H' F = some (.lst (nV fr)) ∧ fr.length ≤ i ∧ ∀ x ∈ fr, x < many + i) → H' I = some (.lst (nV ws)) → x < many + i →
              (nV ws).length < sizeLine ∧ DeckB (upd H' I (.lst (nV ws ++ [.int (Int.ofNat x)]))) d l (n + 20 * i + 1 + 3 * ((j + 1 : Nat) : Int)) ∧ Fr d l H (upd H' I (.lst (nV ws ++ [.int (Int.ofNat x)]))) ∧ (upd H' I (.lst (nV ws ++ [.int (Int.ofNat x)]))) G = some (.lst acc) ∧ TkAll (upd H' I (.lst (nV ws ++ [.int (Int.ofNat x)]))) acc (gs.map gD) ∧
              (∀ left'' : Nat, ∃ fr : List Nat, (upd H' I (.lst (nV ws ++ [.int (Int.ofNat x)]))) F = some (.lst (nV fr)) ∧ fr.length ≤ i ∧ (∀ x ∈ fr, x < many + i) ∧ (j + 1 = 0 → fr ≠ [] ∨ 0 < left'')) ∧ ∃ ws' : List Nat, (upd H' I (.lst (nV ws ++ [.int (Int.ofNat x)]))) I = some (.lst (nV ws')) ∧ ws'.length ≤ j + 1 ∧ (0 < j + 1 → 0 < ws'.length) ∧ ∀ w ∈ ws', w < many + i := by
            intro H' x D' fr' hG' tg' hF' hI' hx
            obtain ⟨f', hF', lf', okf'⟩ := hF'
            refine ⟨?_, (D'.upd oI.1 oI.2).mono (by push_cast; omega), Fr.upd fr' nI0, by rw [upd_ne nGI]; exact hG', tg'.ts (Ts.set hI') (noL_gates gs), (fun _ => ⟨f', by rw [upd_ne nFI]; exact hF', lf', okf', fun z => by omega⟩), ws ++ [x], ?_, by rw [List.length_append]; exact Nat.succ_le_succ lw, (fun _ => by rw [List.length_append]; exact Nat.succ_pos _), fun w hw => ?_⟩
            · rw [nV_len]
              exact Nat.lt_of_lt_of_le (show ws.length < 64 by omega) (by decide)
            · rw [upd_same, nV_app]
              rfl
            · rcases List.mem_append.mp hw with z | z
              · exact okw w z
              · rw [List.mem_singleton.mp z]; exact hx
          cases b with
          | true =>
            have fne := hb rfl
            have fpos : 0 < f4.length := List.length_pos_iff.mpr fne
            refine ⟨.ref I, rfl, .inl ⟨rfl, _, SqL.of hI6⟩, .ref F, rfl, .inl ⟨rfl, _, SqL.of hF6⟩, .ref d, rfl, .ref F, rfl, F, _, rfl, .inl (SqL.of hF6), ?_⟩
            rw [nV_len]
            refine ⟨d, l, _, _, rfl, D6, by omega, by omega, by omega, fun H7 at_ D7 fr7 a0 a1 => ?_⟩
            obtain ⟨t, rfl⟩ := Int.eq_ofNat_of_zero_le a0
            have ht : t < f4.length := by omega
            have hF7 := fr7 _ _ oF.1 oF.2 hF6
            have hI7 := fr7 _ _ oI.1 oI.2 hI6
            have hG7 := fr7 _ _ oG.1 oG.2 hG6
            have tg7 := tg6.ts (Ts.fr D6 fr7) (noL_gates gs)
            refine ⟨F, _, (t : Int), t, .int (Int.ofNat f4[t]), rfl, rfl, hF7, by omega, by omega, ?_, nV_get (List.getElem?_eq_getElem ht), ?_⟩
            · rw [nV_len]
              rw [seqIndex_of (by omega) (by omega), Int.toNat_natCast]
            have hI8 : (upd H7 F (.lst ((nV f4).eraseIdx t))) I = some (.lst (nV ws)) := by rw [upd_ne nFI.symm]; exact hI7
            obtain ⟨z1, z2, z3, z4, z5, z6, z7⟩ := fin (H' := upd H7 F (.lst ((nV f4).eraseIdx t))) (x := f4[t]) ((D7.upd oF.1 oF.2).mono (by omega)) (Fr.upd (frC.trans fr7) nF0) (by rw [upd_ne nGF]; exact hG7) (tg7.ts (Ts.set hF7) (noL_gates gs))
              ⟨f4.eraseIdx t, by rw [upd_same, nV_erase], by rw [List.length_eraseIdx]; split <;> omega, fun x hx => okf4 x (List.mem_of_mem_eraseIdx hx)⟩ hI8 (okf4 _ (List.getElem_mem ht))
            exact ⟨I, _, _, rfl, rfl, hI8, z1, left', _, _, rfl, z2, z3, z4, z5, z6 _, z7⟩
          | false =>
            refine ⟨.int (left' : Int), rfl, _, _, rfl, rfl, _, rfl, ite2 (fun z => ?_) (fun z => ?_)⟩
            · have lpos : 0 < left' := by
                have := of_decide_eq_true z
                omega
              refine ⟨.ref I, rfl, .inl ⟨rfl, _, SqL.of hI6⟩, .ref d, rfl, .int many, rfl, d, l, _, _, rfl, D6, by omega, by omega, by omega, fun H7 x D7 fr7 a0 a1 => ?_⟩
              obtain ⟨t, rfl⟩ := Int.eq_ofNat_of_zero_le a0
              have hI7 := fr7 _ _ oI.1 oI.2 hI6
              obtain ⟨z1, z2, z3, z4, z5, z6, z7⟩ := fin (H' := H7) (x := t) (D7.mono (by omega)) (frC.trans fr7) (fr7 _ _ oG.1 oG.2 hG6) (tg6.ts (Ts.fr D6 fr7) (noL_gates gs)) ⟨f4, fr7 _ _ oF.1 oF.2 hF6, lf4, okf4⟩ hI7 (by omega)
              refine ⟨I, _, _, rfl, rfl, hI7, z1, ?_⟩
              refine ⟨.int (left' : Int), rfl, _, _, rfl, rfl, ?_⟩
              have el : (left' : Int) - 1 = ((left' - 1 : Nat) : Int) := by omega
              exact ⟨left' - 1, _, _, by rw [← el]; rfl, z2, z3, z4, z5, z6 _, z7⟩
            · have l0 : ¬ 0 < left' := fun k => z (decide_eq_true (by omega))
              have jpos : 0 < j := by
                rcases Nat.eq_zero_or_pos j with e | e
                · rcases some4 e with h | h
                  · rcases hb2 rfl with k | k
                    · exact absurd k h
                    · exact absurd k l0
                  · exact absurd h l0
                · exact e
              exact ⟨left', _, _, rfl, D6.mono (by push_cast; omega), frC, hG6, tg6, ⟨f4, hF6, lf4, okf4, fun z => by omega⟩, ws, hI6, by omega, (fun _ => lw0 jpos), okw⟩
      · rintro σ H4 ⟨left', y7, y8, rfl, D4, fr4, hG4, tg4, ⟨f4, hF4, lf4, okf4, _⟩, ws, hI4, lw, lw0, okw⟩
        have ec : (c : Int).toNat = c := by omega
        rw [ec] at lw lw0 D4
        have lw1 : 1 ≤ ws.length := lw0 (by omega)
        have lw3 : ws.length ≤ 3 := by omega
        refine ⟨.ref G, rfl, .inl ⟨rfl, _, SqL.of hG4⟩, .ref d, rfl, .ref I, rfl, I, _, rfl, .inl (SqL.of hI4), ?_⟩
        rw [nV_len]
        refine ⟨d, l, _, ws.length, rfl, D4, by omega, lw1, lw3, fun H5 bs D5 fr5 lb => ?_⟩
        have hI5 := fr5 _ _ oI.1 oI.2 hI4
        have hG5 := fr5 _ _ oG.1 oG.2 hG4
        have hF5 := fr5 _ _ oF.1 oF.2 hF4
        have tg5 := tg4.ts (Ts.fr D4 fr5) (noL_gates gs)
        refine ⟨.ref I, rfl, I, _, rfl, .inl ⟨SqL.of hI5, fun ti nti => ⟨sl2, fun tt ntt => ?_⟩⟩⟩
        have s5 := (same_upd (o := HO.tup (nV ws)) nti).trans (same_upd (o := HO.tup [V.str (tabOf bs), .ref ti]) ntt)
        have hG6 := s5 _ _ hG5
        have hF6 := s5 _ _ hF5
        refine ⟨G, _, _, rfl, rfl, hG6, ?_, ?_⟩
        · have := tg5.length
          rw [List.length_map, lg] at this
          exact Nat.lt_of_lt_of_le (show acc.length < 64 by omega) (by decide)
        have D6 := (D5.same s5).upd (o := HO.lst (acc ++ [.ref tt])) oG.1 oG.2
        have frD := Fr.upd (o := HO.lst (acc ++ [.ref tt])) ((fr4.trans fr5).trans (Fr.of s5)) nG
        have tgN : TkAll (upd (upd (upd H5 ti (.tup (nV ws))) tt (.tup [.str (tabOf bs), .ref ti])) G (.lst (acc ++ [.ref tt]))) (acc ++ [.ref tt]) ((gs ++ [(bs, ws)]).map gD) := by
          rw [List.map_append]
          exact (tg5.ts ((Ts.same s5).trans (Ts.set hG6)) (noL_gates gs)).append (.cons ((gate_new nti ntt).ts (Ts.set hG6) (noL_gate _)) .nil)
        have hGN : (upd (upd (upd H5 ti (.tup (nV ws))) tt (.tup [.str (tabOf bs), .ref ti])) G (.lst (acc ++ [.ref tt]))) G = some (.lst (acc ++ [.ref tt])) := upd_same
        have hFN : (upd (upd (upd H5 ti (.tup (nV ws))) tt (.tup [.str (tabOf bs), .ref ti])) G (.lst (acc ++ [.ref tt]))) F = some (.lst (nV f4)) := by rw [upd_ne nGF.symm]; exact hF6
        refine ⟨.ref F, rfl, .inl ⟨rfl, _, SqL.of hFN⟩, .int many, rfl, .int (0 + (i : Int)), rfl, _, _, rfl, rfl, F, _, _, rfl, rfl, hFN, ?_, ?_⟩
        · rw [nV_len]
          exact Nat.lt_of_lt_of_le (show f4.length < 64 by omega) (by decide)
        · refine ⟨left', _, _, _, _, rfl, (D6.upd oF.1 oF.2).mono (by push_cast; omega), Fr.upd frD nF0, ⟨_, gs ++ [(bs, ws)], by rw [upd_ne nGF]; exact hGN, tgN.ts (Ts.set hFN) (noL_gates _), by rw [List.length_append, lg]; rfl, ok.snoc ⟨?_, ?_, ?_, ?_⟩⟩, f4 ++ [many + i], ?_, by rw [List.length_append]; show f4.length + 1 ≤ i + 1; omega, (fun x hx => ?_), .inl (by simp)⟩
          · show bs.length = 2 ^ ws.length
            exact lb
          · show 1 ≤ ws.length
            exact lw1
          · show ws.length ≤ 3
            exact lw3
          · rw [lg]
            exact okw
          · rw [upd_same, nV_app]
            have : V.int ((many : Int) + (0 + (i : Int))) = V.int (Int.ofNat (many + i)) := by
              congr 1
              show (many : Int) + (0 + (i : Int)) = ((many + i : Nat) : Int)
              push_cast
              omega
            show some (HO.lst (nV f4 ++ [V.int ((many : Int) + (0 + (i : Int)))])) = _
            rw [this]
            rfl
          · rcases List.mem_append.mp hx with z | z
            · have := okf4 x z
              omega
            · rw [List.mem_singleton.mp z]
              omega
    · rintro σ H1 ⟨left, y5, y6, y7, y8, rfl, D1, fr1, ⟨acc, gs, hG, tg, lg, ok⟩, _⟩
      have lg' : gs.length = count := by rw [lg]; simp
      refine ⟨.int many, rfl, .ref G, rfl, G, _, rfl, .inl ⟨SqL.of hG, fun tq ntq => ⟨sl2, fun r nr => ?_⟩⟩⟩
      have s2 := (same_upd (o := HO.tup acc) ntq).trans (same_upd (o := HO.tup [V.int many, .ref tq]) nr)
      refine q r _ gs ((D1.same s2).mono (by omega)) (fr1.trans (Fr.of s2)) ?_ lg' ok
      exact .tup upd_same (.cons (.int _) (.cons (.tup (same_upd nr _ _ upd_same) (tg.same s2)) .nil))

end
end Gk

set_option Elab.async false
set_option linter.all false
set_option maxRecDepth 100000
set_option maxHeartbeats 1000000
set_option pp.maxSteps 1500
set_option pp.deepTerms false
namespace Gk
open PySem PySem.Spec PyProof.Rows L2
mutual
theorem Sh.gr {H H' : Hp} (s : Gr H H') : ∀ {v : V} {d : PyData}, Sh H v d → Sh H' v d
  | _, _, .non => .non
  | _, _, .bl b => .bl b
  | _, _, .int i => .int i
  | _, _, .str x => .str x
  | _, _, .lst h n t => .lst (s.lst h) n (t.gr s)
  | _, _, .tup h t => .tup (s.tup h) (t.gr s)
  | _, _, .dic h t => .dic (s.1 _ _ (fun _ z => by cases z) h) (t.gr s)
theorem ShAll.gr {H H' : Hp} (s : Gr H H') : ∀ {vs : List V} {ds : List PyData}, ShAll H vs ds → ShAll H' vs ds
  | _, _, .nil => .nil
  | _, _, .cons h t => .cons (h.gr s) (t.gr s)
end
theorem ShAll.get {H : Hp} : ∀ {xs : List V} {ds : List PyData} {j : Nat} {x : V}, ShAll H xs ds → xs[j]? = some x → ∃ d, ds[j]? = some d ∧ Sh H x d
  | _, _, _, _, .nil, h => by simp at h
  | _, _, 0, _, .cons (d := d) a _, h => by
    cases (Option.some.inj h)
    exact ⟨d, rfl, a⟩
  | _, _, j + 1, _, .cons _ t, h => t.get h
theorem ShAll.append {H : Hp} : ∀ {xs ys : List V} {ds es : List PyData}, ShAll H xs ds → ShAll H ys es → ShAll H (xs ++ ys) (ds ++ es)
  | _, _, _, _, .nil, t => t
  | _, _, _, _, .cons a r, t => .cons a (r.append t)
theorem ShAll.take {H : Hp} : ∀ {xs : List V} {ds : List PyData} (n : Nat), ShAll H xs ds → ShAll H (xs.take n) (ds.take n)
  | _, _, 0, _ => by rw [List.take_zero, List.take_zero]; exact .nil
  | _, _, n + 1, .nil => .nil
  | _, _, n + 1, .cons a r => .cons a (r.take n)
theorem ShAll.drop {H : Hp} : ∀ {xs : List V} {ds : List PyData} (n : Nat), ShAll H xs ds → ShAll H (xs.drop n) (ds.drop n)
  | _, _, 0, h => h
  | _, _, n + 1, .nil => .nil
  | _, _, n + 1, .cons _ r => r.drop n
theorem notT {b : Bool} (h : (!b) = true) : ¬ b = true := by cases b <;> simp_all
theorem notF {b : Bool} (h : ¬ (!b) = true) : b = true := by cases b <;> simp_all

section
variable {P : Program} {w : World} {K : PySem.W.Frag} {mg : Str → Option Value} {base : Heap}
/-! ### kinds of data -/
def isIntD : PyData → Bool
  | .int _ => true
  | .bool _ => true
  | _ => false
def isBoolD : PyData → Bool
  | .bool _ => true
  | _ => false
def isTupD : PyData → Bool
  | .tuple _ => true
  | _ => false
def isStrD : PyData → Bool
  | .str _ => true
  | _ => false
theorem kitInt : ∀ d : PyData, kitB (tyD d) "int" = some (isIntD d)
  | .none => (by decide +kernel : kitB "NoneType" "int" = some false)
  | .bool _ => (by decide +kernel : kitB "bool" "int" = some true)
  | .int _ => (by decide +kernel : kitB "int" "int" = some true)
  | .str _ => (by decide +kernel : kitB "str" "int" = some false)
  | .list _ => (by decide +kernel : kitB "list" "int" = some false)
  | .tuple _ => (by decide +kernel : kitB "tuple" "int" = some false)
  | .dict _ => (by decide +kernel : kitB "dict" "int" = some false)
theorem kitBool : ∀ d : PyData, kitB (tyD d) "bool" = some (isBoolD d)
  | .none => (by decide +kernel : kitB "NoneType" "bool" = some false)
  | .bool _ => (by decide +kernel : kitB "bool" "bool" = some true)
  | .int _ => (by decide +kernel : kitB "int" "bool" = some false)
  | .str _ => (by decide +kernel : kitB "str" "bool" = some false)
  | .list _ => (by decide +kernel : kitB "list" "bool" = some false)
  | .tuple _ => (by decide +kernel : kitB "tuple" "bool" = some false)
  | .dict _ => (by decide +kernel : kitB "dict" "bool" = some false)
theorem kitTup : ∀ d : PyData, kitB (tyD d) "tuple" = some (isTupD d)
  | .none => (by decide +kernel : kitB "NoneType" "tuple" = some false)
  | .bool _ => (by decide +kernel : kitB "bool" "tuple" = some false)
  | .int _ => (by decide +kernel : kitB "int" "tuple" = some false)
  | .str _ => (by decide +kernel : kitB "str" "tuple" = some false)
  | .list _ => (by decide +kernel : kitB "list" "tuple" = some false)
  | .tuple _ => (by decide +kernel : kitB "tuple" "tuple" = some true)
  | .dict _ => (by decide +kernel : kitB "dict" "tuple" = some false)
theorem kitStr : ∀ d : PyData, kitB (tyD d) "str" = some (isStrD d)
  | .none => (by decide +kernel : kitB "NoneType" "str" = some false)
  | .bool _ => (by decide +kernel : kitB "bool" "str" = some false)
  | .int _ => (by decide +kernel : kitB "int" "str" = some false)
  | .str _ => (by decide +kernel : kitB "str" "str" = some true)
  | .list _ => (by decide +kernel : kitB "list" "str" = some false)
  | .tuple _ => (by decide +kernel : kitB "tuple" "str" = some false)
  | .dict _ => (by decide +kernel : kitB "dict" "str" = some false)
def wholeD : PyData → Bool
  | .int _ => true
  | _ => false
def worthD : PyData → Bool
  | .int i => decide (0 ≤ i) && decide (i ≤ 1)
  | _ => false
theorem whole_of : ∀ {d : PyData}, isIntD d = true → wholeD d = !isBoolD d
  | .int _, _ => rfl
  | .bool _, _ => rfl
  | .none, h => by cases h
  | .str _, h => by cases h
  | .list _, h => by cases h
  | .tuple _, h => by cases h
  | .dict _, h => by cases h
theorem whole_not : ∀ {d : PyData}, ¬ isIntD d = true → wholeD d = false
  | .int _, h => absurd rfl h
  | .bool _, h => absurd rfl h
  | .none, _ => rfl
  | .str _, _ => rfl
  | .list _, _ => rfl
  | .tuple _, _ => rfl
  | .dict _, _ => rfl
theorem whole_int : ∀ {d : PyData}, wholeD d = true → ∃ i, d = .int i
  | .int i, _ => ⟨i, rfl⟩
  | .bool _, h => by cases h
  | .none, h => by cases h
  | .str _, h => by cases h
  | .list _, h => by cases h
  | .tuple _, h => by cases h
  | .dict _, h => by cases h
theorem worth_not : ∀ {d : PyData}, ¬ wholeD d = true → worthD d = false
  | .int _, h => absurd rfl h
  | .bool _, _ => rfl
  | .none, _ => rfl
  | .str _, _ => rfl
  | .list _, _ => rfl
  | .tuple _, _ => rfl
  | .dict _, _ => rfl
theorem tup_of : ∀ {d : PyData}, isTupD d = true → ∃ ds, d = .tuple ds
  | .tuple ds, _ => ⟨ds, rfl⟩
  | .bool _, h => by cases h
  | .none, h => by cases h
  | .str _, h => by cases h
  | .list _, h => by cases h
  | .int _, h => by cases h
  | .dict _, h => by cases h
def sp_is_whole (K : PySem.W.Frag) : Sp := fun vs H Q _ => ∃ (v : V) (d : PyData), vs = [v] ∧ Sh H v d ∧ Q (.bl (wholeD d)) H
theorem ok_is_whole (T : Tx K mg) : FnOk P w K mg base CX0 1 T.f_is_whole T.fd_is_whole ["thing"] (sp_is_whole K) := by
  refine T.F_is_whole.ok sc_is_whole (fun vs H Q E h => ?_) (fun cdv A outer s H vs Q E hr h => ?_)
  · obtain ⟨v, d, rfl, _⟩ := h
    rfl
  · obtain ⟨v, d, rfl, sh, q⟩ := h
    refine ⟨_, (pss_one (ps_ret (pe_and (pe_callB call_isi (by rfl) T.m_isinstance (by decide +kernel) (pa_cons (pv 0) (pa_cons (pe_bltn (v := .ty "int") (u := .type "int") (by rfl) T.m_int (by decide +kernel) rfl) pa_nil))) (pe_one (pe_not (pe_callB call_isi (by rfl) T.m_isinstance (by decide +kernel) (pa_cons (pv 0) (pa_cons (pe_bltn (v := .ty "bool") (u := .type "bool") (by rfl) T.m_bool (by decide +kernel) rfl) pa_nil)))))))), ?_⟩
    refine ⟨v, rfl, _, _, _, _, _, rfl, .ty _, sh.ty, kit_ty (kitInt d), _, rfl, ite2 (fun e => ?_) (fun e => ?_)⟩
    · refine ⟨v, rfl, _, _, _, _, _, rfl, .ty _, sh.ty, kit_ty (kitBool d), _, rfl, ?_⟩
      rw [← whole_of e]
      exact q
    · rw [whole_not e] at q
      exact q

end
/-! ### zip of two or three texts, tuples, lists -/
namespace ZpG
open PySem PySem.Spec PyProof.Rows L2
inductive ZS where
  | tx (x : PySem.Str)
  | tu (a : Addr)
  | li (a : Addr)
def ZS.val : ZS → V
  | .tx x => .str x
  | .tu a => .ref a
  | .li a => .ref a
def ZS.at (K : PySem.W.Frag) : ZS → Hp → List V → Prop
  | .tx x, _, xs => xs = x.cps.toList.map fun c => V.str ⟨#[c]⟩
  | .tu a, H, xs => SqT K H a xs
  | .li a, H, xs => SqL K H a xs
def ZS.it : ZS → Addr → Nat → Heap → Prop
  | .tx x, it, i, h => ∃ t, h.IsStrIter it (strIterType x) x t i
  | .tu a, it, i, h => h.IsTupleIter it a i
  | .li a, it, i, h => h.IsListIter it a i
def ZS.lt : ZS → Nat → Prop
  | .tx _, _ => True
  | .tu a, n => a < n
  | .li a, n => a < n
def ZS.off : ZS → Addr → Prop
  | .tx _, _ => True
  | .tu a, c => a ≠ c
  | .li a, c => a ≠ c
theorem ne' {a b : Nat} (h : a ≠ b) : @Ne Addr a b := h
theorem ZS.off_of {n c : Nat} (hc : n ≤ c) : ∀ {z : ZS}, z.lt n → z.off c
  | .tx _, _ => trivial
  | .tu _, h => Nat.ne_of_lt (Nat.lt_of_lt_of_le h hc)
  | .li _, h => Nat.ne_of_lt (Nat.lt_of_lt_of_le h hc)
theorem ZS.obj {it : Addr} {i : Nat} {h : Heap} : ∀ {z : ZS}, z.it it i h → ∃ o, h.get? it = some o ∧ ∀ v, o.data ≠ .cell v
  | .tx _, ⟨_, o, e, _, d⟩ => ⟨o, e, fun v q => by rw [d] at q; cases q⟩
  | .tu _, ⟨o, e, _, d⟩ => ⟨o, e, fun v q => by rw [d] at q; cases q⟩
  | .li _, ⟨o, e, _, d⟩ => ⟨o, e, fun v q => by rw [d] at q; cases q⟩
theorem ZS.move {it : Addr} {i : Nat} {h h' : Heap} (k : ∀ o, h.get? it = some o → h'.get? it = some o) : ∀ {z : ZS}, z.it it i h → z.it it i h'
  | .tx _, ⟨t, o, e, r⟩ => ⟨t, o, k o e, r⟩
  | .tu _, ⟨o, e, r⟩ => ⟨o, k o e, r⟩
  | .li _, ⟨o, e, r⟩ => ⟨o, k o e, r⟩
section
variable {X : Cx} {pins : List (Addr × Obj)} {σ : L2.St} {H : Hp} {s : Shared}
theorem ZS.inj (I : Inv X pins σ H s) {z : ZS} {xs ys : List V} (h1 : z.at X.K H xs) (h2 : z.at X.K H ys) : xs = ys := by
  cases z with
  | tx x =>
    have e1 : xs = _ := h1
    have e2 : ys = _ := h2
    rw [e1, e2]
  | tu a => exact I.tuple_inj h1 h2
  | li a => exact I.list_inj h1 h2
theorem ZS.draws {A : Around} {it : Addr} {i : Nat} {xs : List V} (z : ZS) (I : Inv X pins σ H s) (hq : z.at X.K H xs) (hh : A.handled = none) (off : z.off it) (st : z.it it i s.heap) :
    ∃ (fp : List Addr) (P : Nat → Value → Prop) (St : Nat → Heap → Prop), Draws X.prog X.w A it fp xs.length P St ∧ it ∈ fp ∧ (∀ c, c ∈ fp → c = it ∨ ¬ z.off c) ∧ St i s.heap ∧ (∀ j h, St j h → z.it it j h) ∧ ∀ j v, P j v → ∃ x, xs[j]? = some x ∧ RelV x v := by
  cases z with
  | tx x =>
    obtain ⟨t, st⟩ := st
    have e : xs = x.cps.toList.map fun c => V.str ⟨#[c]⟩ := hq
    have el : xs.length = x.cps.size := by rw [e, List.length_map, Array.length_toList]
    refine ⟨[it], fun i v => ∃ c u, x.cps[i]? = some c ∧ v = .str ⟨#[c]⟩ u, fun i h => h.IsStrIter it (strIterType x) x t i, ?_, List.mem_cons_self, fun c hc => .inl (List.mem_singleton.mp hc), st, fun j h q => ⟨t, q⟩, fun j v p => ?_⟩
    · rw [el]
      exact Draws.text hh it x t
    · obtain ⟨c, u, hc, rfl⟩ := p
      refine ⟨.str ⟨#[c]⟩, ?_, ⟨u, rfl⟩⟩
      rw [e, List.getElem?_map, Array.getElem?_toList, hc]
      rfl
  | tu a =>
    obtain ⟨its, rv, p, _⟩ := I.tuple hq
    have hl := rv.length
    refine ⟨[it, a], fun i v => its.toArray[i]? = some v, fun i h => h.IsTupleIter it a i ∧ h.IsTuple a its.toArray, ?_, List.mem_cons_self, fun c hc => ?_, ⟨st, p⟩, fun j h q => q.1, fun j v q => ?_⟩
    · rw [hl, ← List.size_toArray]
      exact Draws.tuple hh it a off its.toArray
    · rcases List.mem_cons.mp hc with e | e
      · exact .inl e
      · refine .inr fun q => ?_
        rw [List.mem_singleton.mp e] at q
        exact q rfl
    · have q : its[j]? = some v := by simpa using q
      have hj := (List.getElem?_eq_some_iff.mp q).1
      have hx : xs[j]? = some (xs[j]'(by omega)) := List.getElem?_eq_getElem _
      obtain ⟨u, hu, ru⟩ := rv.get hx
      rw [q] at hu
      cases Option.some.inj hu
      exact ⟨_, hx, ru⟩
  | li a =>
    obtain ⟨its, rv, p, _⟩ := I.list hq
    have hl := rv.length
    refine ⟨[it, a], fun i v => its.toArray[i]? = some v, fun i h => h.IsListIter it a i ∧ h.IsList a its.toArray, ?_, List.mem_cons_self, fun c hc => ?_, ⟨st, p.isList⟩, fun j h q => q.1, fun j v q => ?_⟩
    · rw [hl, ← List.size_toArray]
      exact Draws.list hh it a off its.toArray
    · rcases List.mem_cons.mp hc with e | e
      · exact .inl e
      · refine .inr fun q => ?_
        rw [List.mem_singleton.mp e] at q
        exact q rfl
    · have q : its[j]? = some v := by simpa using q
      have hj := (List.getElem?_eq_some_iff.mp q).1
      have hx : xs[j]? = some (xs[j]'(by omega)) := List.getElem?_eq_getElem _
      obtain ⟨u, hu, ru⟩ := rv.get hx
      rw [q] at hu
      cases Option.some.inj hu
      exact ⟨_, hx, ru⟩
theorem ZS.begins {v : Value} {xs : List V} (z : ZS) (I : Inv X pins σ H s) (hq : z.at X.K H xs) (r : RelV z.val v) : ∃ o Hh, Begins v o Hh ∧ Hh s.heap ∧ (∀ it h, h.get? it = some o → z.it it 0 h) ∧ z.lt s.heap.objs.size := by
  cases z with
  | tx x =>
    obtain ⟨t, rfl⟩ := (show ∃ t, v = Value.str x t from r)
    exact ⟨_, _, begins_text x t, trivial, fun it h e => ⟨t, _, e, rfl, rfl⟩, trivial⟩
  | tu a =>
    cases (show v = Value.ref a from r)
    obtain ⟨its, rv, p, _⟩ := I.tuple hq
    obtain ⟨o1, ho1, _⟩ := id p
    exact ⟨_, _, begins_tuple a its.toArray, p, fun it h e => ⟨_, e, rfl, rfl⟩, Heap.lt_size ho1⟩
  | li a =>
    cases (show v = Value.ref a from r)
    obtain ⟨its, rv, p, _⟩ := I.list hq
    exact ⟨_, _, begins_list a its.toArray, p.isList, fun it h e => ⟨_, e, rfl, rfl⟩, p.lt⟩
end
def Itz2 (K : PySem.W.Frag) (z1 z2 : ZS) : It :=
  ⟨fun i H => ∃ (xs1 xs2 : List V) (x1 x2 : V), z1.at K H xs1 ∧ z2.at K H xs2 ∧ xs1[i]? = some x1 ∧ xs2[i]? = some x2,
    fun i H v H' => ∃ T x1 x2, v = .ref T ∧ H T = none ∧ H' = upd H T (.tup [x1, x2]) ∧ (∀ xs, z1.at K H xs → xs[i]? = some x1) ∧ (∀ xs, z2.at K H xs → xs[i]? = some x2),
    fun i H => ∃ xs1 xs2 : List V, z1.at K H xs1 ∧ z2.at K H xs2 ∧ i ≤ xs1.length ∧ i ≤ xs2.length ∧ (i = xs1.length ∨ i = xs2.length)⟩
theorem turn_zip2 {P : Program} {w : World} {K : PySem.W.Frag} {elts : List Expr} {kk : Nat} {tpos : Pos} {z1 z2 : ZS} {n : Nat} (l1 : z1.lt n) (l2 : z2.lt n) :
    Turn P w K (.Tuple elts kk tpos) (Itz2 K z1 z2) [n + 4, n + 2, n + 3, n, n + 1] (n + 4) (fun i h => IsZip h (n + 4) (n + 2) (n + 3) .none ∧ IsTupOf2 h (n + 2) (.ref (n)) (.ref (n + 1)) ∧ (∃ x1 x2, IsTupOf2 h (n + 3) x1 x2) ∧ z1.it (n) i h ∧ z2.it (n + 1) i h) where
  mem := List.mem_cons_self
  obj := fun i h st c hc => by
    obtain ⟨hz, hTI, ⟨x1, x2, hTO⟩, st1, st2⟩ := st
    have e' : c = n + 4 ∨ c = n + 2 ∨ c = n + 3 ∨ c = n ∨ c = n + 1 := by simpa using hc
    rcases e' with q | q | q | q | q
    · rw [q]; exact ⟨_, hz, fun v q => nomatch q⟩
    · rw [q]; exact ⟨_, hTI, fun v q => nomatch q⟩
    · rw [q]; exact ⟨_, hTO, fun v q => nomatch q⟩
    · rw [q]; exact ZS.obj (z := z1) st1
    · rw [q]; exact ZS.obj (z := z2) st2
  keep := fun i h h' st k => by
    obtain ⟨hz, hTI, ⟨x1, x2, hTO⟩, st1, st2⟩ := st
    exact ⟨k _ (by simp) _ hz, k _ (by simp) _ hTI, ⟨x1, x2, k _ (by simp) _ hTO⟩, ZS.move (z := z1) (fun o q => k _ (by simp) o q) st1, ZS.move (z := z2) (fun o q => k _ (by simp) o q) st2⟩
  item := by
    intro X hP hw hK hc i pins s σ H E I hf st hg
    subst hP hw hK
    obtain ⟨hz, hTI, ⟨y1, y2, hTO⟩, st1, st2⟩ := st
    obtain ⟨xs1, xs2, x1, x2, q1, q2, h1, h2⟩ := hg
    have hh : X.A.in1.handled = none := I.ok.hd hc
    obtain ⟨fp1, P1, St1, D1, m1, f1, s1, b1, p1⟩ := z1.draws (A := X.A.in1) I q1 hh (ZS.off_of (by omega) l1) st1
    have nf1 : ∀ c, n ≤ c → c ≠ n → c ∉ fp1 := fun c h1 h2 h3 => by
      rcases f1 c h3 with e | e
      · exact h2 e
      · exact e (ZS.off_of h1 l1)
    obtain ⟨fp2, P2, St2, D2, m2, f2, s2, b2, p2⟩ := z2.draws (A := X.A.in1) I q2 hh (ZS.off_of (by omega) l2) st2
    have nf2 : ∀ c, n ≤ c → c ≠ n + 1 → c ∉ fp2 := fun c h1 h2 h3 => by
      rcases f2 c h3 with e | e
      · exact h2 e
      · exact e (ZS.off_of h1 l2)
    have t1 : i < xs1.length := (List.getElem?_eq_some_iff.mp h1).1
    have t2 : i < xs2.length := (List.getElem?_eq_some_iff.mp h2).1
    have hzl : n + 4 < s.heap.objs.size := Heap.lt_size hz
    have S : ZipSep2 (n + 4) (n + 2) (n + 3) (n) (n + 1) fp1 fp2 := { TIz := (ne' (a := n + 2) (b := n + 4) (by omega)), TOz := (ne' (a := n + 3) (b := n + 4) (by omega)), TITO := (ne' (a := n + 2) (b := n + 3) (by omega)), TIi1 := (ne' (a := n + 2) (b := n) (by omega)), mem1 := m1, zf1 := nf1 (n + 4) (by omega) (ne' (a := n + 4) (b := n) (by omega)), Tf1 := nf1 (n + 3) (by omega) (ne' (a := n + 3) (b := n) (by omega)), TIi2 := (ne' (a := n + 2) (b := n + 1) (by omega)), mem2 := m2, zf2 := nf2 (n + 4) (by omega) (ne' (a := n + 4) (b := n + 1) (by omega)), Tf2 := nf2 (n + 3) (by omega) (ne' (a := n + 3) (b := n + 1) (by omega)), sep1_2 := nf2 (n) (by omega) (ne' (a := n) (b := n + 1) (by omega)), sep2_1 := nf1 (n + 1) (by omega) (ne' (a := n + 1) (b := n) (by omega)) }
    refine wpAny_pyNext_zipD2_item S D1 D2 hz hTI hTO s1 s2 t1 t2 fun u1 u2 h' tk g1 g2 z' TO' w1 w2 hT hsz hk => ?_
    refine ⟨_, rfl, wpAny_letOwnedTupleGo_zip (s := { s with heap := h', toks := tk }) z' fun h'' z'' sb => ?_⟩
    obtain ⟨x1', e1, ru1⟩ := p1 i u1 g1
    rw [h1] at e1
    cases Option.some.inj e1
    obtain ⟨x2', e2, ru2⟩ := p2 i u2 g2
    rw [h2] at e2
    cases Option.some.inj e2
    have hT2 : h''.get? s.heap.objs.size = some { cls := .type "tuple", data := .seq #[u1, u2] } := (sb.2 _ (Nat.ne_of_gt hzl)).trans hT
    have new : ObjOk X.prog X.w (upd H s.heap.objs.size (.tup [x1, x2])) h'' s.heap.objs.size (.tup [x1, x2]) :=
      ⟨by show 2 ≤ sizeLine; decide, [u1, u2], .cons ru1 (.cons ru2 (.nil)), ⟨_, hT2, rfl, _, rfl⟩⟩
    have out5 : ∀ c, c ∉ [n + 4, n + 2, n + 3, n, n + 1] → c ≠ n + 4 ∧ c ≠ n + 3 ∧ c ≠ n ∧ c ≠ n + 1 := fun c hb => ⟨fun q' => hb (by simp [q']), fun q' => hb (by simp [q']), fun q' => hb (by simp [q']), fun q' => hb (by simp [q'])⟩
    have I1 : Inv X pins σ (upd H s.heap.objs.size (.tup [x1, x2])) { s with heap := h'', toks := tk } :=
      I.turnedNew (t' := tk) (ch := [n + 4, n + 2, n + 3, n, n + 1]) (fun c o hb q => by
        obtain ⟨a1, a2, b1', b2'⟩ := out5 c hb
        exact (sb.2 c a1).trans (hk c o a1 a2 b1' b2' q)) hf (Nat.le_refl _) new
    refine ⟨.ref s.heap.objs.size, _, I1, rfl, ⟨_, x1, x2, rfl, I.hok.fresh (Nat.le_refl _), rfl, fun l hl => by rw [ZS.inj I hl q1]; exact h1, fun l hl => by rw [ZS.inj I hl q2]; exact h2⟩, ⟨z'', ?_, ⟨u1, u2, ?_⟩, ?_, ?_⟩, fun c hcm => ?_⟩
    · exact (sb.2 (n + 2) (ne' (a := n + 2) (b := n + 4) (by omega))).trans (hk (n + 2) _ (ne' (a := n + 2) (b := n + 4) (by omega)) (ne' (a := n + 2) (b := n + 3) (by omega)) (ne' (a := n + 2) (b := n) (by omega)) (ne' (a := n + 2) (b := n + 1) (by omega)) hTI)
    · exact (sb.2 (n + 3) (ne' (a := n + 3) (b := n + 4) (by omega))).trans TO'
    · exact ZS.move (z := z1) (fun o q => (sb.2 (n) (ne' (a := n) (b := n + 4) (by omega))).trans q) (b1 _ _ w1)
    · exact ZS.move (z := z2) (fun o q => (sb.2 (n + 1) (ne' (a := n + 1) (b := n + 4) (by omega))).trans q) (b2 _ _ w2)
    · have hlt : c < s.heap.objs.size := by
        have e' : c = n + 4 ∨ c = n + 2 ∨ c = n + 3 ∨ c = n ∨ c = n + 1 := by simpa using hcm
        rcases e' with q | q | q | q | q
        · rw [q]; exact (show (n + 4 : Nat) < s.heap.objs.size by omega)
        · rw [q]; exact (show (n + 2 : Nat) < s.heap.objs.size by omega)
        · rw [q]; exact (show (n + 3 : Nat) < s.heap.objs.size by omega)
        · rw [q]; exact (show (n : Nat) < s.heap.objs.size by omega)
        · rw [q]; exact (show (n + 1 : Nat) < s.heap.objs.size by omega)
      rw [upd_ne (Nat.ne_of_lt hlt)]
      exact (hf c hcm).1
  done := by
    intro X hP hw hK hc i pins s σ H E I hf st hg
    subst hP hw hK
    obtain ⟨hz, hTI, ⟨y1, y2, hTO⟩, st1, st2⟩ := st
    obtain ⟨xs1, xs2, q1, q2, t1, t2, hend⟩ := hg
    have hh : X.A.in1.handled = none := I.ok.hd hc
    obtain ⟨fp1, P1, St1, D1, m1, f1, s1, b1, p1⟩ := z1.draws (A := X.A.in1) I q1 hh (ZS.off_of (by omega) l1) st1
    have nf1 : ∀ c, n ≤ c → c ≠ n → c ∉ fp1 := fun c h1 h2 h3 => by
      rcases f1 c h3 with e | e
      · exact h2 e
      · exact e (ZS.off_of h1 l1)
    obtain ⟨fp2, P2, St2, D2, m2, f2, s2, b2, p2⟩ := z2.draws (A := X.A.in1) I q2 hh (ZS.off_of (by omega) l2) st2
    have nf2 : ∀ c, n ≤ c → c ≠ n + 1 → c ∉ fp2 := fun c h1 h2 h3 => by
      rcases f2 c h3 with e | e
      · exact h2 e
      · exact e (ZS.off_of h1 l2)
    have S : ZipSep2 (n + 4) (n + 2) (n + 3) (n) (n + 1) fp1 fp2 := { TIz := (ne' (a := n + 2) (b := n + 4) (by omega)), TOz := (ne' (a := n + 3) (b := n + 4) (by omega)), TITO := (ne' (a := n + 2) (b := n + 3) (by omega)), TIi1 := (ne' (a := n + 2) (b := n) (by omega)), mem1 := m1, zf1 := nf1 (n + 4) (by omega) (ne' (a := n + 4) (b := n) (by omega)), Tf1 := nf1 (n + 3) (by omega) (ne' (a := n + 3) (b := n) (by omega)), TIi2 := (ne' (a := n + 2) (b := n + 1) (by omega)), mem2 := m2, zf2 := nf2 (n + 4) (by omega) (ne' (a := n + 4) (b := n + 1) (by omega)), Tf2 := nf2 (n + 3) (by omega) (ne' (a := n + 3) (b := n + 1) (by omega)), sep1_2 := nf2 (n) (by omega) (ne' (a := n) (b := n + 1) (by omega)), sep2_1 := nf1 (n + 1) (by omega) (ne' (a := n + 1) (b := n) (by omega)) }
    exact wpAny_pyNext_zipD2_end S D1 D2 hz hTI hTO s1 s2 t1 t2 hend fun h' tk hk => ⟨rfl, I.turnedL (t' := tk) (ch := [n + 4, n + 2, n + 3, n, n + 1]) (fun c o hb q =>
      hk c o (fun q' => hb (by simp [q'])) (fun q' => hb (by simp [q'])) (fun q' => hb (by simp [q'])) (fun q' => hb (by simp [q'])) q) hf⟩
  self := fun A i s Q E st h => wpAny_pyIter_zip st.1 h
def iZip2 (K : PySem.W.Frag) (ta : TA) : TI := fun σ H R => ta σ H fun vs H1 => ∃ (z1 z2 : ZS) (xs1 xs2 : List V), vs = [z1.val, z2.val] ∧ z1.at K H1 xs1 ∧ z2.at K H1 xs2 ∧ R (Itz2 K z1 z2) H1
theorem pi_zip2 {X : Cx} {e e2 : Expr} {ta : TA} {p pos tpos : Pos} {elts : List Expr} {kk : Nat} (hg : Gl X "zip") (hm : X.mg "zip" = none) (ha : PA X [e, e2] ta)
    (hs : starEach [e, e2] X.env = (false, eval e X.env) :: starEach [e2] X.env := by rfl) (hpl : (backTo pos (starEach [e2] X.env)).any (·.1) = false := by rfl) :
    PI X (.Tuple elts kk tpos) (.Call (.Name "zip" p) [e, e2] [] pos) (iZip2 X.K ta) := by
  refine ⟨fun pins s σ H R I h => ?_⟩
  refine Call_ (ld_blt I hg hm PyProof.Rows.boot_zip (PyProof.Rows.callWith_type1 (thn (ha.run pos pins s σ H _ I h) fun us s1 ⟨vs, H1, I1, r1, q1⟩ => ?_) hs hpl))
  obtain ⟨z1, z2, xs1, xs2, ex, q1, q2, q⟩ := q1
  subst ex
  cases r1 with
  | cons r1 rr =>
    cases rr with
    | cons r2 rr =>
      cases rr
      obtain ⟨o1, G1, B1, h1, i1, l1⟩ := z1.begins I1 q1 r1
      obtain ⟨o2, G2, B2, h2, i2, l2⟩ := z2.begins I1 q2 r2
      have fresh5 : ∀ c, c ∈ [s1.heap.objs.size + 4, s1.heap.objs.size + 2, s1.heap.objs.size + 3, s1.heap.objs.size, s1.heap.objs.size + 1] → FpOk X pins H1 c := fun c hcm => by
        have e' : c = s1.heap.objs.size + 4 ∨ c = s1.heap.objs.size + 2 ∨ c = s1.heap.objs.size + 3 ∨ c = s1.heap.objs.size ∨ c = s1.heap.objs.size + 1 := by simpa using hcm
        have hle : s1.heap.objs.size ≤ c := by omega
        exact I1.fpOk hle (I1.hok.fresh hle)
      refine zip_begins2 B1 B2 h1 h2 fun h' hz hTI hTO g1 g2 hsz hk => wpAny_pyIter_zip hz ?_
      have I2 : Inv X pins σ H1 { s1 with heap := h' } := I1.kept (t' := s1.toks) hk
      exact ⟨s1.heap.objs.size + 4, [s1.heap.objs.size + 4, s1.heap.objs.size + 2, s1.heap.objs.size + 3, s1.heap.objs.size, s1.heap.objs.size + 1], _, _, H1, rfl, I2, turn_zip2 l1 l2, ⟨hz, hTI, ⟨_, _, hTO⟩, i1 _ _ g1, i2 _ _ g2⟩, fresh5, q⟩
theorem for_zip2 {K : PySem.W.Frag} {z1 z2 : ZS} {xs1 xs2 : List V} {n : Nat} {g : TG} {tb : TS} {D : Ends} {σ : L2.St} {H : Hp} (n1 : xs1.length = n) (n2 : xs2.length = n) (Pv : Nat → L2.St → Hp → Prop) (h0 : Pv 0 σ H) (hl : ∀ i σ H, i ≤ n → Pv i σ H → z1.at K H xs1 ∧ z2.at K H xs2)
    (hs : ∀ (i : Nat) (x1 x2 : V) (T : Addr) (σ : L2.St) (H : Hp), xs1[i]? = some x1 → xs2[i]? = some x2 → H T = none → Pv i σ H → g (.ref T) σ (upd H T (.tup [x1, x2])) fun σ2 H2 => tb { D with nx := Pv (i + 1), ct := Pv (i + 1), bk := D.nx } σ2 H2) (hd : ∀ σ H, Pv n σ H → D.nx σ H) :
    ∃ W : Nat → Nat → L2.St → Hp → Prop, (∃ m, W 0 m σ H) ∧ ∀ i m σ H, W i m σ H →
      ((Itz2 K z1 z2).stop i H ∧ D.nx σ H) ∨ ((Itz2 K z1 z2).go i H ∧ ∃ N : L2.St → Hp → Prop, (∀ σ' H', N σ' H' → ∃ m', m' < m ∧ W (i + 1) m' σ' H') ∧ ∀ v H', (Itz2 K z1 z2).yld i H v H' → g v σ H' fun σ2 H2 => tb { D with nx := N, ct := N, bk := D.nx } σ2 H2) := by
  refine ⟨fun i m σ H => m = n - i ∧ i ≤ n ∧ Pv i σ H, ⟨n, rfl, Nat.zero_le _, h0⟩, ?_⟩
  rintro i m σ H ⟨rfl, hi, p⟩
  obtain ⟨q1, q2⟩ := hl i σ H hi p
  by_cases hlt : i < n
  · have e1 : xs1[i]? = some (xs1[i]'(by omega)) := List.getElem?_eq_getElem _
    have e2 : xs2[i]? = some (xs2[i]'(by omega)) := List.getElem?_eq_getElem _
    refine .inr ⟨⟨xs1, xs2, _, _, q1, q2, e1, e2⟩, Pv (i + 1), fun σ' H' p' => ⟨n - (i + 1), by omega, rfl, hlt, p'⟩, fun v H' y => ?_⟩
    obtain ⟨T, y1, y2, rfl, hT, rfl, f1, f2⟩ := y
    exact hs i y1 y2 T σ H (f1 xs1 q1) (f2 xs2 q2) hT p
  · have e : i = n := by omega
    subst e
    exact .inl ⟨⟨xs1, xs2, q1, q2, by omega, by omega, .inl (by omega)⟩, hd σ H p⟩
theorem lc_zip2 {K : PySem.W.Frag} {z1 z2 : ZS} {xs1 xs2 : List V} {n : Nat} {g : TG} {tt : TT} {te : TE} {vs : List Nat} {σ : L2.St} {H1 : Hp} {D : Addr} {Qd : Hp → Prop} (n1 : xs1.length = n) (n2 : xs2.length = n) (Pv : Nat → Hp → Prop) (h0 : Pv 0 (upd H1 D (.lst []))) (hl : ∀ i H, i ≤ n → Pv i H → z1.at K H xs1 ∧ z2.at K H xs2)
    (hs : ∀ (i : Nat) (x1 x2 : V) (T : Addr) (H : Hp), xs1[i]? = some x1 → xs2[i]? = some x2 → H T = none → Pv i H → g (.ref T) (wipe σ vs) (upd H T (.tup [x1, x2])) fun σ2 H2 => wipe σ2 vs = wipe σ vs ∧ tt σ2 H2 fun b H3 =>
      if b = true then te σ2 H3 fun y H4 => ∃ acc, H4 D = some (.lst acc) ∧ acc.length < sizeLine ∧ Pv (i + 1) (upd H4 D (.lst (acc ++ [y]))) else Pv (i + 1) H3) (hd : ∀ H, Pv n H → Qd H) :
    ∃ W : Nat → Nat → Hp → Prop, (∃ m, W 0 m (upd H1 D (.lst []))) ∧ ∀ i m H, W i m H →
      ((Itz2 K z1 z2).stop i H ∧ Qd H) ∨ ((Itz2 K z1 z2).go i H ∧ ∃ Nx : Hp → Prop, (∀ H', Nx H' → ∃ m', m' < m ∧ W (i + 1) m' H') ∧ ∀ x H', (Itz2 K z1 z2).yld i H x H' → g x (wipe σ vs) H' fun σ2 H2 => wipe σ2 vs = wipe σ vs ∧ tt σ2 H2 fun b H3 =>
        if b = true then te σ2 H3 fun y H4 => ∃ acc, H4 D = some (.lst acc) ∧ acc.length < sizeLine ∧ Nx (upd H4 D (.lst (acc ++ [y]))) else Nx H3) := by
  refine ⟨fun i m H => m = n - i ∧ i ≤ n ∧ Pv i H, ⟨n, by simp, Nat.zero_le _, h0⟩, ?_⟩
  rintro i m H ⟨rfl, hi, p⟩
  obtain ⟨q1, q2⟩ := hl i H hi p
  by_cases hlt : i < n
  · have e1 : xs1[i]? = some (xs1[i]'(by omega)) := List.getElem?_eq_getElem _
    have e2 : xs2[i]? = some (xs2[i]'(by omega)) := List.getElem?_eq_getElem _
    refine .inr ⟨⟨xs1, xs2, _, _, q1, q2, e1, e2⟩, Pv (i + 1), fun H' p' => ⟨n - (i + 1), by omega, rfl, hlt, p'⟩, fun v H' y => ?_⟩
    obtain ⟨T, y1, y2, rfl, hT, rfl, f1, f2⟩ := y
    exact hs i y1 y2 T H (f1 xs1 q1) (f2 xs2 q2) hT p
  · have e : i = n := by omega
    subst e
    exact .inl ⟨⟨xs1, xs2, q1, q2, by omega, by omega, .inl (by omega)⟩, hd H p⟩
theorem gx_zip2 {α : Type} {K : PySem.W.Frag} {z1 z2 : ZS} {xs1 xs2 : List V} {n : Nat} {g : TG} {tt : TT} {te : TE} {vs : List Nat} {σ0 : L2.St} {End : α → Hp → Prop} {Yd : α → V → Hp → (α → Hp → Prop) → Prop} {a0 : α} {H0 : Hp} (n1 : xs1.length = n) (n2 : xs2.length = n) (Pv : Nat → α → Hp → Prop) (h0 : Pv 0 a0 H0) (hl : ∀ i c H, i ≤ n → Pv i c H → z1.at K H xs1 ∧ z2.at K H xs2)
    (hs : ∀ (i : Nat) (x1 x2 : V) (T : Addr) (c : α) (H : Hp), xs1[i]? = some x1 → xs2[i]? = some x2 → H T = none → Pv i c H → g (.ref T) σ0 (upd H T (.tup [x1, x2])) fun σ2 H2 => wipe σ2 vs = σ0 ∧ tt σ2 H2 fun b H3 => if b = true then te σ2 H3 fun y H4 => Yd c y H4 (Pv (i + 1)) else Pv (i + 1) c H3) (hd : ∀ c H, Pv n c H → End c H) :
    ∃ W : Nat → Nat → α → Hp → Prop, (∃ m, W 0 m a0 H0) ∧ tGx (Itz2 K z1 z2) g tt te σ0 vs End Yd W := by
  refine ⟨fun i m c H => m = n - i ∧ i ≤ n ∧ Pv i c H, ⟨n, rfl, Nat.zero_le _, h0⟩, ?_⟩
  rintro i m c H ⟨rfl, hi, p⟩
  obtain ⟨q1, q2⟩ := hl i c H hi p
  by_cases hlt : i < n
  · have e1 : xs1[i]? = some (xs1[i]'(by omega)) := List.getElem?_eq_getElem _
    have e2 : xs2[i]? = some (xs2[i]'(by omega)) := List.getElem?_eq_getElem _
    refine .inr ⟨⟨xs1, xs2, _, _, q1, q2, e1, e2⟩, Pv (i + 1), fun c' H' p' => ⟨n - (i + 1), by omega, rfl, hlt, p'⟩, fun v H' y => ?_⟩
    obtain ⟨T, y1, y2, rfl, hT, rfl, f1, f2⟩ := y
    exact hs i y1 y2 T c H (f1 xs1 q1) (f2 xs2 q2) hT p
  · have e : i = n := by omega
    subst e
    exact .inl ⟨⟨xs1, xs2, q1, q2, by omega, by omega, .inl (by omega)⟩, hd c H p⟩
def Itz3 (K : PySem.W.Frag) (z1 z2 z3 : ZS) : It :=
  ⟨fun i H => ∃ (xs1 xs2 xs3 : List V) (x1 x2 x3 : V), z1.at K H xs1 ∧ z2.at K H xs2 ∧ z3.at K H xs3 ∧ xs1[i]? = some x1 ∧ xs2[i]? = some x2 ∧ xs3[i]? = some x3,
    fun i H v H' => ∃ T x1 x2 x3, v = .ref T ∧ H T = none ∧ H' = upd H T (.tup [x1, x2, x3]) ∧ (∀ xs, z1.at K H xs → xs[i]? = some x1) ∧ (∀ xs, z2.at K H xs → xs[i]? = some x2) ∧ (∀ xs, z3.at K H xs → xs[i]? = some x3),
    fun i H => ∃ xs1 xs2 xs3 : List V, z1.at K H xs1 ∧ z2.at K H xs2 ∧ z3.at K H xs3 ∧ i ≤ xs1.length ∧ i ≤ xs2.length ∧ i ≤ xs3.length ∧ (i = xs1.length ∨ i = xs2.length ∨ i = xs3.length)⟩
theorem turn_zip3 {P : Program} {w : World} {K : PySem.W.Frag} {elts : List Expr} {kk : Nat} {tpos : Pos} {z1 z2 z3 : ZS} {n : Nat} (l1 : z1.lt n) (l2 : z2.lt n) (l3 : z3.lt n) :
    Turn P w K (.Tuple elts kk tpos) (Itz3 K z1 z2 z3) [n + 5, n + 3, n + 4, n, n + 1, n + 2] (n + 5) (fun i h => IsZip h (n + 5) (n + 3) (n + 4) .none ∧ IsTupOf3 h (n + 3) (.ref (n)) (.ref (n + 1)) (.ref (n + 2)) ∧ (∃ x1 x2 x3, IsTupOf3 h (n + 4) x1 x2 x3) ∧ z1.it (n) i h ∧ z2.it (n + 1) i h ∧ z3.it (n + 2) i h) where
  mem := List.mem_cons_self
  obj := fun i h st c hc => by
    obtain ⟨hz, hTI, ⟨x1, x2, x3, hTO⟩, st1, st2, st3⟩ := st
    have e' : c = n + 5 ∨ c = n + 3 ∨ c = n + 4 ∨ c = n ∨ c = n + 1 ∨ c = n + 2 := by simpa using hc
    rcases e' with q | q | q | q | q | q
    · rw [q]; exact ⟨_, hz, fun v q => nomatch q⟩
    · rw [q]; exact ⟨_, hTI, fun v q => nomatch q⟩
    · rw [q]; exact ⟨_, hTO, fun v q => nomatch q⟩
    · rw [q]; exact ZS.obj (z := z1) st1
    · rw [q]; exact ZS.obj (z := z2) st2
    · rw [q]; exact ZS.obj (z := z3) st3
  keep := fun i h h' st k => by
    obtain ⟨hz, hTI, ⟨x1, x2, x3, hTO⟩, st1, st2, st3⟩ := st
    exact ⟨k _ (by simp) _ hz, k _ (by simp) _ hTI, ⟨x1, x2, x3, k _ (by simp) _ hTO⟩, ZS.move (z := z1) (fun o q => k _ (by simp) o q) st1, ZS.move (z := z2) (fun o q => k _ (by simp) o q) st2, ZS.move (z := z3) (fun o q => k _ (by simp) o q) st3⟩
  item := by
    intro X hP hw hK hc i pins s σ H E I hf st hg
    subst hP hw hK
    obtain ⟨hz, hTI, ⟨y1, y2, y3, hTO⟩, st1, st2, st3⟩ := st
    obtain ⟨xs1, xs2, xs3, x1, x2, x3, q1, q2, q3, h1, h2, h3⟩ := hg
    have hh : X.A.in1.handled = none := I.ok.hd hc
    obtain ⟨fp1, P1, St1, D1, m1, f1, s1, b1, p1⟩ := z1.draws (A := X.A.in1) I q1 hh (ZS.off_of (by omega) l1) st1
    have nf1 : ∀ c, n ≤ c → c ≠ n → c ∉ fp1 := fun c h1 h2 h3 => by
      rcases f1 c h3 with e | e
      · exact h2 e
      · exact e (ZS.off_of h1 l1)
    obtain ⟨fp2, P2, St2, D2, m2, f2, s2, b2, p2⟩ := z2.draws (A := X.A.in1) I q2 hh (ZS.off_of (by omega) l2) st2
    have nf2 : ∀ c, n ≤ c → c ≠ n + 1 → c ∉ fp2 := fun c h1 h2 h3 => by
      rcases f2 c h3 with e | e
      · exact h2 e
      · exact e (ZS.off_of h1 l2)
    obtain ⟨fp3, P3, St3, D3, m3, f3, s3, b3, p3⟩ := z3.draws (A := X.A.in1) I q3 hh (ZS.off_of (by omega) l3) st3
    have nf3 : ∀ c, n ≤ c → c ≠ n + 2 → c ∉ fp3 := fun c h1 h2 h3 => by
      rcases f3 c h3 with e | e
      · exact h2 e
      · exact e (ZS.off_of h1 l3)
    have t1 : i < xs1.length := (List.getElem?_eq_some_iff.mp h1).1
    have t2 : i < xs2.length := (List.getElem?_eq_some_iff.mp h2).1
    have t3 : i < xs3.length := (List.getElem?_eq_some_iff.mp h3).1
    have hzl : n + 5 < s.heap.objs.size := Heap.lt_size hz
    have S : ZipSep3 (n + 5) (n + 3) (n + 4) (n) (n + 1) (n + 2) fp1 fp2 fp3 := { TIz := (ne' (a := n + 3) (b := n + 5) (by omega)), TOz := (ne' (a := n + 4) (b := n + 5) (by omega)), TITO := (ne' (a := n + 3) (b := n + 4) (by omega)), TIi1 := (ne' (a := n + 3) (b := n) (by omega)), mem1 := m1, zf1 := nf1 (n + 5) (by omega) (ne' (a := n + 5) (b := n) (by omega)), Tf1 := nf1 (n + 4) (by omega) (ne' (a := n + 4) (b := n) (by omega)), TIi2 := (ne' (a := n + 3) (b := n + 1) (by omega)), mem2 := m2, zf2 := nf2 (n + 5) (by omega) (ne' (a := n + 5) (b := n + 1) (by omega)), Tf2 := nf2 (n + 4) (by omega) (ne' (a := n + 4) (b := n + 1) (by omega)), TIi3 := (ne' (a := n + 3) (b := n + 2) (by omega)), mem3 := m3, zf3 := nf3 (n + 5) (by omega) (ne' (a := n + 5) (b := n + 2) (by omega)), Tf3 := nf3 (n + 4) (by omega) (ne' (a := n + 4) (b := n + 2) (by omega)), sep1_2 := nf2 (n) (by omega) (ne' (a := n) (b := n + 1) (by omega)), sep1_3 := nf3 (n) (by omega) (ne' (a := n) (b := n + 2) (by omega)), sep2_1 := nf1 (n + 1) (by omega) (ne' (a := n + 1) (b := n) (by omega)), sep2_3 := nf3 (n + 1) (by omega) (ne' (a := n + 1) (b := n + 2) (by omega)), sep3_1 := nf1 (n + 2) (by omega) (ne' (a := n + 2) (b := n) (by omega)), sep3_2 := nf2 (n + 2) (by omega) (ne' (a := n + 2) (b := n + 1) (by omega)) }
    refine wpAny_pyNext_zipD3_item S D1 D2 D3 hz hTI hTO s1 s2 s3 t1 t2 t3 fun u1 u2 u3 h' tk g1 g2 g3 z' TO' w1 w2 w3 hT hsz hk => ?_
    refine ⟨_, rfl, wpAny_letOwnedTupleGo_zip (s := { s with heap := h', toks := tk }) z' fun h'' z'' sb => ?_⟩
    obtain ⟨x1', e1, ru1⟩ := p1 i u1 g1
    rw [h1] at e1
    cases Option.some.inj e1
    obtain ⟨x2', e2, ru2⟩ := p2 i u2 g2
    rw [h2] at e2
    cases Option.some.inj e2
    obtain ⟨x3', e3, ru3⟩ := p3 i u3 g3
    rw [h3] at e3
    cases Option.some.inj e3
    have hT2 : h''.get? s.heap.objs.size = some { cls := .type "tuple", data := .seq #[u1, u2, u3] } := (sb.2 _ (Nat.ne_of_gt hzl)).trans hT
    have new : ObjOk X.prog X.w (upd H s.heap.objs.size (.tup [x1, x2, x3])) h'' s.heap.objs.size (.tup [x1, x2, x3]) :=
      ⟨by show 3 ≤ sizeLine; decide, [u1, u2, u3], .cons ru1 (.cons ru2 (.cons ru3 (.nil))), ⟨_, hT2, rfl, _, rfl⟩⟩
    have out5 : ∀ c, c ∉ [n + 5, n + 3, n + 4, n, n + 1, n + 2] → c ≠ n + 5 ∧ c ≠ n + 4 ∧ c ≠ n ∧ c ≠ n + 1 ∧ c ≠ n + 2 := fun c hb => ⟨fun q' => hb (by simp [q']), fun q' => hb (by simp [q']), fun q' => hb (by simp [q']), fun q' => hb (by simp [q']), fun q' => hb (by simp [q'])⟩
    have I1 : Inv X pins σ (upd H s.heap.objs.size (.tup [x1, x2, x3])) { s with heap := h'', toks := tk } :=
      I.turnedNew (t' := tk) (ch := [n + 5, n + 3, n + 4, n, n + 1, n + 2]) (fun c o hb q => by
        obtain ⟨a1, a2, b1', b2', b3'⟩ := out5 c hb
        exact (sb.2 c a1).trans (hk c o a1 a2 b1' b2' b3' q)) hf (Nat.le_refl _) new
    refine ⟨.ref s.heap.objs.size, _, I1, rfl, ⟨_, x1, x2, x3, rfl, I.hok.fresh (Nat.le_refl _), rfl, fun l hl => by rw [ZS.inj I hl q1]; exact h1, fun l hl => by rw [ZS.inj I hl q2]; exact h2, fun l hl => by rw [ZS.inj I hl q3]; exact h3⟩, ⟨z'', ?_, ⟨u1, u2, u3, ?_⟩, ?_, ?_, ?_⟩, fun c hcm => ?_⟩
    · exact (sb.2 (n + 3) (ne' (a := n + 3) (b := n + 5) (by omega))).trans (hk (n + 3) _ (ne' (a := n + 3) (b := n + 5) (by omega)) (ne' (a := n + 3) (b := n + 4) (by omega)) (ne' (a := n + 3) (b := n) (by omega)) (ne' (a := n + 3) (b := n + 1) (by omega)) (ne' (a := n + 3) (b := n + 2) (by omega)) hTI)
    · exact (sb.2 (n + 4) (ne' (a := n + 4) (b := n + 5) (by omega))).trans TO'
    · exact ZS.move (z := z1) (fun o q => (sb.2 (n) (ne' (a := n) (b := n + 5) (by omega))).trans q) (b1 _ _ w1)
    · exact ZS.move (z := z2) (fun o q => (sb.2 (n + 1) (ne' (a := n + 1) (b := n + 5) (by omega))).trans q) (b2 _ _ w2)
    · exact ZS.move (z := z3) (fun o q => (sb.2 (n + 2) (ne' (a := n + 2) (b := n + 5) (by omega))).trans q) (b3 _ _ w3)
    · have hlt : c < s.heap.objs.size := by
        have e' : c = n + 5 ∨ c = n + 3 ∨ c = n + 4 ∨ c = n ∨ c = n + 1 ∨ c = n + 2 := by simpa using hcm
        rcases e' with q | q | q | q | q | q
        · rw [q]; exact (show (n + 5 : Nat) < s.heap.objs.size by omega)
        · rw [q]; exact (show (n + 3 : Nat) < s.heap.objs.size by omega)
        · rw [q]; exact (show (n + 4 : Nat) < s.heap.objs.size by omega)
        · rw [q]; exact (show (n : Nat) < s.heap.objs.size by omega)
        · rw [q]; exact (show (n + 1 : Nat) < s.heap.objs.size by omega)
        · rw [q]; exact (show (n + 2 : Nat) < s.heap.objs.size by omega)
      rw [upd_ne (Nat.ne_of_lt hlt)]
      exact (hf c hcm).1
  done := by
    intro X hP hw hK hc i pins s σ H E I hf st hg
    subst hP hw hK
    obtain ⟨hz, hTI, ⟨y1, y2, y3, hTO⟩, st1, st2, st3⟩ := st
    obtain ⟨xs1, xs2, xs3, q1, q2, q3, t1, t2, t3, hend⟩ := hg
    have hh : X.A.in1.handled = none := I.ok.hd hc
    obtain ⟨fp1, P1, St1, D1, m1, f1, s1, b1, p1⟩ := z1.draws (A := X.A.in1) I q1 hh (ZS.off_of (by omega) l1) st1
    have nf1 : ∀ c, n ≤ c → c ≠ n → c ∉ fp1 := fun c h1 h2 h3 => by
      rcases f1 c h3 with e | e
      · exact h2 e
      · exact e (ZS.off_of h1 l1)
    obtain ⟨fp2, P2, St2, D2, m2, f2, s2, b2, p2⟩ := z2.draws (A := X.A.in1) I q2 hh (ZS.off_of (by omega) l2) st2
    have nf2 : ∀ c, n ≤ c → c ≠ n + 1 → c ∉ fp2 := fun c h1 h2 h3 => by
      rcases f2 c h3 with e | e
      · exact h2 e
      · exact e (ZS.off_of h1 l2)
    obtain ⟨fp3, P3, St3, D3, m3, f3, s3, b3, p3⟩ := z3.draws (A := X.A.in1) I q3 hh (ZS.off_of (by omega) l3) st3
    have nf3 : ∀ c, n ≤ c → c ≠ n + 2 → c ∉ fp3 := fun c h1 h2 h3 => by
      rcases f3 c h3 with e | e
      · exact h2 e
      · exact e (ZS.off_of h1 l3)
    have S : ZipSep3 (n + 5) (n + 3) (n + 4) (n) (n + 1) (n + 2) fp1 fp2 fp3 := { TIz := (ne' (a := n + 3) (b := n + 5) (by omega)), TOz := (ne' (a := n + 4) (b := n + 5) (by omega)), TITO := (ne' (a := n + 3) (b := n + 4) (by omega)), TIi1 := (ne' (a := n + 3) (b := n) (by omega)), mem1 := m1, zf1 := nf1 (n + 5) (by omega) (ne' (a := n + 5) (b := n) (by omega)), Tf1 := nf1 (n + 4) (by omega) (ne' (a := n + 4) (b := n) (by omega)), TIi2 := (ne' (a := n + 3) (b := n + 1) (by omega)), mem2 := m2, zf2 := nf2 (n + 5) (by omega) (ne' (a := n + 5) (b := n + 1) (by omega)), Tf2 := nf2 (n + 4) (by omega) (ne' (a := n + 4) (b := n + 1) (by omega)), TIi3 := (ne' (a := n + 3) (b := n + 2) (by omega)), mem3 := m3, zf3 := nf3 (n + 5) (by omega) (ne' (a := n + 5) (b := n + 2) (by omega)), Tf3 := nf3 (n + 4) (by omega) (ne' (a := n + 4) (b := n + 2) (by omega)), sep1_2 := nf2 (n) (by omega) (ne' (a := n) (b := n + 1) (by omega)), sep1_3 := nf3 (n) (by omega) (ne' (a := n) (b := n + 2) (by omega)), sep2_1 := nf1 (n + 1) (by omega) (ne' (a := n + 1) (b := n) (by omega)), sep2_3 := nf3 (n + 1) (by omega) (ne' (a := n + 1) (b := n + 2) (by omega)), sep3_1 := nf1 (n + 2) (by omega) (ne' (a := n + 2) (b := n) (by omega)), sep3_2 := nf2 (n + 2) (by omega) (ne' (a := n + 2) (b := n + 1) (by omega)) }
    exact wpAny_pyNext_zipD3_end S D1 D2 D3 hz hTI hTO s1 s2 s3 t1 t2 t3 hend fun h' tk hk => ⟨rfl, I.turnedL (t' := tk) (ch := [n + 5, n + 3, n + 4, n, n + 1, n + 2]) (fun c o hb q =>
      hk c o (fun q' => hb (by simp [q'])) (fun q' => hb (by simp [q'])) (fun q' => hb (by simp [q'])) (fun q' => hb (by simp [q'])) (fun q' => hb (by simp [q'])) q) hf⟩
  self := fun A i s Q E st h => wpAny_pyIter_zip st.1 h
def iZip3 (K : PySem.W.Frag) (ta : TA) : TI := fun σ H R => ta σ H fun vs H1 => ∃ (z1 z2 z3 : ZS) (xs1 xs2 xs3 : List V), vs = [z1.val, z2.val, z3.val] ∧ z1.at K H1 xs1 ∧ z2.at K H1 xs2 ∧ z3.at K H1 xs3 ∧ R (Itz3 K z1 z2 z3) H1
theorem pi_zip3 {X : Cx} {e e2 e3 : Expr} {ta : TA} {p pos tpos : Pos} {elts : List Expr} {kk : Nat} (hg : Gl X "zip") (hm : X.mg "zip" = none) (ha : PA X [e, e2, e3] ta)
    (hs : starEach [e, e2, e3] X.env = (false, eval e X.env) :: starEach [e2, e3] X.env := by rfl) (hpl : (backTo pos (starEach [e2, e3] X.env)).any (·.1) = false := by rfl) :
    PI X (.Tuple elts kk tpos) (.Call (.Name "zip" p) [e, e2, e3] [] pos) (iZip3 X.K ta) := by
  refine ⟨fun pins s σ H R I h => ?_⟩
  refine Call_ (ld_blt I hg hm PyProof.Rows.boot_zip (PyProof.Rows.callWith_type1 (thn (ha.run pos pins s σ H _ I h) fun us s1 ⟨vs, H1, I1, r1, q1⟩ => ?_) hs hpl))
  obtain ⟨z1, z2, z3, xs1, xs2, xs3, ex, q1, q2, q3, q⟩ := q1
  subst ex
  cases r1 with
  | cons r1 rr =>
    cases rr with
    | cons r2 rr =>
      cases rr with
      | cons r3 rr =>
        cases rr
        obtain ⟨o1, G1, B1, h1, i1, l1⟩ := z1.begins I1 q1 r1
        obtain ⟨o2, G2, B2, h2, i2, l2⟩ := z2.begins I1 q2 r2
        obtain ⟨o3, G3, B3, h3, i3, l3⟩ := z3.begins I1 q3 r3
        have fresh5 : ∀ c, c ∈ [s1.heap.objs.size + 5, s1.heap.objs.size + 3, s1.heap.objs.size + 4, s1.heap.objs.size, s1.heap.objs.size + 1, s1.heap.objs.size + 2] → FpOk X pins H1 c := fun c hcm => by
          have e' : c = s1.heap.objs.size + 5 ∨ c = s1.heap.objs.size + 3 ∨ c = s1.heap.objs.size + 4 ∨ c = s1.heap.objs.size ∨ c = s1.heap.objs.size + 1 ∨ c = s1.heap.objs.size + 2 := by simpa using hcm
          have hle : s1.heap.objs.size ≤ c := by omega
          exact I1.fpOk hle (I1.hok.fresh hle)
        refine zip_begins3 B1 B2 B3 h1 h2 h3 fun h' hz hTI hTO g1 g2 g3 hsz hk => wpAny_pyIter_zip hz ?_
        have I2 : Inv X pins σ H1 { s1 with heap := h' } := I1.kept (t' := s1.toks) hk
        exact ⟨s1.heap.objs.size + 5, [s1.heap.objs.size + 5, s1.heap.objs.size + 3, s1.heap.objs.size + 4, s1.heap.objs.size, s1.heap.objs.size + 1, s1.heap.objs.size + 2], _, _, H1, rfl, I2, turn_zip3 l1 l2 l3, ⟨hz, hTI, ⟨_, _, _, hTO⟩, i1 _ _ g1, i2 _ _ g2, i3 _ _ g3⟩, fresh5, q⟩
theorem for_zip3 {K : PySem.W.Frag} {z1 z2 z3 : ZS} {xs1 xs2 xs3 : List V} {n : Nat} {g : TG} {tb : TS} {D : Ends} {σ : L2.St} {H : Hp} (n1 : xs1.length = n) (n2 : xs2.length = n) (n3 : xs3.length = n) (Pv : Nat → L2.St → Hp → Prop) (h0 : Pv 0 σ H) (hl : ∀ i σ H, i ≤ n → Pv i σ H → z1.at K H xs1 ∧ z2.at K H xs2 ∧ z3.at K H xs3)
    (hs : ∀ (i : Nat) (x1 x2 x3 : V) (T : Addr) (σ : L2.St) (H : Hp), xs1[i]? = some x1 → xs2[i]? = some x2 → xs3[i]? = some x3 → H T = none → Pv i σ H → g (.ref T) σ (upd H T (.tup [x1, x2, x3])) fun σ2 H2 => tb { D with nx := Pv (i + 1), ct := Pv (i + 1), bk := D.nx } σ2 H2) (hd : ∀ σ H, Pv n σ H → D.nx σ H) :
    ∃ W : Nat → Nat → L2.St → Hp → Prop, (∃ m, W 0 m σ H) ∧ ∀ i m σ H, W i m σ H →
      ((Itz3 K z1 z2 z3).stop i H ∧ D.nx σ H) ∨ ((Itz3 K z1 z2 z3).go i H ∧ ∃ N : L2.St → Hp → Prop, (∀ σ' H', N σ' H' → ∃ m', m' < m ∧ W (i + 1) m' σ' H') ∧ ∀ v H', (Itz3 K z1 z2 z3).yld i H v H' → g v σ H' fun σ2 H2 => tb { D with nx := N, ct := N, bk := D.nx } σ2 H2) := by
  refine ⟨fun i m σ H => m = n - i ∧ i ≤ n ∧ Pv i σ H, ⟨n, rfl, Nat.zero_le _, h0⟩, ?_⟩
  rintro i m σ H ⟨rfl, hi, p⟩
  obtain ⟨q1, q2, q3⟩ := hl i σ H hi p
  by_cases hlt : i < n
  · have e1 : xs1[i]? = some (xs1[i]'(by omega)) := List.getElem?_eq_getElem _
    have e2 : xs2[i]? = some (xs2[i]'(by omega)) := List.getElem?_eq_getElem _
    have e3 : xs3[i]? = some (xs3[i]'(by omega)) := List.getElem?_eq_getElem _
    refine .inr ⟨⟨xs1, xs2, xs3, _, _, _, q1, q2, q3, e1, e2, e3⟩, Pv (i + 1), fun σ' H' p' => ⟨n - (i + 1), by omega, rfl, hlt, p'⟩, fun v H' y => ?_⟩
    obtain ⟨T, y1, y2, y3, rfl, hT, rfl, f1, f2, f3⟩ := y
    exact hs i y1 y2 y3 T σ H (f1 xs1 q1) (f2 xs2 q2) (f3 xs3 q3) hT p
  · have e : i = n := by omega
    subst e
    exact .inl ⟨⟨xs1, xs2, xs3, q1, q2, q3, by omega, by omega, by omega, .inl (by omega)⟩, hd σ H p⟩
theorem lc_zip3 {K : PySem.W.Frag} {z1 z2 z3 : ZS} {xs1 xs2 xs3 : List V} {n : Nat} {g : TG} {tt : TT} {te : TE} {vs : List Nat} {σ : L2.St} {H1 : Hp} {D : Addr} {Qd : Hp → Prop} (n1 : xs1.length = n) (n2 : xs2.length = n) (n3 : xs3.length = n) (Pv : Nat → Hp → Prop) (h0 : Pv 0 (upd H1 D (.lst []))) (hl : ∀ i H, i ≤ n → Pv i H → z1.at K H xs1 ∧ z2.at K H xs2 ∧ z3.at K H xs3)
    (hs : ∀ (i : Nat) (x1 x2 x3 : V) (T : Addr) (H : Hp), xs1[i]? = some x1 → xs2[i]? = some x2 → xs3[i]? = some x3 → H T = none → Pv i H → g (.ref T) (wipe σ vs) (upd H T (.tup [x1, x2, x3])) fun σ2 H2 => wipe σ2 vs = wipe σ vs ∧ tt σ2 H2 fun b H3 =>
      if b = true then te σ2 H3 fun y H4 => ∃ acc, H4 D = some (.lst acc) ∧ acc.length < sizeLine ∧ Pv (i + 1) (upd H4 D (.lst (acc ++ [y]))) else Pv (i + 1) H3) (hd : ∀ H, Pv n H → Qd H) :
    ∃ W : Nat → Nat → Hp → Prop, (∃ m, W 0 m (upd H1 D (.lst []))) ∧ ∀ i m H, W i m H →
      ((Itz3 K z1 z2 z3).stop i H ∧ Qd H) ∨ ((Itz3 K z1 z2 z3).go i H ∧ ∃ Nx : Hp → Prop, (∀ H', Nx H' → ∃ m', m' < m ∧ W (i + 1) m' H') ∧ ∀ x H', (Itz3 K z1 z2 z3).yld i H x H' → g x (wipe σ vs) H' fun σ2 H2 => wipe σ2 vs = wipe σ vs ∧ tt σ2 H2 fun b H3 =>
        if b = true then te σ2 H3 fun y H4 => ∃ acc, H4 D = some (.lst acc) ∧ acc.length < sizeLine ∧ Nx (upd H4 D (.lst (acc ++ [y]))) else Nx H3) := by
  refine ⟨fun i m H => m = n - i ∧ i ≤ n ∧ Pv i H, ⟨n, by simp, Nat.zero_le _, h0⟩, ?_⟩
  rintro i m H ⟨rfl, hi, p⟩
  obtain ⟨q1, q2, q3⟩ := hl i H hi p
  by_cases hlt : i < n
  · have e1 : xs1[i]? = some (xs1[i]'(by omega)) := List.getElem?_eq_getElem _
    have e2 : xs2[i]? = some (xs2[i]'(by omega)) := List.getElem?_eq_getElem _
    have e3 : xs3[i]? = some (xs3[i]'(by omega)) := List.getElem?_eq_getElem _
    refine .inr ⟨⟨xs1, xs2, xs3, _, _, _, q1, q2, q3, e1, e2, e3⟩, Pv (i + 1), fun H' p' => ⟨n - (i + 1), by omega, rfl, hlt, p'⟩, fun v H' y => ?_⟩
    obtain ⟨T, y1, y2, y3, rfl, hT, rfl, f1, f2, f3⟩ := y
    exact hs i y1 y2 y3 T H (f1 xs1 q1) (f2 xs2 q2) (f3 xs3 q3) hT p
  · have e : i = n := by omega
    subst e
    exact .inl ⟨⟨xs1, xs2, xs3, q1, q2, q3, by omega, by omega, by omega, .inl (by omega)⟩, hd H p⟩
theorem gx_zip3 {α : Type} {K : PySem.W.Frag} {z1 z2 z3 : ZS} {xs1 xs2 xs3 : List V} {n : Nat} {g : TG} {tt : TT} {te : TE} {vs : List Nat} {σ0 : L2.St} {End : α → Hp → Prop} {Yd : α → V → Hp → (α → Hp → Prop) → Prop} {a0 : α} {H0 : Hp} (n1 : xs1.length = n) (n2 : xs2.length = n) (n3 : xs3.length = n) (Pv : Nat → α → Hp → Prop) (h0 : Pv 0 a0 H0) (hl : ∀ i c H, i ≤ n → Pv i c H → z1.at K H xs1 ∧ z2.at K H xs2 ∧ z3.at K H xs3)
    (hs : ∀ (i : Nat) (x1 x2 x3 : V) (T : Addr) (c : α) (H : Hp), xs1[i]? = some x1 → xs2[i]? = some x2 → xs3[i]? = some x3 → H T = none → Pv i c H → g (.ref T) σ0 (upd H T (.tup [x1, x2, x3])) fun σ2 H2 => wipe σ2 vs = σ0 ∧ tt σ2 H2 fun b H3 => if b = true then te σ2 H3 fun y H4 => Yd c y H4 (Pv (i + 1)) else Pv (i + 1) c H3) (hd : ∀ c H, Pv n c H → End c H) :
    ∃ W : Nat → Nat → α → Hp → Prop, (∃ m, W 0 m a0 H0) ∧ tGx (Itz3 K z1 z2 z3) g tt te σ0 vs End Yd W := by
  refine ⟨fun i m c H => m = n - i ∧ i ≤ n ∧ Pv i c H, ⟨n, rfl, Nat.zero_le _, h0⟩, ?_⟩
  rintro i m c H ⟨rfl, hi, p⟩
  obtain ⟨q1, q2, q3⟩ := hl i c H hi p
  by_cases hlt : i < n
  · have e1 : xs1[i]? = some (xs1[i]'(by omega)) := List.getElem?_eq_getElem _
    have e2 : xs2[i]? = some (xs2[i]'(by omega)) := List.getElem?_eq_getElem _
    have e3 : xs3[i]? = some (xs3[i]'(by omega)) := List.getElem?_eq_getElem _
    refine .inr ⟨⟨xs1, xs2, xs3, _, _, _, q1, q2, q3, e1, e2, e3⟩, Pv (i + 1), fun c' H' p' => ⟨n - (i + 1), by omega, rfl, hlt, p'⟩, fun v H' y => ?_⟩
    obtain ⟨T, y1, y2, y3, rfl, hT, rfl, f1, f2, f3⟩ := y
    exact hs i y1 y2 y3 T c H (f1 xs1 q1) (f2 xs2 q2) (f3 xs3 q3) hT p
  · have e : i = n := by omega
    subst e
    exact .inl ⟨⟨xs1, xs2, xs3, q1, q2, q3, by omega, by omega, by omega, .inl (by omega)⟩, hd c H p⟩
end ZpG

end Gk

set_option Elab.async false
set_option linter.all false
set_option maxRecDepth 100000
set_option maxHeartbeats 1000000
set_option pp.maxSteps 1500
set_option pp.deepTerms false
namespace Gk
open PySem PySem.Spec PyProof.Rows L2
section
variable {P : Program} {w : World} {K : PySem.W.Frag} {mg : Str → Option Value} {base : Heap}
/-! ### bounds, of anything -/
def pairBD (a b : PyData) : Bool :=
  match a, b with
  | .int i, .int j => decide (0 ≤ i) && decide (i ≤ j)
  | _, _ => false
def boundD : PyData → Bool
  | .tuple ds => (match ds with
    | [a, b] => pairBD a b
    | _ => false)
  | _ => false
def alikeD : PyData → Bool
  | .tuple ds => (match ds with
    | [.int i, .int j] => decide (i = j)
    | _ => false)
  | _ => false
def wireBD (m k : Nat) (d : PyData) : Bool := boundD d && (decide (k < m) || alikeD d)
def gateBD (m : Nat) (ws : List Nat) : PyData → Bool
  | .tuple ds => decide (ds.length = ws.length) && (ws.zip ds).all fun z => wireBD m z.1 z.2
  | _ => false
def boundsD (m : Nat) (gs : List Gt) : PyData → Bool
  | .tuple ds => decide (ds.length = gs.length) && (gs.zip ds).all fun z => gateBD m z.1.2 z.2
  | _ => false
theorem bound_not : ∀ {d : PyData}, ¬ isTupD d = true → boundD d = false
  | .tuple _, h => absurd rfl h
  | .bool _, _ => rfl
  | .none, _ => rfl
  | .str _, _ => rfl
  | .list _, _ => rfl
  | .int _, _ => rfl
  | .dict _, _ => rfl
theorem bound_len : ∀ {ds : List PyData}, ¬ ds.length = 2 → boundD (.tuple ds) = false
  | [], _ => rfl
  | [_], _ => rfl
  | [_, _], h => absurd rfl h
  | _ :: _ :: _ :: _, _ => rfl
theorem gateB_not {m : Nat} {ws : List Nat} : ∀ {d : PyData}, ¬ isTupD d = true → gateBD m ws d = false
  | .tuple _, h => absurd rfl h
  | .bool _, _ => rfl
  | .none, _ => rfl
  | .str _, _ => rfl
  | .list _, _ => rfl
  | .int _, _ => rfl
  | .dict _, _ => rfl
theorem bounds_not {m : Nat} {gs : List Gt} : ∀ {d : PyData}, ¬ isTupD d = true → boundsD m gs d = false
  | .tuple _, h => absurd rfl h
  | .bool _, _ => rfl
  | .none, _ => rfl
  | .str _, _ => rfl
  | .list _, _ => rfl
  | .int _, _ => rfl
  | .dict _, _ => rfl
theorem pairB_l : ∀ {a : PyData} (b : PyData), ¬ wholeD a = true → pairBD a b = false
  | .int _, _, h => absurd rfl h
  | .bool _, _, _ => rfl
  | .none, _, _ => rfl
  | .str _, _, _ => rfl
  | .list _, _, _ => rfl
  | .tuple _, _, _ => rfl
  | .dict _, _, _ => rfl
theorem pairB_r (i : Int) : ∀ {b : PyData}, ¬ wholeD b = true → pairBD (.int i) b = false
  | .int _, h => absurd rfl h
  | .bool _, _ => rfl
  | .none, _ => rfl
  | .str _, _ => rfl
  | .list _, _ => rfl
  | .tuple _, _ => rfl
  | .dict _, _ => rfl
theorem two_of {ds : List PyData} (h : ds.length = 2) : ∃ a b, ds = [a, b] := by
  match ds, h with
  | [a, b], _ => exact ⟨a, b, rfl⟩
theorem bound_two {d : PyData} (h : boundD d = true) : ∃ i j : Int, d = .tuple [.int i, .int j] ∧ 0 ≤ i ∧ i ≤ j := by
  by_cases t : isTupD d = true
  · obtain ⟨ds, rfl⟩ := tup_of t
    by_cases l : ds.length = 2
    · obtain ⟨a, b, rfl⟩ := two_of l
      replace h : pairBD a b = true := h
      by_cases wa : wholeD a = true
      · obtain ⟨i, rfl⟩ := whole_int wa
        by_cases wb : wholeD b = true
        · obtain ⟨j, rfl⟩ := whole_int wb
          have h' := Bool.and_eq_true_iff.mp h
          exact ⟨i, j, rfl, of_decide_eq_true h'.1, of_decide_eq_true h'.2⟩
        · rw [pairB_r i wb] at h; cases h
      · rw [pairB_l b wa] at h; cases h
    · rw [bound_len l] at h; cases h
  · rw [bound_not t] at h; cases h
theorem len_eqI {n : Nat} {m : Int} : decide (V.int (n : Int) = V.int m) = decide ((n : Int) = m) := by
  by_cases h : (n : Int) = m
  · rw [decide_eq_true h, decide_eq_true (by rw [h])]
  · rw [decide_eq_false h, decide_eq_false fun z => h (V.int.inj z)]
theorem all_stop {α : Type} {f : α → Bool} {l : List α} {j : Nat} {x : α} (h : l[j]? = some x) (n : ¬ f x = true) : l.all f = false := by
  cases e : l.all f with
  | false => rfl
  | true => exact absurd (List.all_eq_true.mp e x (List.mem_of_getElem? h)) n
theorem all_take {α : Type} {f : α → Bool} {l : List α} {j : Nat} {x : α} (h : l[j]? = some x) (p : (l.take j).all f = true) (hx : f x = true) : (l.take (j + 1)).all f = true := by
  rw [List.take_add_one, h, List.all_append, p, Bool.true_and]
  show (f x && true) = true
  rw [hx]
  rfl
theorem nV_at {ws : List Nat} {j : Nat} {v : V} (h : (nV ws)[j]? = some v) : ∃ k, ws[j]? = some k ∧ v = .int (Int.ofNat k) := by
  unfold nV at h
  rw [List.getElem?_map, List.getElem?_map] at h
  cases hj : ws[j]? with
  | none => rw [hj] at h; cases h
  | some k => rw [hj] at h; exact ⟨k, rfl, (Option.some.inj h).symm⟩
theorem ints_of {H : Hp} : ∀ {ys : List V} {ns : List Int}, TkAll H ys (ns.map PyData.int) → ys = ns.map V.int
  | _, [], .nil => rfl
  | _, n :: r, .cons a t => by
    cases a
    rw [ints_of t]
    rfl
def sp_is_bound (K : PySem.W.Frag) : Sp := fun vs H Q _ => ∃ (v : V) (d : PyData), vs = [v] ∧ Sh H v d ∧ Q (.bl (boundD d)) H
theorem ok_is_bound (T : Tx K mg) : FnOk P w K mg base CX0 2 T.f_is_bound T.fd_is_bound ["thing"] (sp_is_bound K) := by
  refine T.F_is_bound.ok sc_is_bound (fun vs H Q E h => ?_) (fun cdv A outer s H vs Q E hr h => ?_)
  · obtain ⟨v, d, rfl, _⟩ := h
    rfl
  · obtain ⟨v, d, rfl, sh, q⟩ := h
    refine ⟨_, (pss_cons (ps_if (pw_or (pt_not (pt_val (pe_callB call_isi (by rfl) T.m_isinstance (by decide +kernel) (pa_cons (pv 0) (pa_cons (pe_bltn (v := .ty "tuple") (u := .type "tuple") (by rfl) T.m_tuple (by decide +kernel) rfl) pa_nil))))) (pw_or1 (pt_cmpR op_ne (pe_callB call_len_seq (by rfl) T.m_len PySem.boot_len (pa_cons (pv 0) pa_nil)) pe_int (nomark _)))).pt (pss_one (ps_ret pe_bl)) pss_nil) (pss_cons (ps_asg (pv 0) (pg_tup rfl (pgs_cons (pg_name (i := 1) sc_is_bound.nd rfl (by first | exact .inl rfl | exact .inr rfl)) (pgs_cons (pg_name (i := 2) sc_is_bound.nd rfl (by first | exact .inl rfl | exact .inr rfl)) pgs_nil)))) (pss_one (ps_ret (pe_and (pe_call (ok_is_whole T) (hr.mono (by decide)) (by rfl) T.g_is_whole T.F_is_whole.kp T.b_is_whole .nil pass0 (pa_cons (pv 1) pa_nil)) (pe_and (pe_call (ok_is_whole T) (hr.mono (by decide)) (by rfl) T.g_is_whole T.F_is_whole.kp T.b_is_whole .nil pass0 (pa_cons (pv 2) pa_nil)) (pe_one (pe_chain op_le op_le pe_int (pv 1) (pv 2))))))))), ?_⟩
    refine ⟨v, rfl, _, _, _, _, _, rfl, .ty _, sh.ty, kit_ty (kitTup d), _, rfl, ite2 (fun e => ?_) (fun e => ?_)⟩
    · rw [bound_not (notT e)] at q
      exact q
    obtain ⟨ds, rfl⟩ := tup_of (notF e)
    cases sh with
    | @tup a xs _ h t =>
      have lx := t.length
      refine ⟨.ref a, rfl, a, xs, rfl, .inr (SqT.of h), rfl, _, rfl, ?_⟩
      rw [len_eqI, lx]
      refine ite2 (fun e1 => ?_) (fun e1 => ?_)
      · have n2 : ¬ ds.length = 2 := fun z => by rw [z] at e1; cases e1
        rw [bound_len n2] at q
        exact q
      have l2 : ds.length = 2 := by
        have := of_decide_eq_true (notF e1)
        omega
      obtain ⟨d0, d1, rfl⟩ := two_of l2
      cases t with
      | @cons v0 _ _ _ t0 t1 =>
        cases t1 with
        | @cons v1 _ _ _ t1 t2 =>
          cases t2
          refine ⟨.ref a, rfl, a, _, rfl, SqT.of h, rfl, _, _, rfl, _, _, rfl, rfl, ?_⟩
          replace q : Q (.bl (pairBD d0 d1)) H := q
          refine ⟨v0, rfl, v0, d0, rfl, t0, _, rfl, ite2 (fun e3 => ?_) (fun e3 => ?_)⟩
          · obtain ⟨i, rfl⟩ := whole_int e3
            cases t0
            refine ⟨v1, rfl, v1, d1, rfl, t1, _, rfl, ite2 (fun e4 => ?_) (fun e4 => ?_)⟩
            · obtain ⟨j, rfl⟩ := whole_int e4
              cases t1
              replace q : Q (.bl (decide (0 ≤ i) && decide (i ≤ j))) H := q
              refine ⟨.int i, rfl, 0, i, rfl, rfl, _, rfl, ite2 (fun e1 => ?_) (fun e1 => ?_)⟩
              · refine ⟨.int j, rfl, i, j, rfl, rfl, ?_⟩
                rw [e1, Bool.true_and] at q
                exact q
              · rw [Bool.eq_false_iff.mpr e1, Bool.false_and] at q
                exact q
            · rw [pairB_r i e4] at q
              exact q
          · rw [pairB_l d1 e3] at q
            exact q
def sp_is_gate_bounds (T : Tx K mg) : Sp := fun vs H Q _ => ∃ (m : Nat) (t : Addr) (ws : List Nat) (v : V) (d : PyData), vs = [.int m, .ref t, v] ∧ H t = some (.tup (nV ws)) ∧ Sh H v d ∧ GxR.TabG H T.P_is_gate_bounds ∧ ∀ H', Gr H H' → Q (.bl (gateBD m ws d)) H'
theorem ok_is_gate_bounds (T : Tx K mg) (B : Tb base T) : FnOk P w K mg base CX0 4 T.f_is_gate_bounds T.fd_is_gate_bounds ["many", "ins", "thing"] (sp_is_gate_bounds T) := by
  refine okC T.F_is_gate_bounds sc_is_gate_bounds (fun vs H Q E h => ?_) (fun A outer s H vs Q E hr h => ?_)
  · obtain ⟨m, t, ws, v, d, rfl, _⟩ := h
    rfl
  · obtain ⟨m, t, ws, v, d, rfl, ht, sh, tab, q⟩ := h
    refine ⟨_, (pss_cons (ps_if (pw_or (pt_not (pt_val (pe_callB call_isi (by rfl) T.m_isinstance (by decide +kernel) (pa_cons (pv 2) (pa_cons (pe_bltn (v := .ty "tuple") (u := .type "tuple") (by rfl) T.m_tuple (by decide +kernel) rfl) pa_nil))))) (pw_or1 (pt_cmpR op_ne (pe_callB call_len_seq (by rfl) T.m_len PySem.boot_len (pa_cons (pv 2) pa_nil)) (pe_callB call_len_seq (by rfl) T.m_len PySem.boot_len (pa_cons (pv 1) pa_nil)) (nomark _)))).pt (pss_one (ps_ret pe_bl)) pss_nil) (pss_one (ps_ret (pe_allX (own := [("wire", 3), ("pair", 4)]) (k := 2) (hr.mono (by decide)) rfl sc_is_gate_bounds.nd (by rfl) T.m_all (by decide +kernel) B.TB_is_gate_bounds T.cd_is_gate_bounds rfl rfl (by decide +kernel) (blkOk_by (own := [("wire", 3), ("pair", 4)]) (N := ["many", "ins", "thing", "wire", "pair"]) (sc := defScope s_is_gate_bounds) (by decide +kernel)) (ZpG.pi_zip2 (by rfl) T.m_zip (pa_cons (pv 1) (pa_cons (pv 2) pa_nil))) (fun _ _ _ _ _ _ _ hr gd => (show PG _ _ (gTup K 2 _) from pg_tup rfl (pgs_cons (pg_name (i := 3) sc_is_gate_bounds.nd rfl (by first | exact .inl rfl | exact .inr rfl)) (pgs_cons (pg_name (i := 4) sc_is_gate_bounds.nd rfl (by first | exact .inl rfl | exact .inr rfl)) pgs_nil)))) (fun _ _ _ _ _ _ _ hr gd => pts_nil) (fun _ _ _ _ _ _ _ hr gd => (pe_and (pe_call (ok_is_bound T) (hr.mono (by decide)) (by rfl) T.g_is_bound T.F_is_bound.kp T.b_is_bound .nil pass0 (pa_cons (pv 4) pa_nil)) (pe_one (pe_or (pe_cmpR op_lt (pv 3) (pv 0) (nomark _)) (pe_one (pe_cmpR op_eq (pe_ix (show IxR _ (rIxT K) from ix_tup) (pv 4) pe_int (fun _ _ => rfl)) (pe_ix (show IxR _ (rIxT K) from ix_tup) (pv 4) pe_int (fun _ _ => rfl)) (nomark _))))))) (fun _ => rfl))))), ?_⟩
    refine ⟨v, rfl, _, _, _, _, _, rfl, .ty _, sh.ty, kit_ty (kitTup d), _, rfl, ite2 (fun e => ?_) (fun e => ?_)⟩
    · have q' := q H Gr.refl
      rw [gateB_not (notT e)] at q'
      exact q'
    obtain ⟨ds, rfl⟩ := tup_of (notF e)
    cases sh with
    | @tup a xs _ h tx =>
      have lx := tx.length
      refine ⟨.ref a, rfl, a, xs, rfl, .inr (SqT.of h), .ref t, rfl, t, _, rfl, .inr (SqT.of ht), rfl, _, rfl, ?_⟩
      rw [len_eqI, lx, nV_len]
      refine ite2 (fun e1 => ?_) (fun e1 => ?_)
      · have nn : ¬ ds.length = ws.length := fun z => by rw [z] at e1; simp at e1
        have q' := q H Gr.refl
        have : gateBD m ws (.tuple ds) = false := by
          show (decide (ds.length = ws.length) && _) = false
          rw [decide_eq_false nn, Bool.false_and]
        rw [this] at q'
        exact q'
      have l2 : ds.length = ws.length := by
        have := of_decide_eq_true (notF e1)
        omega
      have val : gateBD m ws (.tuple ds) = (ws.zip ds).all fun z => wireBD m z.1 z.2 := by
        show (decide (ds.length = ws.length) && _) = _
        rw [decide_eq_true l2, Bool.true_and]
      rw [val] at q
      refine ⟨.ref t, rfl, .ref a, rfl, .tu t, .tu a, _, _, rfl, SqT.of ht, SqT.of h, tab, fun H2 tb2 => ?_⟩
      have g2 := Gr.tab tab tb2
      refine ZpG.gx_zip2 (K := K) (n := ws.length) (xs1 := nV ws) (xs2 := xs) (nV_len ws) (by rw [lx, l2]) (fun j _ H' => Gr H H' ∧ ((ws.zip ds).take j).all (fun z => wireBD m z.1 z.2) = true) ⟨g2, rfl⟩ (fun j _ H' _ e => ⟨SqT.of (e.1.tup ht), SqT.of (e.1.tup h)⟩) ?_ ?_
      · rintro j x y T' _ H6 hx hy nt ⟨g6, ih⟩
        obtain ⟨k, hk, rfl⟩ := nV_at hx
        obtain ⟨e0, he0, te0⟩ := tx.get hy
        have g7 := g6.trans (Gr.none (o := .tup [V.int (Int.ofNat k), y]) nt)
        have te7 := te0.gr g7
        have hz : (ws.zip ds)[j]? = some (k, e0) := by
          rw [List.getElem?_zip_eq_some]
          exact ⟨hk, he0⟩
        have no : ∀ H', Gr H H' → wireBD m k e0 = false → Q (.bl false) H' := fun H' g z => by
          have q' := q H' g
          rw [all_stop hz (by show ¬ wireBD m k e0 = true; rw [z]; decide)] at q'
          exact q'
        refine ⟨T', _, rfl, SqT.of upd_same, rfl, _, _, rfl, _, _, rfl, rfl, rfl, ?_⟩
        refine ⟨y, rfl, y, e0, rfl, te7, _, rfl, ite2 (fun z => ?_) (fun z => ?_)⟩
        · obtain ⟨i, i2, rfl, i0, ii⟩ := bound_two z
          cases te7 with
          | @tup pa ps _ hp tp =>
            have eps : ps = [V.int i, V.int i2] := by
              cases tp with
              | cons a1 r1 =>
                cases r1 with
                | cons a2 r2 =>
                  cases r2
                  cases a1
                  cases a2
                  rfl
            subst eps
            refine ⟨.int (Int.ofNat k), rfl, .int (m : Nat), rfl, _, _, rfl, rfl, _, rfl, ite2 (fun z2 => ⟨true, rfl, iteT ⟨g7, ?_⟩⟩) (fun z2 => ?_)⟩
            · refine all_take hz ih ?_
              show (boundD _ && (decide (k < m) || _)) = true
              have z2 := of_decide_eq_true z2
              rw [z, decide_eq_true (show k < m from Int.ofNat_lt.mp z2)]
              rfl
            · have hk' : ¬ k < m := fun zz => z2 (decide_eq_true (Int.ofNat_lt.mpr zz))
              refine ⟨.ref pa, rfl, pa, _, 0, _, rfl, rfl, SqT.of hp, rfl, .ref pa, rfl, pa, _, 1, _, rfl, rfl, SqT.of hp, rfl, rfl, _, rfl, ite2 (fun z3 => ⟨g7, ?_⟩) (fun z3 => ?_)⟩
              · refine all_take hz ih ?_
                show (boundD _ && (decide (k < m) || decide (i = i2))) = true
                rw [z, decide_eq_true (V.int.inj (of_decide_eq_true z3)), Bool.or_true]
                rfl
              · refine no _ g7 ?_
                show (boundD _ && (decide (k < m) || decide (i = i2))) = false
                rw [z, decide_eq_false hk', decide_eq_false fun zz => z3 (decide_eq_true (by rw [zz]))]
                rfl
        · exact ⟨false, rfl, iteF (no _ g7 (by show (boundD e0 && _) = false; rw [Bool.eq_false_iff.mpr z, Bool.false_and]))⟩
      · rintro _ H6 ⟨g6, ih⟩
        have q' := q H6 g6
        rw [List.take_of_length_le (by rw [List.length_zip]; omega)] at ih
        rw [ih] at q'
        exact q'
def sp_is_bounds (T : Tx K mg) : Sp := fun vs H Q _ => ∃ (m : Nat) (gs : List Gt) (n v : V) (d : PyData), vs = [n, v] ∧ Tk H n (netD m gs) ∧ Sh H v d ∧ GxR.TabG H T.P_is_bounds ∧ GxR.TabG H T.P_is_gate_bounds ∧ ∀ H', Gr H H' → Q (.bl (boundsD m gs d)) H'
theorem ok_is_bounds (T : Tx K mg) (B : Tb base T) : FnOk P w K mg base CX0 6 T.f_is_bounds T.fd_is_bounds ["net", "thing"] (sp_is_bounds T) := by
  refine okC T.F_is_bounds sc_is_bounds (fun vs H Q E h => ?_) (fun A outer s H vs Q E hr h => ?_)
  · obtain ⟨m, gs, n, v, d, rfl, _⟩ := h
    rfl
  · obtain ⟨m, gs, n, v, d, rfl, tn, sh, tab, tab2, q⟩ := h
    refine ⟨_, (pss_cons (ps_asg (pv 0) (pg_tup rfl (pgs_cons (pg_name (i := 2) sc_is_bounds.nd rfl (by first | exact .inl rfl | exact .inr rfl)) (pgs_cons (pg_name (i := 3) sc_is_bounds.nd rfl (by first | exact .inl rfl | exact .inr rfl)) pgs_nil)))) (pss_cons (ps_if (pw_or (pt_not (pt_val (pe_callB call_isi (by rfl) T.m_isinstance (by decide +kernel) (pa_cons (pv 1) (pa_cons (pe_bltn (v := .ty "tuple") (u := .type "tuple") (by rfl) T.m_tuple (by decide +kernel) rfl) pa_nil))))) (pw_or1 (pt_cmpR op_ne (pe_callB call_len_seq (by rfl) T.m_len PySem.boot_len (pa_cons (pv 1) pa_nil)) (pe_callB call_len_seq (by rfl) T.m_len PySem.boot_len (pa_cons (pv 3) pa_nil)) (nomark _)))).pt (pss_one (ps_ret pe_bl)) pss_nil) (pss_one (ps_ret (pe_allX (own := [("part", 4), ("table", 5), ("ins", 6)]) (k := 4) (hr.mono (by decide)) rfl sc_is_bounds.nd (by rfl) T.m_all (by decide +kernel) B.TB_is_bounds T.cd_is_bounds rfl rfl (by decide +kernel) (blkOk_by (own := [("part", 4), ("table", 5), ("ins", 6)]) (N := ["net", "thing", "many", "gates", "part", "table", "ins"]) (sc := defScope s_is_bounds) (by decide +kernel)) (ZpG.pi_zip2 (by rfl) T.m_zip (pa_cons (pv 3) (pa_cons (pv 1) pa_nil))) (fun _ _ _ _ _ _ _ hr gd => (show PG _ _ (gTup K 2 _) from pg_tup rfl (pgs_cons (show PG _ _ (gTup K 2 _) from pg_tup rfl (pgs_cons (pg_name (i := 5) sc_is_bounds.nd rfl (by first | exact .inl rfl | exact .inr rfl)) (pgs_cons (pg_name (i := 6) sc_is_bounds.nd rfl (by first | exact .inl rfl | exact .inr rfl)) pgs_nil))) (pgs_cons (pg_name (i := 4) sc_is_bounds.nd rfl (by first | exact .inl rfl | exact .inr rfl)) pgs_nil)))) (fun _ _ _ _ _ _ _ hr gd => pts_nil) (fun _ _ _ _ _ _ _ hr gd => (pe_call (ok_is_gate_bounds T B) (hr.mono (by decide)) (by rfl) T.g_is_gate_bounds T.F_is_gate_bounds.kp T.b_is_gate_bounds .nil pass0 (pa_cons (pv 2) (pa_cons (pv 6) (pa_cons (pv 4) pa_nil))))) (fun _ => rfl)))))), ?_⟩
    obtain ⟨na, nx, rfl, hn, tnx⟩ := tn.tup_inv
    obtain ⟨ga, rfl, tg⟩ : ∃ ga, nx = [V.int (m : Nat), V.ref ga] ∧ Tk H (.ref ga) (.tuple (gs.map gD)) := by
      cases tnx with
      | cons a1 r1 =>
        cases r1 with
        | cons a2 r2 =>
          cases r2
          cases a1
          obtain ⟨ga, _, rfl, _, _⟩ := id a2.tup_inv
          exact ⟨ga, rfl, a2⟩
    obtain ⟨_, gx, e, hg, tgx⟩ := tg.tup_inv
    cases e
    have lg : gx.length = gs.length := by rw [tgx.length, List.length_map]
    refine ⟨.ref na, rfl, na, _, rfl, SqT.of hn, rfl, _, _, rfl, _, _, rfl, rfl, ?_⟩
    refine ⟨v, rfl, _, _, _, _, _, rfl, .ty _, sh.ty, kit_ty (kitTup d), _, rfl, ite2 (fun e => ?_) (fun e => ?_)⟩
    · have q' := q H Gr.refl
      rw [bounds_not (notT e)] at q'
      exact q'
    obtain ⟨ds, rfl⟩ := tup_of (notF e)
    cases sh with
    | @tup a xs _ h tx =>
      have lx := tx.length
      refine ⟨.ref a, rfl, a, xs, rfl, .inr (SqT.of h), .ref ga, rfl, ga, _, rfl, .inr (SqT.of hg), rfl, _, rfl, ?_⟩
      rw [len_eqI, lx, lg]
      refine ite2 (fun e1 => ?_) (fun e1 => ?_)
      · have nn : ¬ ds.length = gs.length := fun z => by rw [z] at e1; simp at e1
        have q' := q H Gr.refl
        have : boundsD m gs (.tuple ds) = false := by
          show (decide (ds.length = gs.length) && _) = false
          rw [decide_eq_false nn, Bool.false_and]
        rw [this] at q'
        exact q'
      have l2 : ds.length = gs.length := by
        have := of_decide_eq_true (notF e1)
        omega
      have val : boundsD m gs (.tuple ds) = (gs.zip ds).all fun z => gateBD m z.1.2 z.2 := by
        show (decide (ds.length = gs.length) && _) = _
        rw [decide_eq_true l2, Bool.true_and]
      rw [val] at q
      refine ⟨.ref ga, rfl, .ref a, rfl, .tu ga, .tu a, _, _, rfl, SqT.of hg, SqT.of h, tab, fun H2 tb2 => ?_⟩
      have g2 := Gr.tab tab tb2
      refine ZpG.gx_zip2 (K := K) (n := gs.length) (xs1 := gx) (xs2 := xs) lg (by rw [lx, l2]) (fun j _ H' => Gr H H' ∧ ((gs.zip ds).take j).all (fun z => gateBD m z.1.2 z.2) = true) ⟨g2, rfl⟩ (fun j _ H' _ e => ⟨SqT.of (e.1.tup hg), SqT.of (e.1.tup h)⟩) ?_ ?_
      · rintro j x y T' _ H6 hx hy nt ⟨g6, ih⟩
        obtain ⟨g, hgj, tgt⟩ := tgx.at hx
        obtain ⟨e0, he0, te0⟩ := tx.get hy
        obtain ⟨wa, wx, rfl, hw, tw⟩ := tgt.tup_inv
        obtain ⟨wi, rfl, hwi⟩ : ∃ wi, wx = [V.str (tabOf g.1), V.ref wi] ∧ H wi = some (.tup (nV g.2)) := by
          cases tw with
          | cons a1 r1 =>
            cases r1 with
            | cons a2 r2 =>
              cases r2
              cases a1
              obtain ⟨wi, ys, rfl, hwi, ty⟩ := a2.tup_inv
              have ey : ys = nV g.2 := ints_of ty
              rw [ey] at hwi
              exact ⟨wi, rfl, hwi⟩
        have g7 := g6.trans (Gr.none (o := .tup [.ref wa, y]) nt)
        have te7 := te0.gr g7
        have hz : (gs.zip ds)[j]? = some (g, e0) := by
          rw [List.getElem?_zip_eq_some]
          exact ⟨hgj, he0⟩
        refine ⟨T', _, rfl, SqT.of upd_same, rfl, _, _, rfl, wa, _, rfl, SqT.of (g7.tup hw), rfl, _, _, rfl, _, _, rfl, rfl, _, _, rfl, rfl, rfl, ?_⟩
        refine ⟨.int (m : Nat), rfl, .ref wi, rfl, y, rfl, m, wi, g.2, y, e0, rfl, g7.tup hwi, te7, g7.2 _ tab2, fun H8 g8 => ?_⟩
        have g78 := g7.trans g8
        refine ⟨_, rfl, ite2 (fun z => ⟨g78, all_take hz ih z⟩) (fun z => ?_)⟩
        have q' := q H8 g78
        rw [all_stop hz z] at q'
        exact q'
      · rintro _ H6 ⟨g6, ih⟩
        have q' := q H6 g6
        rw [List.take_of_length_le (by rw [List.length_zip]; omega)] at ih
        rw [ih] at q'
        exact q'

end
end Gk

set_option Elab.async false
set_option linter.all false
set_option maxRecDepth 100000
set_option maxHeartbeats 1000000
set_option pp.maxSteps 1500
set_option pp.deepTerms false
namespace Gk
open PySem PySem.Spec PyProof.Rows L2
section
variable {P : Program} {w : World} {K : PySem.W.Frag} {mg : Str → Option Value} {base : Heap}
/-! ### a great number, drawn piece by piece -/
def leftAt (σ : L2.St) : Nat := match σ with
  | _ :: _ :: _ :: some (.int i) :: _ => i.toNat
  | _ => 0
theorem k_lim {t L : Int} {k : Nat} (h1 : 1 ≤ t) (h : t * 2 ^ k ≤ L) (hL : L ≤ 1000000000000000000000000000001) : k < 100 := by
  have p : (0 : Int) < 2 ^ k := Int.pow_pos (by decide)
  have a : (1 : Int) * 2 ^ k ≤ t * 2 ^ k := Int.mul_le_mul_of_nonneg_right h1 (Int.le_of_lt p)
  have b : (2 : Int) ^ k < 2 ^ 100 := Int.lt_of_le_of_lt (show (2 : Int) ^ k ≤ 1000000000000000000000000000001 by omega) (by decide)
  by_cases z : k < 100
  · exact z
  · have c : (2 : Nat) ^ 100 ≤ 2 ^ k := Nat.pow_le_pow_right (by decide) (by omega)
    have d : ((2 ^ 100 : Nat) : Int) ≤ ((2 ^ k : Nat) : Int) := Int.ofNat_le.mpr c
    rw [Int.natCast_pow, Int.natCast_pow] at d
    exact absurd (Int.lt_of_le_of_lt d b) (Int.lt_irrefl _)
theorem div_half {t s : Int} (s2 : 2 ≤ s) (st : s ≤ t) : 1 ≤ t / s ∧ t / s * 2 ≤ t := by
  have e := Int.mul_ediv_add_emod t s
  have r := Int.emod_nonneg t (show s ≠ 0 by omega)
  have a : 1 ≤ t / s := (Int.le_ediv_iff_mul_le (by omega)).mpr (by omega)
  refine ⟨a, ?_⟩
  have : t / s * 2 ≤ t / s * s := Int.mul_le_mul_of_nonneg_left s2 (by omega)
  rw [Int.mul_comm (t / s) s] at this
  omega
def sp_great (K : PySem.W.Frag) : Sp := fun vs H Q _ => ∃ (d l : Addr) (L n : Int), vs = [.ref d, .int L] ∧ DeckB H d l n ∧ n < 900000000 ∧ 1 ≤ L ∧ L ≤ 1000000000000000000000000000001 ∧ ∀ H' v, DeckB H' d l (n + 100) → Fr d l H H' → 0 ≤ v → v < L → Q (.int v) H'
theorem ok_great (T : Tx K mg) : FnOk P w K mg base CX0 2 T.f_great T.fd_great ["_law_deck_here", "_law_most"] (sp_great K) := by
  refine T.F_great.ok sc_great (fun vs H Q E h => ?_) (fun cdv A outer s H vs Q E hr h => ?_)
  · obtain ⟨d, l, L, n, rfl, _⟩ := h
    rfl
  · obtain ⟨d, l, L, n, rfl, D, hn, h1, hL, q⟩ := h
    refine ⟨_, (pss_cons (ps_set (i := 2) sc_great.nd rfl (by first | exact .inl rfl | exact .inr rfl) pe_int) (pss_cons (ps_set (i := 3) sc_great.nd rfl (by first | exact .inl rfl | exact .inr rfl) (pv 1)) (pss_cons (ps_while PassesOwn.never (pt_cmpR op_gt (pv 3) pe_int (nomark _)) (pss_cons (ps_set (i := 4) sc_great.nd rfl (by first | exact .inl rfl | exact .inr rfl) (pe_callB (call_min2 rfl) (by rfl) T.m_min (by decide +kernel) (pa_cons (pv 3) (pa_cons (pe_op op_pow pe_int pe_int) pa_nil)))) (pss_cons (ps_set (i := 2) sc_great.nd rfl (by first | exact .inl rfl | exact .inr rfl) (pe_op op_add (pe_op op_mul (pv 2) (pv 4)) (pe_call (ok_draw T) (hr.mono (by decide)) (by rfl) T.g_draw T.F_draw.kp T.b_draw .nil pass0 (pa_cons (pv 0) (pa_cons (pv 4) pa_nil))))) (pss_one (ps_set (i := 3) sc_great.nd rfl (by first | exact .inl rfl | exact .inr rfl) (pe_op op_fdiv (pv 3) (pv 4))))))) (pss_one (ps_ret (pe_op op_mod (pv 2) (pv 1))))))), ?_⟩
    refine ⟨.int L, rfl, ?_⟩
    refine while_by (fun σ H' => ∃ (k : Nat) (f t : Int) (y : Option V), σ = [some (.ref d), some (.int L), some (.int f), some (.int t), y] ∧ DeckB H' d l (n + (k : Nat)) ∧ Fr d l H H' ∧ 1 ≤ t ∧ t * 2 ^ k ≤ L) (fun σ _ => leftAt σ) ⟨0, 0, L, _, rfl, D.mono (by omega), Fr.refl, h1, by rw [Int.pow_zero]; omega⟩ ?_ (fun σ H Q Q' hq ⟨v, ev, a, b, e1, e2, bb, eb, h⟩ => ⟨v, ev, a, b, e1, e2, bb, eb, hq _ _ h⟩)
    rintro σ H1 ⟨k, f, t, y, rfl, D1, fr1, t1, ht⟩
    have k1 := k_lim t1 ht hL
    refine ⟨.int t, rfl, _, _, rfl, rfl, _, rfl, ite2 (fun z => ?_) (fun z => ?_)⟩
    · have t2 : 1 < t := of_decide_eq_true z
      refine ⟨.int t, rfl, _, _, rfl, rfl, ⟨by decide, by decide, by decide⟩, _, _, rfl, ?_⟩
      have es : ∃ s : Int, (if (10 : Int) ^ (6 : Int).toNat < t then (10 : Int) ^ (6 : Int).toNat else t) = s ∧ 2 ≤ s ∧ s ≤ t ∧ s ≤ 1000000 := by
        have e6 : (10 : Int) ^ (6 : Int).toNat = 1000000 := by decide
        rw [e6]
        split
        · exact ⟨_, rfl, by omega, by omega, by omega⟩
        · exact ⟨_, rfl, by omega, by omega, by omega⟩
      obtain ⟨s, es, s2, st, s6⟩ := es
      rw [es]
      refine ⟨.int f, rfl, .int s, rfl, f, s, rfl, rfl, .inr ⟨by omega, by omega⟩, .ref d, rfl, .int s, rfl, d, l, s, n + (k : Nat), rfl, D1, by omega, by omega, by omega, fun H2 v D2 fr2 v0 v1 => ?_⟩
      refine ⟨_, _, rfl, rfl, .int t, rfl, .int s, rfl, t, s, rfl, rfl, ⟨by omega, by omega⟩, ?_⟩
      obtain ⟨a, b⟩ := div_half s2 st
      refine ⟨⟨k + 1, f * s + v, t / s, _, rfl, D2.mono (by push_cast; omega), fr1.trans fr2, a, ?_⟩, ?_⟩
      · have p : (0 : Int) < 2 ^ k := Int.pow_pos (by decide)
        have c : t / s * 2 * 2 ^ k ≤ t * 2 ^ k := Int.mul_le_mul_of_nonneg_right b (Int.le_of_lt p)
        rw [Int.pow_succ, Int.mul_comm ((2 : Int) ^ k) 2, ← Int.mul_assoc]
        omega
      · show (t / s).toNat < t.toNat
        omega
    · refine ⟨.int f, rfl, .int L, rfl, f, L, rfl, rfl, by show 0 < L; omega, ?_⟩
      exact q _ _ (D1.mono (by omega)) fr1 (Int.emod_nonneg _ (by omega)) (Int.emod_lt_of_pos _ (by omega))

end
end Gk

set_option Elab.async false
set_option linter.all false
set_option maxRecDepth 100000
set_option maxHeartbeats 1000000
set_option pp.maxSteps 1500
set_option pp.deepTerms false
namespace Gk
open PySem PySem.Spec PyProof.Rows L2
section
variable {P : Program} {w : World} {K : PySem.W.Frag} {mg : Str → Option Value} {base : Heap}
/-! ### bounds, drawn -/
abbrev BR := List (Int × Int)
def pD (p : Int × Int) : PyData := .tuple [.int p.1, .int p.2]
def rD (r : BR) : PyData := .tuple (r.map pD)
def bsD (b : List BR) : PyData := .tuple (b.map rD)
def BOk (m k : Nat) (p : Int × Int) : Prop := 0 ≤ p.1 ∧ p.1 ≤ p.2 ∧ p.2 ≤ 2000000000000000000000000000000 ∧ (k < m ∨ p.1 = p.2)
def Zok {α β : Type} (R : α → β → Prop) (as : List α) (bs : List β) : Prop := ∀ (j : Nat) (a : α) (b : β), as[j]? = some a → bs[j]? = some b → R a b
theorem Zok.nil {α β : Type} {R : α → β → Prop} {bs : List β} : Zok R [] bs := fun j a b h => by simp at h
theorem Zok.snoc {α β : Type} {R : α → β → Prop} {as : List α} {bs : List β} {a : α} {b : β} (z : Zok R as bs) (hb : bs[as.length]? = some b) (h : R a b) : Zok R (as ++ [a]) bs := fun j a' b' h1 h2 => by
  by_cases hj : j < as.length
  · rw [List.getElem?_append_left hj] at h1
    exact z j a' b' h1 h2
  · have hl := (List.getElem?_eq_some_iff.mp h1).1
    rw [List.length_append] at hl
    have e : j = as.length := by
      have : j < as.length + 1 := hl
      omega
    subst e
    rw [List.getElem?_append_right (Nat.le_refl _), Nat.sub_self] at h1
    cases Option.some.inj h1
    rw [hb] at h2
    cases Option.some.inj h2
    exact h
def ROk (m : Nat) (ws : List Nat) (r : BR) : Prop := r.length = ws.length ∧ Zok (fun p k => BOk m k p) r ws
def BsOk (m : Nat) (gs : List Gt) (b : List BR) : Prop := b.length = gs.length ∧ Zok (fun (r : BR) (g : Gt) => ROk m g.2 r) b gs
theorem noL_p (p : Int × Int) : noL (pD p) = true := rfl
theorem noL_r (r : BR) : noL (rD r) = true := noLs_map noL_p r
theorem noL_bs (b : List BR) : noL (bsD b) = true := noLs_map noL_r b
def sp_bounds (K : PySem.W.Frag) : Sp := fun vs H Q _ => ∃ (d l na : Addr) (n far t : Int) (m : Nat) (gs : List Gt), vs = [.ref d, .ref na, .int far, .int far, .int t] ∧ DeckB H d l n ∧ n < 800000000 ∧ Tk H (.ref na) (netD m gs) ∧ NetOk m gs ∧ gs.length ≤ 40 ∧ 1 ≤ far ∧ far ≤ 1000000000000000000000000000000 ∧ ∀ H' v bs, DeckB H' d l (n + 30000) → Fr d l H H' → Tk H' v (bsD bs) → BsOk m gs bs → Q v H'
theorem ok_bounds (T : Tx K mg) : FnOk P w K mg base CX0 3 T.f_bounds T.fd_bounds ["_law_deck_here", "_law_net", "_law_far", "_law_wide", "_law_most"] (sp_bounds K) := by
  refine T.F_bounds.ok sc_bounds (fun vs H Q E h => ?_) (fun cdv A outer s H vs Q E hr h => ?_)
  · obtain ⟨d, l, na, n, far, t, m, gs, rfl, _⟩ := h
    rfl
  · obtain ⟨d, l, na, n, far, t, m, gs, rfl, D, hn, tn, nok, hg, f1, f2, q⟩ := h
    refine ⟨_, (pss_cons (ps_set (i := 5) sc_bounds.nd rfl (by first | exact .inl rfl | exact .inr rfl) (pe_lst pa_nil)) (pss_cons (ps_for PassesOwn.never rfl (pi_tup (pe_ix ix_tup (pv 1) pe_int (fun _ _ => rfl))) (pg_tup rfl (pgs_cons (pg_name (i := 6) sc_bounds.nd rfl (by first | exact .inl rfl | exact .inr rfl)) (pgs_cons (pg_name (i := 7) sc_bounds.nd rfl (by first | exact .inl rfl | exact .inr rfl)) pgs_nil))) (pss_cons (ps_set (i := 8) sc_bounds.nd rfl (by first | exact .inl rfl | exact .inr rfl) (pe_lst pa_nil)) (pss_cons (ps_for PassesOwn.never rfl (pi_tup (pv 7)) (pg_name (i := 9) sc_bounds.nd rfl (by first | exact .inl rfl | exact .inr rfl)) (pss_cons (ps_set (i := 10) sc_bounds.nd rfl (by first | exact .inl rfl | exact .inr rfl) (pe_op op_mul (pe_call (ok_great T) (hr.mono (by decide)) (by rfl) T.g_great T.F_great.kp T.b_great .nil pass0 (pa_cons (pv 0) (pa_cons (pe_op op_add (pv 3) pe_int) pa_nil))) (pe_callTy call_int1 (by rfl) T.m_int (by decide +kernel) (pa_cons (pe_cmpR op_lt (pv 9) (pe_ix ix_tup (pv 1) pe_int (fun _ _ => rfl)) (nomark _)) pa_nil)))) (pss_cons (ps_set (i := 11) sc_bounds.nd rfl (by first | exact .inl rfl | exact .inr rfl) (pe_call (ok_great T) (hr.mono (by decide)) (by rfl) T.g_great T.F_great.kp T.b_great .nil pass0 (pa_cons (pv 0) (pa_cons (pv 2) pa_nil)))) (C8.pss_cut (ps_if (pt_cmpR op_lt (pe_op op_fdivW (pv 4) (pe_op op_add (pv 10) pe_int)) pe_int (nomark _)) (pss_one (ps_set (i := 10) sc_bounds.nd rfl (by first | exact .inl rfl | exact .inr rfl) pe_int)) pss_nil) (pss_cons (ps_set (i := 4) sc_bounds.nd rfl (by first | exact .inl rfl | exact .inr rfl) (pe_op op_fdivW (pv 4) (pe_op op_add (pv 10) pe_int))) (pss_one (ps_expr (pe_bm PySem.F.plainAttrs_list PySem.F.slot_list_append PySem.F.type_list_append mt_append (pv 8) (pa_cons (pe_tup (pa_cons (pv 11) (pa_cons (pe_op op_add (pv 11) (pv 10)) pa_nil))) pa_nil))))))))) (pss_one (ps_expr (pe_bm PySem.F.plainAttrs_list PySem.F.slot_list_append PySem.F.type_list_append mt_append (pv 5) (pa_cons (pe_callTy call_tuple_of (by rfl) T.m_tuple (by decide +kernel) (pa_cons (pv 8) pa_nil)) pa_nil))))))) (pss_one (ps_ret (pe_callTy call_tuple_of (by rfl) T.m_tuple (by decide +kernel) (pa_cons (pv 5) pa_nil)))))), ?_⟩
    obtain ⟨_, nx, e, hna, tnx⟩ := tn.tup_inv
    cases e
    obtain ⟨ga, rfl, tg⟩ : ∃ ga, nx = [V.int (m : Nat), V.ref ga] ∧ Tk H (.ref ga) (.tuple (gs.map gD)) := by
      cases tnx with
      | cons a1 r1 =>
        cases r1 with
        | cons a2 r2 =>
          cases r2
          cases a1
          obtain ⟨ga, _, rfl, _, _⟩ := id a2.tup_inv
          exact ⟨ga, rfl, a2⟩
    obtain ⟨_, gx, e, hga, tgx⟩ := tg.tup_inv
    cases e
    have lgx : gx.length = gs.length := by rw [tgx.length, List.length_map]
    refine ⟨Nat.zero_le _, fun G nG => ?_⟩
    have oG := D.off nG
    have s1 := same_upd (o := HO.lst []) nG
    have D1 := D.same s1
    have hG1 : (upd H G (.lst [])) G = some (.lst []) := upd_same
    have hna1 := s1 _ _ hna
    have hga1 := s1 _ _ hga
    have ts1 := Ts.same s1
    have fr1 : Fr d l H (upd H G (.lst [])) := Fr.of s1
    show tSeq _ _ _ _ (upd H G (.lst []))
    revert D1 hG1 hna1 hga1 ts1 fr1
    generalize upd H G (.lst []) = H1
    intro D1 hG1 hna1 hga1 ts1 fr1
    refine ⟨.ref na, rfl, na, _, 1, .ref ga, rfl, rfl, SqT.of hna1, rfl, ga, rfl, ⟨_, SqT.of hga1⟩, ?_⟩
    refine for_tup (K := K) (a := ga) (xs := gx) (fun i σ H' => ∃ (t' : Int) (bs : List BR) (acc : List V) (y6 y7 y8 y9 y10 y11 : Option V), σ = [some (.ref d), some (.ref na), some (.int far), some (.int far), some (.int t'), some (.ref G), y6, y7, y8, y9, y10, y11] ∧ DeckB H' d l (n + 700 * i) ∧ Fr d l H H' ∧ Ts H H' ∧ H' G = some (.lst acc) ∧ TkAll H' acc (bs.map rD) ∧ bs.length = i ∧ Zok (fun (r : BR) (g : Gt) => ROk m g.2 r) bs gs)
      ⟨t, [], [], _, _, _, _, _, _, rfl, D1.mono (by omega), fr1, ts1, hG1, .nil, rfl, Zok.nil⟩ (fun i σ H' _ ⟨_, _, _, _, _, _, _, _, _, _, _, _, k, _⟩ => SqT.of (k _ _ hga)) ?_ ?_
    · rintro i v σ H2 hv ⟨t2, bs, acc, y6, y7, y8, y9, y10, y11, rfl, D2, fr2, ts2, hG2, tb2, lb2, zb2⟩
      have hi : i < gs.length := by
        have := (List.getElem?_eq_some_iff.mp hv).1
        omega
      obtain ⟨g, hgi, tgt⟩ := tgx.at hv
      obtain ⟨wa, wx, rfl, hw, tw⟩ := tgt.tup_inv
      obtain ⟨wi, rfl, hwi⟩ : ∃ wi, wx = [V.str (tabOf g.1), V.ref wi] ∧ H wi = some (.tup (nV g.2)) := by
        cases tw with
        | cons a1 r1 =>
          cases r1 with
          | cons a2 r2 =>
            cases r2
            cases a1
            obtain ⟨wi, ys, rfl, hwi, ty⟩ := a2.tup_inv
            have ey : ys = nV g.2 := ints_of ty
            rw [ey] at hwi
            exact ⟨wi, rfl, hwi⟩
      have gok := nok i g hgi
      refine ⟨wa, _, rfl, SqT.of (ts2 _ _ hw), rfl, _, _, rfl, _, _, rfl, rfl, ?_⟩
      refine ⟨Nat.zero_le _, fun R nR => ?_⟩
      have oR := D2.off nR
      have nGR : G ≠ R := ne_of_none hG2 nR
      have nR0 : H R = none := none_of_fr fr2 D2 nR
      have nG0 := nG
      have s3 := same_upd (o := HO.lst []) nR
      have D3 := D2.same s3
      have fr3 := fr2.trans (Fr.of s3)
      have ts3 := ts2.trans (Ts.same s3)
      have hG3 := s3 _ _ hG2
      have tb3 := tb2.ts (Ts.same s3) (noLs_map noL_r bs)
      have hR3 : (upd H2 R (.lst [])) R = some (.lst []) := upd_same
      show tSeq _ _ _ _ (upd H2 R (.lst []))
      revert D3 fr3 ts3 hG3 tb3 hR3
      generalize upd H2 R (.lst []) = H3
      intro D3 fr3 ts3 hG3 tb3 hR3
      refine ⟨.ref wi, rfl, wi, rfl, ⟨_, SqT.of (ts3 _ _ hwi)⟩, ?_⟩
      refine for_tup (K := K) (a := wi) (xs := nV g.2) (fun j σ H' => ∃ (t' : Int) (r : BR) (ac : List V) (y9 y10 y11 : Option V), σ = [some (.ref d), some (.ref na), some (.int far), some (.int far), some (.int t'), some (.ref G), some (.str (tabOf g.1)), some (.ref wi), some (.ref R), y9, y10, y11] ∧ DeckB H' d l (n + 700 * i + 200 * j) ∧ Fr d l H H' ∧ Ts H H' ∧ H' G = some (.lst acc) ∧ TkAll H' acc (bs.map rD) ∧ H' R = some (.lst ac) ∧ TkAll H' ac (r.map pD) ∧ r.length = j ∧ Zok (fun p k => BOk m k p) r g.2)
        ⟨t2, [], [], _, _, _, rfl, D3.mono (by omega), fr3, ts3, hG3, tb3, hR3, .nil, rfl, Zok.nil⟩ (fun j σ H' _ ⟨_, _, _, _, _, _, _, _, _, k, _⟩ => SqT.of (k _ _ hwi)) ?_ ?_
      · rintro j x σ H4 hx ⟨t4, r, ac, y9, y10, y11, rfl, D4, fr4, ts4, hG4, tb4, hR4, tr4, lr4, zr4⟩
        obtain ⟨k, hk, rfl⟩ := nV_at hx
        have hj : j < 3 := by
          have := (List.getElem?_eq_some_iff.mp hk).1
          have := gok.2.2.1
          omega
        refine ⟨.ref d, rfl, .int far, rfl, _, _, rfl, rfl, d, l, _, _, rfl, D4, by omega, by omega, by omega, fun H5 v5 D5 fr5 v0 v1 => ?_⟩
        have oG4 := oG
        have ts5 := ts4.trans (Ts.fr D4 fr5)
        have frB := fr4.trans fr5
        refine ⟨.int (Int.ofNat k), rfl, .ref na, rfl, na, _, 0, .int (m : Nat), rfl, rfl, SqT.of (ts5 _ _ hna), rfl, _, _, rfl, rfl, .inr ⟨_, rfl, v5, _, rfl, rfl, .inr (by split <;> exact ⟨by decide, by decide⟩), ?_⟩⟩
        have em : ∃ mo : Int, v5 * (if decide (Int.ofNat k < (m : Int)) = true then 1 else 0) = mo ∧ 0 ≤ mo ∧ mo ≤ far ∧ (k < m ∨ mo = 0) := by
          split
          · rename_i z
            rw [Int.mul_one]
            exact ⟨v5, rfl, v0, by omega, .inl (Int.ofNat_lt.mp (of_decide_eq_true z))⟩
          · rw [Int.mul_zero]
            exact ⟨0, rfl, by omega, by omega, .inr rfl⟩
        obtain ⟨mo, em, m0, m1, mk⟩ := em
        dsimp only
        rw [em]
        refine ⟨.ref d, rfl, .int far, rfl, d, l, _, _, rfl, D5, by omega, by omega, by omega, fun H6 v6 D6 fr6 u0 u1 => ?_⟩
        have cw : ∀ z : Int, 0 ≤ z → z ≤ far → CDivW t4 (z + 1) := fun z z0 z1 => wide_div (b := 100) (by omega) (by omega) (by decide) (by decide)
        refine ⟨fun σ H' => ∃ mo' : Int, σ = [some (.ref d), some (.ref na), some (.int far), some (.int far), some (.int t4), some (.ref G), some (.str (tabOf g.1)), some (.ref wi), some (.ref R), some (.int (Int.ofNat k)), some (.int mo'), some (.int v6)] ∧ H' = H6 ∧ 0 ≤ mo' ∧ mo' ≤ far ∧ (k < m ∨ mo' = 0), ?_, ?_⟩
        · refine ⟨.int t4, rfl, .int mo, rfl, _, _, rfl, rfl, t4, mo + 1, rfl, rfl, cw mo m0 m1, _, _, rfl, rfl, _, rfl, ite2 (fun _ => ?_) (fun _ => ?_)⟩
          · exact ⟨0, rfl, rfl, by omega, by omega, .inr rfl⟩
          · exact ⟨mo, rfl, rfl, m0, m1, mk⟩
        · rintro σ H' ⟨mo', rfl, rfl, n0, n1, nk⟩
          have frC := frB.trans fr6
          have ts6 := ts5.trans (Ts.fr D5 fr6)
          have hR6 := fr6 _ _ oR.1 oR.2 (fr5 _ _ oR.1 oR.2 hR4)
          have hG6 := fr6 _ _ oG.1 oG.2 (fr5 _ _ oG.1 oG.2 hG4)
          have tsD := (Ts.fr D4 fr5).trans (Ts.fr D5 fr6)
          refine ⟨.int t4, rfl, .int mo', rfl, _, _, rfl, rfl, t4, mo' + 1, rfl, rfl, cw mo' n0 n1, ?_⟩
          refine ⟨.ref R, rfl, .inl ⟨rfl, _, SqL.of hR6⟩, .int v6, rfl, .int v6, rfl, .int mo', rfl, _, _, rfl, rfl, sl2, fun p np => ?_⟩
          have sp := same_upd (o := HO.tup [V.int v6, V.int (v6 + mo')]) np
          have hR7 := sp _ _ hR6
          have tsE := tsD.trans ((Ts.same sp).trans (Ts.set (ys := ac ++ [.ref p]) hR7))
          refine ⟨R, ac, _, rfl, rfl, hR7, ?_, ?_⟩
          · have := tr4.length
            rw [List.length_map] at this
            exact Nat.lt_of_lt_of_le (show ac.length < 64 by omega) (by decide)
          refine ⟨_, r ++ [(v6, v6 + mo')], ac ++ [.ref p], _, _, _, rfl, ((D6.same sp).upd oR.1 oR.2).mono (by push_cast; omega), Fr.upd (frC.trans (Fr.of sp)) nR0, ts4.trans tsE, by rw [upd_ne nGR]; exact sp _ _ hG6, tb4.ts tsE (noLs_map noL_r bs), upd_same, ?_, by rw [List.length_append, lr4]; rfl, zr4.snoc (by rw [lr4]; exact hk) ⟨u0, by omega, by omega, ?_⟩⟩
          · rw [List.map_append]
            exact (tr4.ts tsE (noLs_map noL_p r)).append (.cons ((show Tk (upd H' p (.tup [V.int v6, V.int (v6 + mo')])) (.ref p) (pD (v6, v6 + mo')) from .tup upd_same (.cons (.int _) (.cons (.int _) .nil))).ts (Ts.set hR7) rfl) .nil)
          · rcases nk with z | z
            · exact .inl z
            · right
              show v6 = v6 + mo'
              omega
      · rintro σ H4 ⟨t4, r, ac, y9, y10, y11, rfl, D4, fr4, ts4, hG4, tb4, hR4, tr4, lr4, zr4⟩
        rw [nV_len] at lr4 D4
        have g3 := gok.2.2.1
        refine ⟨.ref G, rfl, .inl ⟨rfl, _, SqL.of hG4⟩, .ref R, rfl, R, _, rfl, .inl ⟨SqL.of hR4, fun p np => ?_⟩⟩
        have sp := same_upd (o := HO.tup ac) np
        have hG5 := sp _ _ hG4
        refine ⟨G, _, _, rfl, rfl, hG5, ?_, ?_⟩
        · have := tb4.length
          rw [List.length_map] at this
          exact Nat.lt_of_lt_of_le (show acc.length < 64 by omega) (by decide)
        · refine ⟨t4, bs ++ [r], acc ++ [.ref p], _, _, _, _, _, _, rfl, ((D4.same sp).upd oG.1 oG.2).mono (by push_cast; omega), Fr.upd (fr4.trans (Fr.of sp)) nG0, (ts4.trans (Ts.same sp)).trans (Ts.set hG5), upd_same, ?_, by rw [List.length_append, lb2]; rfl, zb2.snoc (by rw [lb2]; exact hgi) ⟨lr4, zr4⟩⟩
          rw [List.map_append]
          exact (tb4.ts ((Ts.same sp).trans (Ts.set hG5)) (noLs_map noL_r bs)).append (.cons ((show Tk (upd H4 p (.tup ac)) (.ref p) (rD r) from .tup upd_same (tr4.ts (Ts.same sp) (noLs_map noL_p r))).ts (Ts.set hG5) (noL_r r)) .nil)
    · rintro σ H2 ⟨t2, bs, acc, y6, y7, y8, y9, y10, y11, rfl, D2, fr2, ts2, hG2, tb2, lb2, zb2⟩
      rw [lgx] at D2 lb2
      refine ⟨.ref G, rfl, G, _, rfl, .inl ⟨SqL.of hG2, fun p np => ?_⟩⟩
      have sp := same_upd (o := HO.tup acc) np
      exact q _ _ bs ((D2.same sp).mono (by omega)) (fr2.trans (Fr.of sp)) (.tup upd_same (tb2.ts (Ts.same sp) (noLs_map noL_r bs))) ⟨lb2, zb2⟩

end
end Gk

set_option Elab.async false
set_option linter.all false
set_option maxRecDepth 100000
set_option maxHeartbeats 1000000
set_option pp.maxSteps 1500
set_option pp.deepTerms false
namespace Gk
open PySem PySem.Spec PyProof.Rows L2
section
variable {P : Program} {w : World} {K : PySem.W.Frag} {mg : Str → Option Value} {base : Heap}
/-! ### the law's own look -/
def sp_whole (K : PySem.W.Frag) : Sp := fun vs H Q _ => ∃ (v : V) (d : PyData), vs = [v] ∧ Sh H v d ∧ Q (.bl (wholeD d)) H
theorem ok_whole (T : Tx K mg) : FnOk P w K mg base CX0 1 T.f_whole T.fd_whole ["_law_thing"] (sp_whole K) := by
  refine T.F_whole.ok sc_whole (fun vs H Q E h => ?_) (fun cdv A outer s H vs Q E hr h => ?_)
  · obtain ⟨v, d, rfl, _⟩ := h
    rfl
  · obtain ⟨v, d, rfl, sh, q⟩ := h
    refine ⟨_, (pss_one (ps_ret (pe_and (pe_callB call_isi (by rfl) T.m_isinstance (by decide +kernel) (pa_cons (pv 0) (pa_cons (pe_bltn (v := .ty "int") (u := .type "int") (by rfl) T.m_int (by decide +kernel) rfl) pa_nil))) (pe_one (pe_not (pe_callB call_isi (by rfl) T.m_isinstance (by decide +kernel) (pa_cons (pv 0) (pa_cons (pe_bltn (v := .ty "bool") (u := .type "bool") (by rfl) T.m_bool (by decide +kernel) rfl) pa_nil)))))))), ?_⟩
    refine ⟨v, rfl, _, _, _, _, _, rfl, .ty _, sh.ty, kit_ty (kitInt d), _, rfl, ite2 (fun e => ?_) (fun e => ?_)⟩
    · refine ⟨v, rfl, _, _, _, _, _, rfl, .ty _, sh.ty, kit_ty (kitBool d), _, rfl, ?_⟩
      rw [← whole_of e]
      exact q
    · rw [whole_not e] at q
      exact q
theorem gate_parts {m : Nat} {ws : List Nat} {ds : List PyData} (h : ds.length = ws.length) : gateBD m ws (.tuple ds) = (ws.zip ds).all fun z => wireBD m z.1 z.2 := by
  show (decide (ds.length = ws.length) && _) = _
  rw [decide_eq_true h, Bool.true_and]
def sp_due (K : PySem.W.Frag) : Sp := fun vs H Q _ => ∃ (m : Nat) (gs : List Gt) (n v : V) (d : PyData), vs = [n, v] ∧ Tk H n (netD m gs) ∧ Sh H v d ∧ ∀ H', Same H H' → Q (.bl (boundsD m gs d)) H'
theorem ok_due (T : Tx K mg) : FnOk P w K mg base CX0 2 T.f_due T.fd_due ["_law_net", "_law_thing"] (sp_due K) := by
  refine T.F_due.ok sc_due (fun vs H Q E h => ?_) (fun cdv A outer s H vs Q E hr h => ?_)
  · obtain ⟨m, gs, n, v, d, rfl, _⟩ := h
    rfl
  · obtain ⟨m, gs, n, v, d, rfl, tn, sh, q⟩ := h
    refine ⟨_, (pss_cons (ps_if (pw_or (pt_not (pt_val (pe_callB call_isi (by rfl) T.m_isinstance (by decide +kernel) (pa_cons (pv 1) (pa_cons (pe_bltn (v := .ty "tuple") (u := .type "tuple") (by rfl) T.m_tuple (by decide +kernel) rfl) pa_nil))))) (pw_or1 (pt_cmpR op_ne (pe_callB call_len_seq (by rfl) T.m_len PySem.boot_len (pa_cons (pv 1) pa_nil)) (pe_callB call_len_seq (by rfl) T.m_len PySem.boot_len (pa_cons (pe_ix ix_tup (pv 0) pe_int (fun _ _ => rfl)) pa_nil)) (nomark _)))).pt (pss_one (ps_ret pe_bl)) pss_nil) (pss_cons (ps_for PassesOwn.never rfl (ZpG.pi_zip2 (by rfl) T.m_zip (pa_cons (pe_ix ix_tup (pv 0) pe_int (fun _ _ => rfl)) (pa_cons (pv 1) pa_nil))) (pg_tup rfl (pgs_cons (pg_name (i := 2) sc_due.nd rfl (by first | exact .inl rfl | exact .inr rfl)) (pgs_cons (pg_name (i := 3) sc_due.nd rfl (by first | exact .inl rfl | exact .inr rfl)) pgs_nil))) (pss_cons (ps_if (pw_or (pt_not (pt_val (pe_callB call_isi (by rfl) T.m_isinstance (by decide +kernel) (pa_cons (pv 3) (pa_cons (pe_bltn (v := .ty "tuple") (u := .type "tuple") (by rfl) T.m_tuple (by decide +kernel) rfl) pa_nil))))) (pw_or1 (pt_cmpR op_ne (pe_callB call_len_seq (by rfl) T.m_len PySem.boot_len (pa_cons (pv 3) pa_nil)) (pe_callB call_len_seq (by rfl) T.m_len PySem.boot_len (pa_cons (pe_ix ix_tup (pv 2) pe_int (fun _ _ => rfl)) pa_nil)) (nomark _)))).pt (pss_one (ps_ret pe_bl)) pss_nil) (pss_one (ps_for PassesOwn.never rfl (ZpG.pi_zip2 (by rfl) T.m_zip (pa_cons (pe_ix ix_tup (pv 2) pe_int (fun _ _ => rfl)) (pa_cons (pv 3) pa_nil))) (pg_tup rfl (pgs_cons (pg_name (i := 4) sc_due.nd rfl (by first | exact .inl rfl | exact .inr rfl)) (pgs_cons (pg_name (i := 5) sc_due.nd rfl (by first | exact .inl rfl | exact .inr rfl)) pgs_nil))) (pss_cons (ps_if (pw_or (pt_not (pt_val (pe_callB call_isi (by rfl) T.m_isinstance (by decide +kernel) (pa_cons (pv 5) (pa_cons (pe_bltn (v := .ty "tuple") (u := .type "tuple") (by rfl) T.m_tuple (by decide +kernel) rfl) pa_nil))))) (pw_or (pt_cmpR op_ne (pe_callB call_len_seq (by rfl) T.m_len PySem.boot_len (pa_cons (pv 5) pa_nil)) pe_int (nomark _)) (pw_or (pt_not (pt_val (pe_call (ok_whole T) (hr.mono (by decide)) (by rfl) T.g_whole T.F_whole.kp T.b_whole .nil pass0 (pa_cons (pe_ix ix_tup (pv 5) pe_int (fun _ _ => rfl)) pa_nil)))) (pw_or1 (pt_not (pt_val (pe_call (ok_whole T) (hr.mono (by decide)) (by rfl) T.g_whole T.F_whole.kp T.b_whole .nil pass0 (pa_cons (pe_ix ix_tup (pv 5) pe_int (fun _ _ => rfl)) pa_nil)))))))).pt (pss_one (ps_ret pe_bl)) pss_nil) (pss_one (ps_if (pw_or (pt_cmpR op_lt (pe_ix ix_tup (pv 5) pe_int (fun _ _ => rfl)) pe_int (nomark _)) (pw_or (pt_cmpR op_gt (pe_ix ix_tup (pv 5) pe_int (fun _ _ => rfl)) (pe_ix ix_tup (pv 5) pe_int (fun _ _ => rfl)) (nomark _)) (pw_or1 (pw_and (pt_cmpR op_ge (pv 4) (pe_ix ix_tup (pv 0) pe_int (fun _ _ => rfl)) (nomark _)) (pw_and1 (pt_cmpR op_ne (pe_ix ix_tup (pv 5) pe_int (fun _ _ => rfl)) (pe_ix ix_tup (pv 5) pe_int (fun _ _ => rfl)) (nomark _)))).pt))).pt (pss_one (ps_ret pe_bl)) pss_nil))))))) (pss_one (ps_ret pe_bl)))), ?_⟩
    obtain ⟨na, nx, rfl, hn, tnx⟩ := tn.tup_inv
    obtain ⟨ga, rfl, tg⟩ : ∃ ga, nx = [V.int (m : Nat), V.ref ga] ∧ Tk H (.ref ga) (.tuple (gs.map gD)) := by
      cases tnx with
      | cons a1 r1 =>
        cases r1 with
        | cons a2 r2 =>
          cases r2
          cases a1
          obtain ⟨ga, _, rfl, _, _⟩ := id a2.tup_inv
          exact ⟨ga, rfl, a2⟩
    obtain ⟨_, gx, e, hg, tgx⟩ := tg.tup_inv
    cases e
    have lg : gx.length = gs.length := by rw [tgx.length, List.length_map]
    refine ⟨v, rfl, _, _, _, _, _, rfl, .ty _, sh.ty, kit_ty (kitTup d), _, rfl, ite2 (fun e => ?_) (fun e => ?_)⟩
    · have q' := q H (Same.refl _)
      rw [bounds_not (notT e)] at q'
      exact q'
    obtain ⟨ds, rfl⟩ := tup_of (notF e)
    cases sh with
    | @tup a xs _ h tx =>
      have lx := tx.length
      refine ⟨.ref a, rfl, a, xs, rfl, .inr (SqT.of h), .ref na, rfl, na, _, 1, .ref ga, rfl, rfl, SqT.of hn, rfl, ga, _, rfl, .inr (SqT.of hg), rfl, _, rfl, ?_⟩
      rw [len_eqI, lx, lg]
      refine ite2 (fun e1 => ?_) (fun e1 => ?_)
      · have nn : ¬ ds.length = gs.length := fun z => by rw [z] at e1; simp at e1
        have q' := q H (Same.refl _)
        have : boundsD m gs (.tuple ds) = false := by
          show (decide (ds.length = gs.length) && _) = false
          rw [decide_eq_false nn, Bool.false_and]
        rw [this] at q'
        exact q'
      have l2 : ds.length = gs.length := by
        have := of_decide_eq_true (notF e1)
        omega
      have val : boundsD m gs (.tuple ds) = (gs.zip ds).all fun z => gateBD m z.1.2 z.2 := by
        show (decide (ds.length = gs.length) && _) = _
        rw [decide_eq_true l2, Bool.true_and]
      rw [val] at q
      refine ⟨.ref na, rfl, na, _, 1, .ref ga, rfl, rfl, SqT.of hn, rfl, .ref a, rfl, .tu ga, .tu a, _, _, rfl, SqT.of hg, SqT.of h, ?_⟩
      refine ZpG.for_zip2 (K := K) (z1 := .tu ga) (z2 := .tu a) (xs1 := gx) (xs2 := xs) (n := gs.length) lg (by rw [lx, l2])
        (fun i σ H' => ∃ y2 y3 y4 y5, σ = [some (.ref na), some (.ref a), y2, y3, y4, y5] ∧ Same H H' ∧ ((gs.zip ds).take i).all (fun z => gateBD m z.1.2 z.2) = true)
        ⟨_, _, _, _, rfl, (Same.refl _), rfl⟩ (fun i σ H' _ ⟨_, _, _, _, _, s, _⟩ => ⟨SqT.of (s _ _ hg), SqT.of (s _ _ h)⟩) ?_ ?_
      · rintro i x y T' σ H2 hx hy nt ⟨y2, y3, y4, y5, rfl, s2, ih⟩
        obtain ⟨g, hgj, tgt⟩ := tgx.at hx
        obtain ⟨e0, he0, te0⟩ := tx.get hy
        obtain ⟨wa, wx, rfl, hw, tw⟩ := tgt.tup_inv
        obtain ⟨wi, rfl, hwi⟩ : ∃ wi, wx = [V.str (tabOf g.1), V.ref wi] ∧ H wi = some (.tup (nV g.2)) := by
          cases tw with
          | cons a1 r1 =>
            cases r1 with
            | cons a2 r2 =>
              cases r2
              cases a1
              obtain ⟨wi, ys, rfl, hwi, ty⟩ := a2.tup_inv
              have ey : ys = nV g.2 := ints_of ty
              rw [ey] at hwi
              exact ⟨wi, rfl, hwi⟩
        have s3 := s2.trans (same_upd (o := HO.tup [.ref wa, y]) nt)
        have te3 := te0.same s3
        have hz : (gs.zip ds)[i]? = some (g, e0) := by
          rw [List.getElem?_zip_eq_some]
          exact ⟨hgj, he0⟩
        have no : ∀ H', Same H H' → gateBD m g.2 e0 = false → Q (.bl false) H' := fun H' g' z => by
          have q' := q H' g'
          rw [all_stop hz (by show ¬ gateBD m g.2 e0 = true; rw [z]; decide)] at q'
          exact q'
        refine ⟨T', _, rfl, SqT.of upd_same, rfl, _, _, rfl, _, _, rfl, rfl, ?_⟩
        show tSeq _ _ _ _ (upd H2 T' (.tup [.ref wa, y]))
        revert s3 te3
        generalize upd H2 T' (.tup [.ref wa, y]) = H3
        intro s3 te3
        refine ⟨y, rfl, _, _, _, _, _, rfl, .ty _, te3.ty, kit_ty (kitTup e0), _, rfl, ite2 (fun e => ?_) (fun e => ?_)⟩
        · exact no _ s3 (gateB_not (notT e))
        obtain ⟨es, rfl⟩ := tup_of (notF e)
        cases te3 with
        | @tup ra rx _ hr' tr =>
          have lr := tr.length
          refine ⟨.ref ra, rfl, ra, rx, rfl, .inr (SqT.of hr'), .ref wa, rfl, wa, _, 1, .ref wi, rfl, rfl, SqT.of (s3 _ _ hw), rfl, wi, _, rfl, .inr (SqT.of (s3 _ _ hwi)), rfl, _, rfl, ?_⟩
          rw [len_eqI, lr, nV_len]
          refine ite2 (fun e1 => ?_) (fun e1 => ?_)
          · have nn : ¬ es.length = g.2.length := fun z => by rw [z] at e1; simp at e1
            refine no _ s3 ?_
            show (decide (es.length = g.2.length) && _) = false
            rw [decide_eq_false nn, Bool.false_and]
          have l3 : es.length = g.2.length := by
            have := of_decide_eq_true (notF e1)
            omega
          refine ⟨.ref wa, rfl, wa, _, 1, .ref wi, rfl, rfl, SqT.of (s3 _ _ hw), rfl, .ref ra, rfl, .tu wi, .tu ra, _, _, rfl, SqT.of (s3 _ _ hwi), SqT.of hr', ?_⟩
          refine ZpG.for_zip2 (K := K) (z1 := .tu wi) (z2 := .tu ra) (xs1 := nV g.2) (xs2 := rx) (n := g.2.length) (nV_len _) (by rw [lr, l3])
            (fun j σ H' => ∃ y4 y5, σ = [some (.ref na), some (.ref a), some (.ref wa), some (.ref ra), y4, y5] ∧ Same H3 H' ∧ ((g.2.zip es).take j).all (fun z => wireBD m z.1 z.2) = true)
            ⟨_, _, rfl, (Same.refl _), rfl⟩ (fun j σ H' _ ⟨_, _, _, s, _⟩ => ⟨SqT.of (s _ _ (s3 _ _ hwi)), SqT.of (s _ _ hr')⟩) ?_ ?_
          · rintro j x2 p T2 σ H4 hx2 hp nt2 ⟨y4', y5', rfl, s4, ih2⟩
            obtain ⟨k, hk, rfl⟩ := nV_at hx2
            obtain ⟨f0, hf0, tf0⟩ := tr.get hp
            have s5 := s4.trans (same_upd (o := HO.tup [.int (Int.ofNat k), p]) nt2)
            have tf5 := tf0.same s5
            have hz2 : (g.2.zip es)[j]? = some (k, f0) := by
              rw [List.getElem?_zip_eq_some]
              exact ⟨hk, hf0⟩
            have no2 : ∀ H', Same H3 H' → wireBD m k f0 = false → Q (.bl false) H' := fun H' g' z => by
              refine no _ (s3.trans g') ?_
              rw [gate_parts l3]
              exact all_stop hz2 (by show ¬ wireBD m k f0 = true; rw [z]; decide)
            refine ⟨T2, _, rfl, SqT.of upd_same, rfl, _, _, rfl, _, _, rfl, rfl, ?_⟩
            show tSeq _ _ _ _ (upd H4 T2 (.tup [.int (Int.ofNat k), p]))
            revert s5 tf5
            generalize upd H4 T2 (.tup [.int (Int.ofNat k), p]) = H5
            intro s5 tf5
            have nb : boundD f0 = false → wireBD m k f0 = false := fun z => by
              show (boundD f0 && _) = false
              rw [z, Bool.false_and]
            refine ⟨p, rfl, _, _, _, _, _, rfl, .ty _, tf5.ty, kit_ty (kitTup f0), _, rfl, ite2 (fun e => ?_) (fun e => ?_)⟩
            · exact no2 _ s5 (nb (bound_not (notT e)))
            obtain ⟨fs, rfl⟩ := tup_of (notF e)
            cases tf5 with
            | @tup pa px _ hpa tp =>
              have lp := tp.length
              refine ⟨.ref pa, rfl, pa, px, rfl, .inr (SqT.of hpa), rfl, _, rfl, ?_⟩
              rw [len_eqI, lp]
              refine ite2 (fun e1 => ?_) (fun e1 => ?_)
              · exact no2 _ s5 (nb (bound_len fun z => by rw [z] at e1; cases e1))
              obtain ⟨d0, d1, rfl⟩ := two_of (ds := fs) (by have := of_decide_eq_true (notF e1); omega)
              cases tp with
              | @cons v0 _ _ _ t0 t1 =>
                cases t1 with
                | @cons v1 _ _ _ t1 t2 =>
                  cases t2
                  refine ⟨.ref pa, rfl, pa, _, 0, v0, rfl, rfl, SqT.of hpa, rfl, v0, d0, rfl, t0, _, rfl, ite2 (fun e3 => ?_) (fun e3 => ?_)⟩
                  · exact no2 _ s5 (nb (pairB_l d1 (notT e3)))
                  obtain ⟨i0, rfl⟩ := whole_int (notF e3)
                  cases t0
                  refine ⟨.ref pa, rfl, pa, _, 1, v1, rfl, rfl, SqT.of hpa, rfl, v1, d1, rfl, t1, _, rfl, ite2 (fun e4 => ?_) (fun e4 => ?_)⟩
                  · exact no2 _ s5 (nb (pairB_r i0 (notT e4)))
                  obtain ⟨i1, rfl⟩ := whole_int (notF e4)
                  cases t1
                  have wv : wireBD m k (.tuple [.int i0, .int i1]) = ((decide (0 ≤ i0) && decide (i0 ≤ i1)) && (decide (k < m) || decide (i0 = i1))) := rfl
                  rw [wv] at no2
                  refine ⟨.ref pa, rfl, pa, _, 0, .int i0, rfl, rfl, SqT.of hpa, rfl, _, _, rfl, rfl, _, rfl, ite2 (fun e5 => ?_) (fun e5 => ?_)⟩
                  · have := of_decide_eq_true e5
                    refine no2 _ s5 ?_
                    rw [decide_eq_false (show ¬ 0 ≤ i0 by omega)]
                    rfl
                  have z0 : 0 ≤ i0 := by
                    by_cases z : 0 ≤ i0
                    · exact z
                    · exact absurd (decide_eq_true (show i0 < 0 by omega)) e5
                  refine ⟨.ref pa, rfl, pa, _, 0, .int i0, rfl, rfl, SqT.of hpa, rfl, .ref pa, rfl, pa, _, 1, .int i1, rfl, rfl, SqT.of hpa, rfl, _, _, rfl, rfl, _, rfl, ite2 (fun e6 => ?_) (fun e6 => ?_)⟩
                  · have := of_decide_eq_true e6
                    refine no2 _ s5 ?_
                    rw [decide_eq_false (show ¬ i0 ≤ i1 by omega), Bool.and_false]
                    rfl
                  have z1 : i0 ≤ i1 := by
                    by_cases z : i0 ≤ i1
                    · exact z
                    · exact absurd (decide_eq_true (show i0 > i1 by omega)) e6
                  have good : k < m ∨ i0 = i1 → ((g.2.zip es).take (j + 1)).all (fun z => wireBD m z.1 z.2) = true := fun z => by
                    refine all_take hz2 ih2 ?_
                    show wireBD m k (.tuple [.int i0, .int i1]) = true
                    rw [wv, decide_eq_true z0, decide_eq_true z1]
                    rcases z with z | z
                    · rw [decide_eq_true z]; rfl
                    · rw [decide_eq_true z, Bool.or_true]; rfl
                  refine ⟨.int (Int.ofNat k), rfl, .ref na, rfl, na, _, 0, .int (m : Nat), rfl, rfl, SqT.of (s5 _ _ (s3 _ _ hn)), rfl, _, _, rfl, rfl, _, rfl, ite2 (fun e7 => ?_) (fun e7 => ?_)⟩
                  · have ge := of_decide_eq_true e7
                    refine ⟨.ref pa, rfl, pa, _, 0, .int i0, rfl, rfl, SqT.of hpa, rfl, .ref pa, rfl, pa, _, 1, .int i1, rfl, rfl, SqT.of hpa, rfl, rfl, _, rfl, ite2 (fun e8 => ?_) (fun e8 => ?_)⟩
                    · refine no2 _ s5 ?_
                      have n1 : ¬ k < m := fun z => by
                        have : (m : Int) ≤ Int.ofNat k := ge
                        have := Int.ofNat_le.mp this
                        omega
                      have n2 : ¬ i0 = i1 := fun z => by
                        rw [z] at e8
                        simp at e8
                      rw [decide_eq_false n1, decide_eq_false n2, Bool.or_false, Bool.and_false]
                    · refine ⟨_, _, rfl, s5, good (.inr ?_)⟩
                      by_cases z : i0 = i1
                      · exact z
                      · exact absurd (show (!decide (V.int i0 = V.int i1)) = true by rw [decide_eq_false fun y => z (V.int.inj y)]; rfl) e8
                  · refine ⟨_, _, rfl, s5, good (.inl ?_)⟩
                    by_cases z : k < m
                    · exact z
                    · exact absurd (decide_eq_true (show Int.ofNat k ≥ (m : Int) from Int.ofNat_le.mpr (by omega))) e7
          · rintro σ H4 ⟨y4', y5', rfl, s4, ih2⟩
            refine ⟨_, _, _, _, rfl, s3.trans s4, all_take hz ih ?_⟩
            show gateBD m g.2 (.tuple es) = true
            rw [gate_parts l3]
            rw [List.take_of_length_le (by rw [List.length_zip]; omega)] at ih2
            exact ih2
      · rintro σ H2 ⟨y2, y3, y4, y5, rfl, s2, ih⟩
        have q' := q H2 s2
        rw [List.take_of_length_le (by rw [List.length_zip]; omega)] at ih
        rw [ih] at q'
        exact q'

end
end Gk

set_option Elab.async false
set_option linter.all false
set_option maxRecDepth 100000
set_option maxHeartbeats 1000000
set_option pp.maxSteps 1500
set_option pp.deepTerms false
namespace Gk
open PySem PySem.Spec PyProof.Rows L2
/-! ### slices and sums of tuples: what is told stands in a heap that has grown -/
theorem cut_all {xs : List V} {lo hi : Option Int} (h : HT.sIx xs.length 0 lo = 0 ∧ HT.sIx xs.length xs.length hi = xs.length) : cutV xs lo hi = xs := by
  unfold cutV
  rw [h.1, h.2, List.drop_zero, Nat.sub_zero, List.take_length]
theorem same_refl {H : Hp} : Same H H := fun _ _ e => e
theorem slA {K : PySem.W.Frag} {a : Addr} {xs : List V} {lo hi : Option Int} {H : Hp} {Q : VK} (h : H a = some (.tup xs)) (q : ∀ p H', Same H H' → H' p = some (.tup (cutV xs lo hi)) → Q (.ref p) H') : rSlA K (.ref a) lo hi H Q :=
  ⟨a, xs, rfl, SqT.of h, fun w => q a H same_refl (by rw [cut_all w]; exact h), fun _ p np => q p _ (same_upd np) upd_same⟩
theorem slAn {K : PySem.W.Frag} {a : Addr} {xs : List V} {lo : Option Int} {H : Hp} {Q : VK} {σ : L2.St} (h : H a = some (.tup xs)) (q : ∀ p H', Same H H' → H' p = some (.tup (cutV xs lo none)) → Q (.ref p) H') : tNoPart σ H (fun u H3 => rSlA K (.ref a) lo u H3 Q) := slA h q
theorem catA {K : PySem.W.Frag} {a b : Addr} {xs ys : List V} {H : Hp} {Q : VK} (ha : H a = some (.tup xs)) (hb : H b = some (.tup ys)) (hl : xs.length + ys.length ≤ sizeLine) (q : ∀ p H', Same H H' → H' p = some (.tup (xs ++ ys)) → Q (.ref p) H') : rCatA K (.ref a) (.ref b) H Q :=
  ⟨a, b, xs, ys, rfl, rfl, SqT.of ha, SqT.of hb, hl, fun e => q b H same_refl (by rw [e]; exact hb), fun _ e => q a H same_refl (by rw [e, List.append_nil]; exact ha), fun _ _ p np => q p _ (same_upd np) upd_same⟩
theorem cut_to {xs : List V} {k : Nat} : cutV xs none (some (k : Int)) = xs.take k := by
  unfold cutV
  rw [HT.sIx_none, HT.sIx_nat, List.drop_zero, Nat.sub_zero]
  apply List.ext_getElem?
  intro i
  rw [List.getElem?_take, List.getElem?_take]
  by_cases h : i < k
  · rw [if_pos h]
    by_cases h2 : i < xs.length
    · rw [if_pos (by omega)]
    · rw [List.getElem?_eq_none (by omega)]
      split <;> rfl
  · rw [if_neg h, if_neg (by omega)]
theorem cut_from {xs : List V} {k : Nat} : cutV xs (some (k : Int)) none = xs.drop k := by
  unfold cutV
  rw [HT.sIx_none, HT.sIx_nat]
  by_cases h : k ≤ xs.length
  · rw [Nat.min_eq_left h]
    exact List.take_of_length_le (by rw [List.length_drop]; exact Nat.le_refl _)
  · rw [Nat.min_eq_right (by omega), Nat.sub_self, List.take_zero, List.drop_eq_nil_of_le (by omega)]
theorem TkAll.take {H : Hp} : ∀ {xs : List V} {ds : List PyData} (k : Nat), TkAll H xs ds → TkAll H (xs.take k) (ds.take k)
  | _, _, 0, _ => by rw [List.take_zero, List.take_zero]; exact .nil
  | _, _, _ + 1, .nil => .nil
  | _, _, k + 1, .cons a t => .cons a (t.take k)
theorem TkAll.drop {H : Hp} : ∀ {xs : List V} {ds : List PyData} (k : Nat), TkAll H xs ds → TkAll H (xs.drop k) (ds.drop k)
  | _, _, 0, t => t
  | _, _, _ + 1, .nil => .nil
  | _, _, k + 1, .cons _ t => t.drop k
theorem set_put {α : Type} {l : List α} {i : Nat} {x : α} (h : i < l.length) : (l.take i ++ [x]) ++ l.drop (i + 1) = l.set i x := by
  rw [List.set_eq_take_append_cons_drop, if_pos h, List.append_assoc]
  rfl
def rJoinK (K : PySem.W.Frag) : V → List V → Hp → VK → Prop := fun x xs H Q => ∃ a p, ∃ ys : List Str, x = .str a ∧ xs = [.ref p] ∧ (SqL K H p (ys.map V.str) ∨ SqT K H p (ys.map V.str)) ∧ (ys.map (·.length)).sum + ys.length * a.length ≤ 16777216 ∧ Q (.str (Txt.join a ys)) H

/-! ### numbers, truths among them -/
namespace NumZ
section
variable {X : Cx}
def nz : V → Option Int
  | .int i => some i
  | .bl b => some (if b = true then 1 else 0)
  | _ => none
def rAddZ : R2 := fun x y H Q => ∃ i j, nz x = some i ∧ y = .int j ∧ Q (.int (i + j)) H
theorem op_addZ : OpR X (binaryOp .Add) rAddZ := by
  intro pins s σ H x y v u Q I rx ry h
  obtain ⟨i, j, hx, rfl, q⟩ := h
  cases x with
  | int k =>
    cases Option.some.inj hx
    exact op_add pins s σ H (.int i) (.int j) v u Q I rx ry ⟨i, j, rfl, rfl, q⟩
  | bl b =>
    cases Option.some.inj hx
    cases (show v = Value.bool b from rx)
    obtain ⟨t, rfl⟩ := ry
    exact PySem.IntBool.add_bool_int ⟨.int _, H, I.tok _, ⟨_, rfl⟩, q⟩
  | _ => cases hx
def rSubZ : R2 := fun x y H Q => ∃ i j, nz x = some i ∧ nz y = some j ∧ ((∃ k, x = .int k) ∨ ∃ k, y = .int k) ∧ Q (.int (i - j)) H
theorem op_subZ : OpR X (binaryOp .Sub) rSubZ := by
  intro pins s σ H x y v u Q I rx ry h
  obtain ⟨i, j, hx, hy, one, q⟩ := h
  cases x with
  | int k =>
    cases Option.some.inj hx
    cases y with
    | int m =>
      cases Option.some.inj hy
      exact op_sub pins s σ H (.int i) (.int j) v u Q I rx ry ⟨i, j, rfl, rfl, q⟩
    | bl b =>
      cases Option.some.inj hy
      obtain ⟨t, rfl⟩ := rx
      cases (show u = Value.bool b from ry)
      exact PySem.IntBool.sub_int_bool ⟨.int _, H, I.tok _, ⟨_, rfl⟩, q⟩
    | _ => cases hy
  | bl b =>
    cases Option.some.inj hx
    cases y with
    | int m =>
      cases Option.some.inj hy
      cases (show v = Value.bool b from rx)
      obtain ⟨t, rfl⟩ := ry
      exact PySem.IntBool.sub_bool_int ⟨.int _, H, I.tok _, ⟨_, rfl⟩, q⟩
    | bl c =>
      rcases one with ⟨k, z⟩ | ⟨k, z⟩ <;> cases z
    | _ => cases hy
  | _ => cases hx
def strZ : V → Str
  | .int i => toString i
  | .bl b => if b = true then Str.ofString "True" else Str.ofString "False"
  | _ => Str.empty
def rStrZ : List V → Hp → VK → Prop := fun xs H Q => ∃ x i, xs = [x] ∧ nz x = some i ∧ i.natAbs.log2 < 1920 ∧ Q (.str (strZ x)) H
theorem call_strZ : CallR X (.type "str") rStrZ := by
  intro pins s σ H xs us Q I r h
  obtain ⟨x, i, rfl, hx, small, q⟩ := h
  cases x with
  | int k =>
    cases Option.some.inj hx
    exact call_str_int pins s σ H [.int i] us Q I r ⟨i, rfl, small, q⟩
  | bl b =>
    obtain ⟨u, rfl, ru⟩ := vals1 r
    cases (show u = Value.bool b from ru)
    refine PySem.P.str_of_bool ⟨.str _, H, I.tok _, ⟨_, rfl⟩, ?_⟩
    cases b <;> exact q
  | _ => cases hx
/-- list(t), a list that is none of the interpreter's own -/
def rListN (K : PySem.W.Frag) : List V → Hp → VK → Prop := fun xs H Q => ∃ p ys, xs = [.ref p] ∧ SqT K H p ys ∧ ∀ l, H l = none → l ≠ sysModules → Q (.ref l) (upd H l (.lst ys))
theorem call_listN : CallR X (.type "list") (rListN X.K) := by
  intro pins s σ H xs us Q I r h
  obtain ⟨p, ys, rfl, src, q⟩ := h
  obtain ⟨u, rfl, rx⟩ := vals1 r
  cases rx
  obtain ⟨items, rv, ⟨o, ho, hc, n, hd⟩, few⟩ := I.tuple src
  refine call_list_seq p (.inr rfl) ho hc hd (fun hp c keep made => ?_) (by rw [List.size_toArray, ← rv.length]; exact few)
  exact ⟨.ref s.heap.objs.size, _, I.laid (t' := s.toks) keep (Nat.le_refl _) (show ObjOk X.prog X.w _ hp _ (.lst ys) from ⟨few, items, c, rv, made⟩), rfl, q _ (I.hok.fresh (Nat.le_refl _)) (Nat.ne_of_gt I.big)⟩
end
end NumZ

/-! ### sizes of what is shown -/
def fineB (n m : Nat) (d : PyData) : Bool := d.showable && (d.leavesShort 200 && (decide (d.weight ≤ n) && decide (d.depth ≤ m)))
theorem fine_iff {n m : Nat} {d : PyData} : fineB n m d = true ↔ d.showable = true ∧ d.leavesShort 200 = true ∧ d.weight ≤ n ∧ d.depth ≤ m := by
  unfold fineB
  rw [Bool.and_eq_true, Bool.and_eq_true, Bool.and_eq_true, decide_eq_true_eq, decide_eq_true_eq]
theorem fine_mono {n m n' m' : Nat} {d : PyData} (h : fineB n m d = true) (a : n ≤ n') (b : m ≤ m') : fineB n' m' d = true := by
  obtain ⟨h1, h2, h3, h4⟩ := fine_iff.mp h
  exact fine_iff.mpr ⟨h1, h2, Nat.le_trans h3 a, Nat.le_trans h4 b⟩
theorem fine_fits {n m : Nat} {d : PyData} (h : fineB n m d = true) (hn : n ≤ 50000) : d.shown.length ≤ sizeLine := by
  obtain ⟨_, h2, h3, _⟩ := fine_iff.mp h
  have := PyData.shown_le 200 (by decide) d h2
  have e : sizeLine = 16777216 := by decide
  rw [e]
  omega
theorem fine_all {n m : Nat} : ∀ {ds : List PyData}, (∀ d ∈ ds, fineB n m d = true) → PyData.showableAll ds = true ∧ PyData.leavesShortAll 200 ds = true ∧ PyData.weightAll ds ≤ ds.length * (n + 1) ∧ PyData.depthAll ds ≤ m
  | [], _ => ⟨rfl, rfl, Nat.zero_le _, Nat.zero_le _⟩
  | d :: r, h => by
    obtain ⟨a1, a2, a3, a4⟩ := fine_iff.mp (h d (List.mem_cons_self ..))
    obtain ⟨b1, b2, b3, b4⟩ := fine_all (ds := r) fun x hx => h x (List.mem_cons_of_mem _ hx)
    refine ⟨?_, ?_, ?_, ?_⟩
    · unfold PyData.showableAll
      rw [a1, b1]
      rfl
    · unfold PyData.leavesShortAll
      rw [a2, b2]
      rfl
    · unfold PyData.weightAll
      rw [List.length_cons, Nat.succ_mul]
      omega
    · unfold PyData.depthAll
      omega
theorem fine_tup {n m k : Nat} {ds : List PyData} (h : ∀ d ∈ ds, fineB n m d = true) (hk : ds.length ≤ k) : fineB (k * (n + 1)) (m + 1) (.tuple ds) = true := by
  obtain ⟨b1, b2, b3, b4⟩ := fine_all h
  refine fine_iff.mpr ⟨b1, b2, ?_, ?_⟩
  · show PyData.weightAll ds ≤ _
    exact Nat.le_trans b3 (Nat.mul_le_mul_right _ hk)
  · show PyData.depthAll ds + 1 ≤ _
    omega
theorem fine_lst {n m k : Nat} {ds : List PyData} (h : ∀ d ∈ ds, fineB n m d = true) (hk : ds.length ≤ k) : fineB (k * (n + 1)) (m + 1) (.list ds) = true := by
  obtain ⟨b1, b2, b3, b4⟩ := fine_all h
  refine fine_iff.mpr ⟨b1, b2, ?_, ?_⟩
  · show PyData.weightAll ds ≤ _
    exact Nat.le_trans b3 (Nat.mul_le_mul_right _ hk)
  · show PyData.depthAll ds + 1 ≤ _
    omega

theorem str_len (x : String) : (Str.ofString x).length = x.length := PySem.ofString_length x

/-! ### what is spoilt stays small -/
mutual
def gd (B : Nat) : PyData → Bool
  | .none => true
  | .bool _ => true
  | .int i => decide (i.natAbs ≤ B)
  | .str x => x.cps.toList.all fun c => decide (c < 128)
  | .list xs => gds B xs
  | .tuple xs => gds B xs
  | .dict kvs => kvs.isEmpty
def gds (B : Nat) : List PyData → Bool
  | [] => true
  | x :: r => gd B x && gds B r
end
theorem gds_iff {B : Nat} : ∀ {l : List PyData}, gds B l = true ↔ ∀ x ∈ l, gd B x = true
  | [] => ⟨fun _ x hx => (by cases hx), fun _ => rfl⟩
  | y :: r => by
    show (gd B y && gds B r) = true ↔ _
    rw [Bool.and_eq_true, gds_iff (l := r)]
    exact ⟨fun ⟨a, b⟩ x hx => (List.mem_cons.mp hx).elim (fun e => e ▸ a) (b x), fun h => ⟨h y (List.mem_cons_self ..), fun x hx => h x (List.mem_cons_of_mem _ hx)⟩⟩
mutual
theorem gd_mono {B C : Nat} (h : B ≤ C) : ∀ {d : PyData}, gd B d = true → gd C d = true
  | .none, _ => rfl
  | .bool _, _ => rfl
  | .int _, e => decide_eq_true (Nat.le_trans (of_decide_eq_true e) h)
  | .str _, e => e
  | .list _, e => gds_mono h e
  | .tuple _, e => gds_mono h e
  | .dict _, e => e
theorem gds_mono {B C : Nat} (h : B ≤ C) : ∀ {l : List PyData}, gds B l = true → gds C l = true
  | [], _ => rfl
  | _ :: _, e => by
    have e' := Bool.and_eq_true_iff.mp e
    exact Bool.and_eq_true_iff.mpr ⟨gd_mono h e'.1, gds_mono h e'.2⟩
end
theorem small_log {i : Int} {B : Nat} (h : i.natAbs ≤ B) (hB : B < 2 ^ 190) : i.natAbs.log2 < 190 := by
  by_cases z : i.natAbs = 0
  · rw [z]; decide
  · exact (Nat.log2_lt z).mpr (Nat.lt_of_le_of_lt h hB)
mutual
theorem gd_show {B : Nat} (hB : B < 2 ^ 190) : ∀ {d : PyData}, gd B d = true → d.showable = true ∧ d.leavesShort 200 = true
  | .none, _ => ⟨rfl, rfl⟩
  | .bool _, _ => ⟨rfl, rfl⟩
  | .int i, e => by
    have l := small_log (of_decide_eq_true e) hB
    refine ⟨decide_eq_true (Nat.lt_trans l (by decide)), decide_eq_true ?_⟩
    have := PySem.int_text_length_le (a := i) (k := 190) (by decide) l
    show (Str.ofString (toString i)).length ≤ 200
    rw [str_len]
    omega
  | .str x, e => by
    refine ⟨rfl, ?_⟩
    show (x.cps.toList.all fun c => decide (c < 16 ^ 8)) = true
    refine List.all_eq_true.mpr fun c hc => decide_eq_true (Nat.lt_trans (of_decide_eq_true (List.all_eq_true.mp e c hc)) (by decide))
  | .list _, e => gds_show hB e
  | .tuple _, e => gds_show hB e
  | .dict [], _ => ⟨rfl, rfl⟩
  | .dict (_ :: _), e => by cases e
theorem gds_show {B : Nat} (hB : B < 2 ^ 190) : ∀ {l : List PyData}, gds B l = true → PyData.showableAll l = true ∧ PyData.leavesShortAll 200 l = true
  | [], _ => ⟨rfl, rfl⟩
  | _ :: _, e => by
    have e' := Bool.and_eq_true_iff.mp e
    have a := gd_show hB e'.1
    have b := gds_show hB e'.2
    exact ⟨Bool.and_eq_true_iff.mpr ⟨a.1, b.1⟩, Bool.and_eq_true_iff.mpr ⟨a.2, b.2⟩⟩
end
def Fit (B n m : Nat) (d : PyData) : Prop := gd B d = true ∧ d.weight ≤ n ∧ d.depth ≤ m
def FitL (B n m : Nat) (ds : List PyData) : Prop := gds B ds = true ∧ PyData.weightAll ds ≤ n ∧ PyData.depthAll ds ≤ m
theorem Fit.mono {B n m B' n' m' : Nat} {d : PyData} (h : Fit B n m d) (a : B ≤ B') (b : n ≤ n') (c : m ≤ m') : Fit B' n' m' d := ⟨gd_mono a h.1, Nat.le_trans h.2.1 b, Nat.le_trans h.2.2 c⟩
theorem Fit.tup {B n m : Nat} {ds : List PyData} (h : FitL B n m ds) : Fit B n (m + 1) (.tuple ds) := ⟨h.1, h.2.1, Nat.succ_le_succ h.2.2⟩
theorem Fit.lst {B n m : Nat} {ds : List PyData} (h : FitL B n m ds) : Fit B n (m + 1) (.list ds) := ⟨h.1, h.2.1, Nat.succ_le_succ h.2.2⟩
theorem Fit.inv {B n m : Nat} {ds : List PyData} (h : Fit B n (m + 1) (.tuple ds)) : FitL B n m ds := ⟨h.1, h.2.1, Nat.le_of_succ_le_succ h.2.2⟩
theorem Fit.fine {B n m : Nat} {d : PyData} (h : Fit B n m d) (hB : B < 2 ^ 190) (hn : n ≤ 50000) (hm : m ≤ 50) : d.showable = true ∧ d.shown.length ≤ sizeLine ∧ d.depth ≤ 50 := by
  have s := gd_show hB h.1
  exact ⟨s.1, fine_fits (n := n) (m := m) (fine_iff.mpr ⟨s.1, s.2, h.2.1, h.2.2⟩) hn, Nat.le_trans h.2.2 hm⟩
theorem weight_app : ∀ a b : List PyData, PyData.weightAll (a ++ b) = PyData.weightAll a + PyData.weightAll b
  | [], b => (Nat.zero_add _).symm
  | x :: r, b => by
    show x.weight + 1 + PyData.weightAll (r ++ b) = x.weight + 1 + PyData.weightAll r + PyData.weightAll b
    rw [weight_app r b]
    omega
theorem depth_app : ∀ a b : List PyData, PyData.depthAll (a ++ b) = max (PyData.depthAll a) (PyData.depthAll b)
  | [], b => (Nat.zero_max _).symm
  | x :: r, b => by
    show max x.depth (PyData.depthAll (r ++ b)) = max (max x.depth (PyData.depthAll r)) (PyData.depthAll b)
    rw [depth_app r b, Nat.max_assoc]
theorem FitL.app {B n n' m : Nat} {a b : List PyData} (h : FitL B n m a) (g : FitL B n' m b) : FitL B (n + n') m (a ++ b) := by
  refine ⟨gds_iff.mpr fun x hx => ?_, ?_, ?_⟩
  · rcases List.mem_append.mp hx with z | z
    · exact gds_iff.mp h.1 x z
    · exact gds_iff.mp g.1 x z
  · rw [weight_app]
    exact Nat.add_le_add h.2.1 g.2.1
  · rw [depth_app]
    exact Nat.max_le.mpr ⟨h.2.2, g.2.2⟩
theorem FitL.parts {B n m : Nat} {a b : List PyData} (h : FitL B n m (a ++ b)) : FitL B n m a ∧ FitL B n m b := by
  obtain ⟨h1, h2, h3⟩ := h
  rw [weight_app] at h2
  rw [depth_app] at h3
  exact ⟨⟨gds_iff.mpr fun x hx => gds_iff.mp h1 x (List.mem_append_left _ hx), by omega, by omega⟩, ⟨gds_iff.mpr fun x hx => gds_iff.mp h1 x (List.mem_append_right _ hx), by omega, by omega⟩⟩
theorem FitL.take {B n m : Nat} {a : List PyData} (h : FitL B n m a) (k : Nat) : FitL B n m (a.take k) := by
  rw [← List.take_append_drop k a] at h
  exact h.parts.1
theorem FitL.drop {B n m : Nat} {a : List PyData} (h : FitL B n m a) (k : Nat) : FitL B n m (a.drop k) := by
  rw [← List.take_append_drop k a] at h
  exact h.parts.2
theorem FitL.one {B n m : Nat} {d : PyData} (h : Fit B n m d) : FitL B (n + 1) m [d] := by
  refine ⟨gds_iff.mpr fun x hx => by rw [List.mem_singleton.mp hx]; exact h.1, ?_, ?_⟩
  · show d.weight + 1 + 0 ≤ n + 1
    have := h.2.1
    omega
  · show max d.depth 0 ≤ m
    have := h.2.2
    omega
theorem FitL.get {B n m : Nat} {ds : List PyData} (h : FitL B n m ds) {j : Nat} {d : PyData} (e : ds[j]? = some d) : Fit B n m d := by
  have s : ds = ds.take j ++ [d] ++ ds.drop (j + 1) := by
    obtain ⟨hl, e'⟩ := List.getElem?_eq_some_iff.mp e
    rw [← e', List.append_assoc, List.singleton_append, List.getElem_cons_drop, List.take_append_drop]
  rw [s] at h
  obtain ⟨h1, h2, h3⟩ := h.parts.1.parts.2
  refine ⟨gds_iff.mp h1 d (List.mem_singleton.mpr rfl), ?_, ?_⟩
  · have : d.weight + 1 + 0 ≤ n := h2
    omega
  · have : max d.depth 0 ≤ m := h3
    omega
theorem weight_rev (a : List PyData) : PyData.weightAll a.reverse = PyData.weightAll a := by
  induction a with
  | nil => rfl
  | cons x r ih =>
    rw [List.reverse_cons, weight_app, ih]
    show PyData.weightAll r + (x.weight + 1 + 0) = x.weight + 1 + PyData.weightAll r
    omega
theorem depth_rev (a : List PyData) : PyData.depthAll a.reverse = PyData.depthAll a := by
  induction a with
  | nil => rfl
  | cons x r ih =>
    rw [List.reverse_cons, depth_app, ih]
    show max (PyData.depthAll r) (max x.depth 0) = max x.depth (PyData.depthAll r)
    omega
theorem FitL.rev {B n m : Nat} {a : List PyData} (h : FitL B n m a) : FitL B n m a.reverse :=
  ⟨gds_iff.mpr fun x hx => gds_iff.mp h.1 x (List.mem_reverse.mp hx), by rw [weight_rev]; exact h.2.1, by rw [depth_rev]; exact h.2.2⟩
theorem ShAll.rev {H : Hp} : ∀ {xs : List V} {ds : List PyData}, ShAll H xs ds → ShAll H xs.reverse ds.reverse
  | _, _, .nil => .nil
  | _, _, .cons a r => by
    rw [List.reverse_cons, List.reverse_cons]
    exact (ShAll.rev r).append (.cons a .nil)

/-! ### heaps without some places -/
def hid (as : List Addr) (H : Hp) : Hp := fun b => if b ∈ as then none else H b
theorem hid_at {as : List Addr} {H : Hp} {b : Addr} (h : b ∉ as) : hid as H b = H b := if_neg h
theorem hid_in {as : List Addr} {H : Hp} {b : Addr} (h : b ∈ as) : hid as H b = none := if_pos h
theorem hid_le {as : List Addr} {H : Hp} : Same (hid as H) H := fun b o e => by
  by_cases h : b ∈ as
  · rw [hid_in h] at e; cases e
  · rw [hid_at h] at e; exact e
theorem hid_sub {as bs : List Addr} {H : Hp} (h : ∀ b ∈ bs, b ∈ as) : Same (hid as H) (hid bs H) := fun b o e => by
  by_cases ha : b ∈ as
  · rw [hid_in ha] at e; cases e
  · rw [hid_at ha] at e
    rw [hid_at (fun z => ha (h b z))]
    exact e
theorem hid_same {as : List Addr} {H H' : Hp} (s : Same H H') : Same (hid as H) (hid as H') := fun b o e => by
  by_cases ha : b ∈ as
  · rw [hid_in ha] at e; cases e
  · rw [hid_at ha] at e ⊢
    exact s _ _ e
theorem hid_fr {as : List Addr} {d l : Addr} {H H' : Hp} (f : Fr d l H H') (hd : d ∈ as) (hl : l ∈ as) : Same (hid as H) (hid as H') := fun b o e => by
  by_cases ha : b ∈ as
  · rw [hid_in ha] at e; cases e
  · rw [hid_at ha] at e ⊢
    exact f _ _ (fun z => ha (z ▸ hd)) (fun z => ha (z ▸ hl)) e
theorem hid_upd {as : List Addr} {H : Hp} {p : Addr} {o : HO} (h : p ∈ as) : Same (hid as H) (hid as (upd H p o)) := fun b x e => by
  by_cases ha : b ∈ as
  · rw [hid_in ha] at e; cases e
  · rw [hid_at ha] at e ⊢
    rw [upd_ne (show b ≠ p from fun z => ha (by rw [z]; exact h))]
    exact e

/-! ### the deck hidden -/
theorem DeckB.out {H : Hp} {d l p : Addr} {n : Int} (D : DeckB H d l n) (h : H p = none) : p ∉ [d, l] := by
  obtain ⟨a, b⟩ := D.off h
  intro z
  rcases List.mem_cons.mp z with z | z
  · exact a z
  · exact b (List.mem_singleton.mp z)
theorem in_d {d l : Addr} : d ∈ [d, l] := List.mem_cons_self ..
theorem in_l {d l : Addr} : l ∈ [d, l] := List.mem_cons_of_mem _ (List.mem_cons_self ..)
theorem pick_sh {H : Hp} {xs : List V} {ds : List PyData} {B n m : Nat} (t : ShAll H xs ds) (f : ∀ d ∈ ds, Fit B n m d) {j : Int} (h0 : 0 ≤ j) (h1 : j < xs.length) : ∃ x d, atI xs j = some x ∧ Sh H x d ∧ Fit B n m d := by
  obtain ⟨k, rfl⟩ := Int.eq_ofNat_of_zero_le h0
  have hk : k < xs.length := by omega
  obtain ⟨d, hd, td⟩ := t.get (List.getElem?_eq_getElem hk)
  exact ⟨_, d, atI_nat (List.getElem?_eq_getElem hk), td, f d (List.mem_of_getElem? hd)⟩
structure DA (as : List Addr) (H : Hp) (d l : Addr) (n : Int) : Prop where
  d1 : DeckB H d l n
  hd : d ∈ as
  hl : l ∈ as
  liv : ∀ b ∈ as, ∃ o, H b = some o ∧ ∀ xs, o ≠ HO.tup xs
theorem DA.same {as : List Addr} {H H' : Hp} {d l : Addr} {n : Int} (D : DA as H d l n) (s : Same H H') : DA as H' d l n := ⟨D.d1.same s, D.hd, D.hl, fun b hb => by
  obtain ⟨o, e, no⟩ := D.liv b hb
  exact ⟨o, s _ _ e, no⟩⟩
theorem DA.mono {as : List Addr} {H : Hp} {d l : Addr} {n m : Int} (D : DA as H d l n) (h : n ≤ m) : DA as H d l m := ⟨D.d1.mono h, D.hd, D.hl, D.liv⟩
theorem DA.off {as : List Addr} {H : Hp} {d l p : Addr} {n : Int} (D : DA as H d l n) (h : H p = none) : p ≠ d ∧ p ≠ l := D.d1.off h
theorem DA.out {as : List Addr} {H : Hp} {d l p : Addr} {n : Int} (D : DA as H d l n) (h : H p = none) : p ∉ as := fun z => by
  obtain ⟨o, e, _⟩ := D.liv p z
  rw [h] at e
  cases e
theorem DA.tupOut {as : List Addr} {H : Hp} {d l p : Addr} {n : Int} {xs : List V} (D : DA as H d l n) (h : H p = some (.tup xs)) : p ∉ as := fun z => by
  obtain ⟨o, e, no⟩ := D.liv p z
  rw [h] at e
  exact no xs (Option.some.inj e).symm
theorem DA.fr {as : List Addr} {H H' : Hp} {d l : Addr} {n m : Int} (D : DA as H d l n) (D' : DeckB H' d l m) (f : Fr d l H H') : DA as H' d l m := ⟨D', D.hd, D.hl, fun b hb => by
  obtain ⟨ne, cs, y, z, hd, hl, r⟩ := D'
  by_cases b1 : b = d
  · rw [b1]
    exact ⟨_, hd, fun xs z => by cases z⟩
  by_cases b2 : b = l
  · rw [b2]
    exact ⟨_, hl, fun xs z => by cases z⟩
  obtain ⟨o, e, no⟩ := D.liv b hb
  exact ⟨o, f _ _ b1 b2 e, no⟩⟩
theorem DeckB.da {H : Hp} {d l : Addr} {n : Int} (D : DeckB H d l n) : DA [d, l] H d l n := by
  refine ⟨D, in_d, in_l, fun b hb => ?_⟩
  obtain ⟨ne, cs, y, z, hd, hl, r⟩ := D
  rcases List.mem_cons.mp hb with b1 | b1
  · rw [b1]
    exact ⟨_, hd, fun xs z => by cases z⟩
  · rw [List.mem_singleton.mp b1]
    exact ⟨_, hl, fun xs z => by cases z⟩
theorem sh_tup {as : List Addr} {H : Hp} {d l p : Addr} {n : Int} {xs : List V} {ds : List PyData} (D : DA as H d l n) (h : H p = some (.tup xs)) (t : ShAll (hid as H) xs ds) : Sh (hid as H) (.ref p) (.tuple ds) := .tup (by rw [hid_at (D.tupOut h)]; exact h) t
theorem fit_S {B n m : Nat} {l : List Nat} (h : ∀ c ∈ l, c < 128) (hl : l.length ≤ n) : Fit B n m (.str (SX.S l)) := by
  refine ⟨List.all_eq_true.mpr fun c hc => decide_eq_true (h c (by simpa using hc)), ?_, Nat.zero_le _⟩
  show l.toArray.size ≤ n
  rw [List.size_toArray]
  exact hl
theorem nat_chars (n : Nat) : ∀ c ∈ (Nat.repr n).toList, c.toNat < 128 := by
  intro c hc
  have hc' : c ∈ Nat.toDigits 10 n := by
    have e : (Nat.repr n).toList = Nat.toDigits 10 n := by
      unfold Nat.repr
      exact String.toList_ofList
    rw [e] at hc
    exact hc
  have hd := Nat.isDigit_of_mem_toDigits (by decide) (by decide) hc'
  unfold Char.isDigit at hd
  have h2 := of_decide_eq_true (Bool.and_eq_true_iff.mp hd).2
  have h3 : c.toNat ≤ 57 := h2
  omega
theorem int_chars (i : Int) : ∀ c ∈ (toString i).toList, c.toNat < 128 := by
  cases i with
  | ofNat m => exact nat_chars m
  | negSucc m =>
    intro c hc
    have e : toString (Int.negSucc m) = "-" ++ Nat.repr (m + 1) := rfl
    rw [e, String.toList_append] at hc
    rcases List.mem_append.mp hc with h | h
    · have : c = '-' := by simpa using h
      subst this
      decide
    · exact nat_chars _ c h
theorem cutS_to (l : List Nat) (k : Nat) : cutS (SX.S l) none (some (k : Int)) = SX.S (l.take k) := by
  unfold cutS
  rw [SX.S_len, HT.sIx_none, HT.sIx_nat, List.drop_zero, Nat.sub_zero]
  show SX.S (l.take (min k l.length)) = SX.S (l.take k)
  by_cases h : k ≤ l.length
  · rw [Nat.min_eq_left h]
  · rw [Nat.min_eq_right (by omega), List.take_length, List.take_of_length_le (by omega)]
theorem cutS_from (l : List Nat) (k : Nat) : cutS (SX.S l) (some (k : Int)) none = SX.S (l.drop k) := by
  unfold cutS
  rw [SX.S_len, HT.sIx_none, HT.sIx_nat]
  show SX.S ((l.drop (min k l.length)).take (l.length - min k l.length)) = SX.S (l.drop k)
  congr 1
  by_cases h : k ≤ l.length
  · rw [Nat.min_eq_left h]
    exact List.take_of_length_le (by rw [List.length_drop]; exact Nat.le_refl _)
  · rw [Nat.min_eq_right (by omega), Nat.sub_self, List.take_zero, List.drop_eq_nil_of_le (by omega)]
theorem len_weight : ∀ ds : List PyData, ds.length ≤ PyData.weightAll ds
  | [] => Nat.le_refl _
  | x :: r => by
    show r.length + 1 ≤ x.weight + 1 + PyData.weightAll r
    have := len_weight r
    omega
theorem fit_put {B n m k : Nat} {ds : List PyData} {dk d0 : PyData} (hk : ds[k]? = some dk) (fl : FitL B n m ds) (f0 : Fit B n m d0) : Fit B (n + (n + 1)) (m + 1) (.tuple ((ds.take k ++ [d0]) ++ ds.drop (k + 1))) := by
  have e : ds = ds.take k ++ ([dk] ++ ds.drop (k + 1)) := by
    obtain ⟨hl, e'⟩ := List.getElem?_eq_some_iff.mp hk
    rw [← e', List.singleton_append, List.getElem_cons_drop, List.take_append_drop]
  have w : PyData.weightAll (ds.take k) + (PyData.weightAll [dk] + PyData.weightAll (ds.drop (k + 1))) ≤ n := by
    rw [← weight_app, ← weight_app, ← e]
    exact fl.2.1
  have one := FitL.one f0
  have a : FitL B (n + 1 + n + n) m ((ds.take k ++ [d0]) ++ ds.drop (k + 1)) := by
    have := ((fl.take k).app one).app (fl.drop (k + 1))
    exact ⟨this.1, Nat.le_trans this.2.1 (by omega), this.2.2⟩
  refine Fit.tup ⟨a.1, ?_, a.2.2⟩
  rw [weight_app, weight_app]
  have := one.2.1
  omega

/-! ### numbers shown -/
theorem int_weight {i : Int} {k : Nat} (h : i.natAbs < 2 ^ k) : (PyData.int i).weight ≤ k := by
  show (if i == 0 then 0 else i.natAbs.log2 + 1) ≤ k
  by_cases z : i = 0
  · rw [if_pos (by rw [z]; rfl)]
    exact Nat.zero_le _
  · rw [if_neg (by simpa using z)]
    exact (Nat.log2_lt (by omega)).mpr h
def Lit32 (i : Int) : Prop := -100000000000000000000000000000000 ≤ i ∧ i ≤ 100000000000000000000000000000000
theorem fit_i32 {i : Int} {M : Nat} (h : Lit32 i) : Fit (10 ^ 32) 107 M (.int i) := by
  have e : i.natAbs ≤ 10 ^ 32 := by
    have := h.1
    have := h.2
    omega
  exact ⟨decide_eq_true e, int_weight (Nat.lt_of_le_of_lt e (by decide)), Nat.zero_le _⟩
theorem fit_is32 {M : Nat} : ∀ ts : List Int, (∀ x ∈ ts, Lit32 x) → FitL (10 ^ 32) (108 * ts.length) M (ts.map PyData.int)
  | [], _ => ⟨rfl, Nat.le_refl _, Nat.zero_le _⟩
  | x :: r, h => by
    have a := FitL.one (fit_i32 (M := M) (h x (List.mem_cons_self ..)))
    have b := fit_is32 (M := M) r fun y hy => h y (List.mem_cons_of_mem _ hy)
    have c := a.app b
    exact ⟨c.1, Nat.le_trans c.2.1 (by rw [List.length_cons]; omega), c.2.2⟩
theorem sh_is {H : Hp} : ∀ ts : List Int, ShAll H (ts.map V.int) (ts.map PyData.int)
  | [] => .nil
  | x :: r => .cons (.int x) (sh_is r)
theorem fit_bent {f : Int} {ds : List PyData} {n : Nat} (hf : Lit32 f) (h : FitL (10 ^ 32) n 2 ds) (hn : n ≤ 29000) : Fit (10 ^ 32) 30000 4 (.tuple [.int f, .tuple ds]) := by
  have := (FitL.one (fit_i32 (M := 3) hf)).app (FitL.one (Fit.tup h))
  exact (Fit.tup this).mono (Nat.le_refl _) (by omega) (Nat.le_refl _)
theorem FitL.upN {B n n' m : Nat} {a : List PyData} (h : FitL B n m a) (le : n ≤ n') : FitL B n' m a := ⟨h.1, Nat.le_trans h.2.1 le, h.2.2⟩

end Gk

set_option Elab.async false
set_option linter.all false
set_option maxRecDepth 100000
set_option maxHeartbeats 2000000
set_option pp.maxSteps 1500
set_option pp.deepTerms false
namespace Gk
open PySem PySem.Spec PyProof.Rows L2
section
variable {P : Program} {w : World} {K : PySem.W.Frag} {mg : Str → Option Value} {base : Heap}
/-! ### a pair otherwise -/
theorem Lim.lit {i : Int} (h0 : 0 ≤ i) (h1 : i ≤ 2000000000000000000000000000000) : Lit32 i := ⟨by omega, by omega⟩
theorem Lim.log {i : Int} (h0 : 0 ≤ i) (h1 : i ≤ 2000000000000000000000000000000) : i.natAbs.log2 < 107 := PySem.Flt.log2_lt_of (by decide) (Nat.lt_of_le_of_lt (show i.natAbs ≤ 2000000000000000000000000000000 by omega) (by decide))
def sp_pair_otherwise (K : PySem.W.Frag) : Sp := fun vs H Q _ => ∃ (d l c : Addr) (n a b : Int), vs = [.ref d, .ref c] ∧ DeckB H d l n ∧ n < 900000000 ∧ H c = some (.tup [.int a, .int b]) ∧ 0 ≤ a ∧ a ≤ 2000000000000000000000000000000 ∧ 0 ≤ b ∧ b ≤ 2000000000000000000000000000000 ∧
  ∀ v' H' dd', DeckB H' d l (n + 1) → Fr d l H H' → Sh (hid [d, l] H') v' dd' → Fit (10 ^ 32) 400 2 dd' → Q v' H'
theorem ok_pair_otherwise (T : Tx K mg) : FnOk P w K mg base CX0 2 T.f_pair_otherwise T.fd_pair_otherwise ["_law_deck_here", "_law_pair"] (sp_pair_otherwise K) := by
  refine T.F_pair_otherwise.ok sc_pair_otherwise (fun vs H Q E h => ?_) (fun cdv A outer s H vs Q E hr h => ?_)
  · obtain ⟨d, l, c, n, a, b, rfl, _⟩ := h
    rfl
  · obtain ⟨d, l, c, n, a, b, rfl, D, hn, hc, a0, a1, b0, b1, q⟩ := h
    refine ⟨_, (pss_cons (ps_set (i := 2) sc_pair_otherwise.nd rfl (by first | exact .inl rfl | exact .inr rfl) (pe_call (ok_draw T) (hr.mono (by decide)) (by rfl) T.g_draw T.F_draw.kp T.b_draw .nil pass0 (pa_cons (pv 0) (pa_cons pe_int pa_nil)))) (pss_cons (ps_asg (pv 1) (pg_tup rfl (pgs_cons (pg_name (i := 3) sc_pair_otherwise.nd rfl (by first | exact .inl rfl | exact .inr rfl)) (pgs_cons (pg_name (i := 4) sc_pair_otherwise.nd rfl (by first | exact .inl rfl | exact .inr rfl)) pgs_nil)))) (pss_cons (ps_set (i := 5) sc_pair_otherwise.nd rfl (by first | exact .inl rfl | exact .inr rfl) (pe_lst (pa_cons (pe_tup (pa_cons (pv 4) (pa_cons (pv 3) pa_nil))) (pa_cons (pe_tup (pa_cons (pe_op op_sub (pv 3) pe_int) (pa_cons (pv 4) pa_nil))) (pa_cons (pe_tup (pa_cons (pv 3) (pa_cons (pe_op op_sub (pv 4) pe_int) pa_nil))) (pa_cons (pe_tup (pa_cons (pe_op op_add (pv 4) pe_int) (pa_cons (pv 4) pa_nil))) (pa_cons (pe_tup (pa_cons (pv 3) (pa_cons (pe_op op_add (pv 4) pe_int) pa_nil))) (pa_cons (pe_tup (pa_cons (pe_un un_neg pe_int) (pa_cons (pv 4) pa_nil))) pa_nil)))))))) (pss_cons (ps_set (i := 5) sc_pair_otherwise.nd rfl (by first | exact .inl rfl | exact .inr rfl) (pe_op op_cat (pv 5) (pe_lst (pa_cons (pe_tup (pa_cons pe_bl (pa_cons (pv 4) pa_nil))) (pa_cons (pe_tup (pa_cons (pv 3) (pa_cons pe_bl pa_nil))) (pa_cons (pe_tup (pa_cons (pe_callTy call_str_int (by rfl) T.m_str (by decide +kernel) (pa_cons (pv 3) pa_nil)) (pa_cons (pv 4) pa_nil))) (pa_cons (pe_tup (pa_cons pe_non (pa_cons (pv 4) pa_nil))) (pa_cons (pe_tup (pa_cons (pv 3) pa_nil)) (pa_cons (pe_tup (pa_cons (pv 3) (pa_cons (pv 4) (pa_cons (pv 4) pa_nil)))) pa_nil))))))))) (pss_one (ps_ret (pe_ix ix_list (pe_op op_cat (pv 5) (pe_lst (pa_cons (pe_lstN (pa_cons (pv 3) (pa_cons (pv 4) pa_nil))) (pa_cons (pe_tup (pa_cons (pv 3) (pa_cons pe_non pa_nil))) (pa_cons (pe_tup (pa_cons (pe_tup (pa_cons (pv 3) (pa_cons (pv 4) pa_nil))) pa_nil)) (pa_cons (pe_tup (pa_cons pe_int (pa_cons (pe_op op_pow pe_int pe_int) pa_nil))) pa_nil)))))) (pv 2) (fun _ _ => rfl)))))))), ?_⟩
    have ia := Lim.lit a0 a1
    have ib := Lim.lit b0 b1
    have la : a.natAbs.log2 < 1920 := Nat.lt_trans (Lim.log a0 a1) (by decide)
    have fi : ∀ i : Int, Lit32 i → Fit (10 ^ 32) 107 0 (.int i) := fun i h => fit_i32 h
    have fb : ∀ x : PyData, (gd (10 ^ 32) x = true ∧ x.weight ≤ 107 ∧ x.depth ≤ 0) → Fit (10 ^ 32) 107 0 x := fun x h => h
    have fs : Fit (10 ^ 32) 108 0 (.str (Str.ofString (toString a))) := by
      have e : Str.ofString (toString a) = SX.S ((toString a).toList.map Char.toNat) := Str.ofString_eq_toList _
      rw [e]
      refine fit_S (fun c hc => ?_) ?_
      · obtain ⟨x, hx, rfl⟩ := List.mem_map.mp hc
        exact int_chars a x hx
      · have := PySem.int_text_length_le (a := a) (k := 107) (by decide) (Lim.log a0 a1)
        rw [List.length_map]
        exact this
    refine ⟨.ref d, rfl, d, l, 16, _, rfl, D, by omega, by decide, by decide, fun H1 way D1 fr1 u0' u1' => ?_⟩
    have oc : H1 c = some (.tup [.int a, .int b]) := Ts.fr D fr1 _ _ hc
    refine ⟨.ref c, rfl, c, _, rfl, SqT.of oc, rfl, _, _, rfl, _, _, rfl, rfl, ?_⟩
    refine ⟨.int b, rfl, .int a, rfl, sl2, fun p1 n1 => ?_⟩
    have s1 := same_upd (o := (HO.tup [V.int b, V.int a])) n1
    have h1 : upd H1 p1 (HO.tup [V.int b, V.int a]) p1 = some (HO.tup [V.int b, V.int a]) := upd_same
    generalize upd H1 p1 (HO.tup [V.int b, V.int a]) = A1 at s1 h1 ⊢
    refine ⟨.int a, rfl, _, _, rfl, rfl, .int b, rfl, sl2, fun p2 n2 => ?_⟩
    have s2 := same_upd (o := (HO.tup [V.int (a - 1), V.int b])) n2
    have h2 : upd A1 p2 (HO.tup [V.int (a - 1), V.int b]) p2 = some (HO.tup [V.int (a - 1), V.int b]) := upd_same
    generalize upd A1 p2 (HO.tup [V.int (a - 1), V.int b]) = A2 at s2 h2 ⊢
    refine ⟨.int a, rfl, .int b, rfl, _, _, rfl, rfl, sl2, fun p3 n3 => ?_⟩
    have s3 := same_upd (o := (HO.tup [V.int a, V.int (b - 1)])) n3
    have h3 : upd A2 p3 (HO.tup [V.int a, V.int (b - 1)]) p3 = some (HO.tup [V.int a, V.int (b - 1)]) := upd_same
    generalize upd A2 p3 (HO.tup [V.int a, V.int (b - 1)]) = A3 at s3 h3 ⊢
    refine ⟨.int b, rfl, _, _, rfl, rfl, .int b, rfl, sl2, fun p4 n4 => ?_⟩
    have s4 := same_upd (o := (HO.tup [V.int (b + 1), V.int b])) n4
    have h4 : upd A3 p4 (HO.tup [V.int (b + 1), V.int b]) p4 = some (HO.tup [V.int (b + 1), V.int b]) := upd_same
    generalize upd A3 p4 (HO.tup [V.int (b + 1), V.int b]) = A4 at s4 h4 ⊢
    refine ⟨.int a, rfl, .int b, rfl, _, _, rfl, rfl, sl2, fun p5 n5 => ?_⟩
    have s5 := same_upd (o := (HO.tup [V.int a, V.int (b + 1)])) n5
    have h5 : upd A4 p5 (HO.tup [V.int a, V.int (b + 1)]) p5 = some (HO.tup [V.int a, V.int (b + 1)]) := upd_same
    generalize upd A4 p5 (HO.tup [V.int a, V.int (b + 1)]) = A5 at s5 h5 ⊢
    refine ⟨_, rfl, .int b, rfl, sl2, fun p6 n6 => ?_⟩
    have s6 := same_upd (o := (HO.tup [V.int (-1), V.int b])) n6
    have h6 : upd A5 p6 (HO.tup [V.int (-1), V.int b]) p6 = some (HO.tup [V.int (-1), V.int b]) := upd_same
    generalize upd A5 p6 (HO.tup [V.int (-1), V.int b]) = A6 at s6 h6 ⊢
    refine ⟨by show 6 ≤ sizeLine; decide, fun p7 n7 => ?_⟩
    have s7 := same_upd (o := (HO.lst [V.ref p1, V.ref p2, V.ref p3, V.ref p4, V.ref p5, V.ref p6])) n7
    have h7 : upd A6 p7 (HO.lst [V.ref p1, V.ref p2, V.ref p3, V.ref p4, V.ref p5, V.ref p6]) p7 = some (HO.lst [V.ref p1, V.ref p2, V.ref p3, V.ref p4, V.ref p5, V.ref p6]) := upd_same
    generalize upd A6 p7 (HO.lst [V.ref p1, V.ref p2, V.ref p3, V.ref p4, V.ref p5, V.ref p6]) = A7 at s7 h7 ⊢
    refine ⟨.ref p7, rfl, .int b, rfl, sl2, fun p8 n8 => ?_⟩
    have s8 := same_upd (o := (HO.tup [V.bl true, V.int b])) n8
    have h8 : upd A7 p8 (HO.tup [V.bl true, V.int b]) p8 = some (HO.tup [V.bl true, V.int b]) := upd_same
    generalize upd A7 p8 (HO.tup [V.bl true, V.int b]) = A8 at s8 h8 ⊢
    refine ⟨.int a, rfl, sl2, fun p9 n9 => ?_⟩
    have s9 := same_upd (o := (HO.tup [V.int a, V.bl false])) n9
    have h9 : upd A8 p9 (HO.tup [V.int a, V.bl false]) p9 = some (HO.tup [V.int a, V.bl false]) := upd_same
    generalize upd A8 p9 (HO.tup [V.int a, V.bl false]) = A9 at s9 h9 ⊢
    refine ⟨.int a, rfl, a, rfl, la, .int b, rfl, sl2, fun p10 n10 => ?_⟩
    have s10 := same_upd (o := (HO.tup [V.str (Str.ofString (toString a)), V.int b])) n10
    have h10 : upd A9 p10 (HO.tup [V.str (Str.ofString (toString a)), V.int b]) p10 = some (HO.tup [V.str (Str.ofString (toString a)), V.int b]) := upd_same
    generalize upd A9 p10 (HO.tup [V.str (Str.ofString (toString a)), V.int b]) = A10 at s10 h10 ⊢
    refine ⟨.int b, rfl, sl2, fun p11 n11 => ?_⟩
    have s11 := same_upd (o := (HO.tup [V.non, V.int b])) n11
    have h11 : upd A10 p11 (HO.tup [V.non, V.int b]) p11 = some (HO.tup [V.non, V.int b]) := upd_same
    generalize upd A10 p11 (HO.tup [V.non, V.int b]) = A11 at s11 h11 ⊢
    refine ⟨.int a, rfl, sl1, fun p12 n12 => ?_⟩
    have s12 := same_upd (o := (HO.tup [V.int a])) n12
    have h12 : upd A11 p12 (HO.tup [V.int a]) p12 = some (HO.tup [V.int a]) := upd_same
    generalize upd A11 p12 (HO.tup [V.int a]) = A12 at s12 h12 ⊢
    refine ⟨.int a, rfl, .int b, rfl, .int b, rfl, sl3, fun p13 n13 => ?_⟩
    have s13 := same_upd (o := (HO.tup [V.int a, V.int b, V.int b])) n13
    have h13 : upd A12 p13 (HO.tup [V.int a, V.int b, V.int b]) p13 = some (HO.tup [V.int a, V.int b, V.int b]) := upd_same
    generalize upd A12 p13 (HO.tup [V.int a, V.int b, V.int b]) = A13 at s13 h13 ⊢
    refine ⟨by show 6 ≤ sizeLine; decide, fun p14 n14 => ?_⟩
    have s14 := same_upd (o := (HO.lst [V.ref p8, V.ref p9, V.ref p10, V.ref p11, V.ref p12, V.ref p13])) n14
    have h14 : upd A13 p14 (HO.lst [V.ref p8, V.ref p9, V.ref p10, V.ref p11, V.ref p12, V.ref p13]) p14 = some (HO.lst [V.ref p8, V.ref p9, V.ref p10, V.ref p11, V.ref p12, V.ref p13]) := upd_same
    generalize upd A13 p14 (HO.lst [V.ref p8, V.ref p9, V.ref p10, V.ref p11, V.ref p12, V.ref p13]) = A14 at s14 h14 ⊢
    have g1 := (s14 _ _ (s13 _ _ (s12 _ _ (s11 _ _ (s10 _ _ (s9 _ _ (s8 _ _ h7)))))))
    refine ⟨p7, p14, _, _, rfl, rfl, g1, h14, by show 12 ≤ sizeLine; decide, fun p15 n15 => ?_⟩
    rw [show [V.ref p1, V.ref p2, V.ref p3, V.ref p4, V.ref p5, V.ref p6] ++ [V.ref p8, V.ref p9, V.ref p10, V.ref p11, V.ref p12, V.ref p13] = [V.ref p1, V.ref p2, V.ref p3, V.ref p4, V.ref p5, V.ref p6, V.ref p8, V.ref p9, V.ref p10, V.ref p11, V.ref p12, V.ref p13] from rfl]
    have s15 := same_upd (o := (HO.lst [V.ref p1, V.ref p2, V.ref p3, V.ref p4, V.ref p5, V.ref p6, V.ref p8, V.ref p9, V.ref p10, V.ref p11, V.ref p12, V.ref p13])) n15
    have h15 : upd A14 p15 (HO.lst [V.ref p1, V.ref p2, V.ref p3, V.ref p4, V.ref p5, V.ref p6, V.ref p8, V.ref p9, V.ref p10, V.ref p11, V.ref p12, V.ref p13]) p15 = some (HO.lst [V.ref p1, V.ref p2, V.ref p3, V.ref p4, V.ref p5, V.ref p6, V.ref p8, V.ref p9, V.ref p10, V.ref p11, V.ref p12, V.ref p13]) := upd_same
    generalize upd A14 p15 (HO.lst [V.ref p1, V.ref p2, V.ref p3, V.ref p4, V.ref p5, V.ref p6, V.ref p8, V.ref p9, V.ref p10, V.ref p11, V.ref p12, V.ref p13]) = A15 at s15 h15 ⊢
    refine ⟨.ref p15, rfl, .int a, rfl, .int b, rfl, sl2, fun p16 n16 mL => ?_⟩
    have s16 := same_upd (o := (HO.lst [V.int a, V.int b])) n16
    have h16 : upd A15 p16 (HO.lst [V.int a, V.int b]) p16 = some (HO.lst [V.int a, V.int b]) := upd_same
    generalize upd A15 p16 (HO.lst [V.int a, V.int b]) = A16 at s16 h16 ⊢
    refine ⟨.int a, rfl, sl2, fun p17 n17 => ?_⟩
    have s17 := same_upd (o := (HO.tup [V.int a, V.non])) n17
    have h17 : upd A16 p17 (HO.tup [V.int a, V.non]) p17 = some (HO.tup [V.int a, V.non]) := upd_same
    generalize upd A16 p17 (HO.tup [V.int a, V.non]) = A17 at s17 h17 ⊢
    refine ⟨.int a, rfl, .int b, rfl, sl2, fun p18 n18 => ?_⟩
    have s18 := same_upd (o := (HO.tup [V.int a, V.int b])) n18
    have h18 : upd A17 p18 (HO.tup [V.int a, V.int b]) p18 = some (HO.tup [V.int a, V.int b]) := upd_same
    generalize upd A17 p18 (HO.tup [V.int a, V.int b]) = A18 at s18 h18 ⊢
    refine ⟨sl1, fun p19 n19 => ?_⟩
    have s19 := same_upd (o := (HO.tup [V.ref p18])) n19
    have h19 : upd A18 p19 (HO.tup [V.ref p18]) p19 = some (HO.tup [V.ref p18]) := upd_same
    generalize upd A18 p19 (HO.tup [V.ref p18]) = A19 at s19 h19 ⊢
    refine ⟨_, _, rfl, rfl, ⟨by decide, by decide, by decide⟩, sl2, fun p20 n20 => ?_⟩
    have s20 := same_upd (o := (HO.tup [V.int 0, V.int (10 ^ (31 : Int).toNat)])) n20
    have h20 : upd A19 p20 (HO.tup [V.int 0, V.int (10 ^ (31 : Int).toNat)]) p20 = some (HO.tup [V.int 0, V.int (10 ^ (31 : Int).toNat)]) := upd_same
    generalize upd A19 p20 (HO.tup [V.int 0, V.int (10 ^ (31 : Int).toNat)]) = A20 at s20 h20 ⊢
    refine ⟨by show 4 ≤ sizeLine; decide, fun p21 n21 => ?_⟩
    have s21 := same_upd (o := (HO.lst [V.ref p16, V.ref p17, V.ref p19, V.ref p20])) n21
    have h21 : upd A20 p21 (HO.lst [V.ref p16, V.ref p17, V.ref p19, V.ref p20]) p21 = some (HO.lst [V.ref p16, V.ref p17, V.ref p19, V.ref p20]) := upd_same
    generalize upd A20 p21 (HO.lst [V.ref p16, V.ref p17, V.ref p19, V.ref p20]) = A21 at s21 h21 ⊢
    have g2 := (s21 _ _ (s20 _ _ (s19 _ _ (s18 _ _ (s17 _ _ (s16 _ _ h15))))))
    refine ⟨p15, p21, _, _, rfl, rfl, g2, h21, by show 16 ≤ sizeLine; decide, fun p22 n22 => ?_⟩
    rw [show [V.ref p1, V.ref p2, V.ref p3, V.ref p4, V.ref p5, V.ref p6, V.ref p8, V.ref p9, V.ref p10, V.ref p11, V.ref p12, V.ref p13] ++ [V.ref p16, V.ref p17, V.ref p19, V.ref p20] = [V.ref p1, V.ref p2, V.ref p3, V.ref p4, V.ref p5, V.ref p6, V.ref p8, V.ref p9, V.ref p10, V.ref p11, V.ref p12, V.ref p13, V.ref p16, V.ref p17, V.ref p19, V.ref p20] from rfl]
    have s22 := same_upd (o := (HO.lst [V.ref p1, V.ref p2, V.ref p3, V.ref p4, V.ref p5, V.ref p6, V.ref p8, V.ref p9, V.ref p10, V.ref p11, V.ref p12, V.ref p13, V.ref p16, V.ref p17, V.ref p19, V.ref p20])) n22
    have h22 : upd A21 p22 (HO.lst [V.ref p1, V.ref p2, V.ref p3, V.ref p4, V.ref p5, V.ref p6, V.ref p8, V.ref p9, V.ref p10, V.ref p11, V.ref p12, V.ref p13, V.ref p16, V.ref p17, V.ref p19, V.ref p20]) p22 = some (HO.lst [V.ref p1, V.ref p2, V.ref p3, V.ref p4, V.ref p5, V.ref p6, V.ref p8, V.ref p9, V.ref p10, V.ref p11, V.ref p12, V.ref p13, V.ref p16, V.ref p17, V.ref p19, V.ref p20]) := upd_same
    generalize upd A21 p22 (HO.lst [V.ref p1, V.ref p2, V.ref p3, V.ref p4, V.ref p5, V.ref p6, V.ref p8, V.ref p9, V.ref p10, V.ref p11, V.ref p12, V.ref p13, V.ref p16, V.ref p17, V.ref p19, V.ref p20]) = A22 at s22 h22 ⊢
    have u22 : Same A22 A22 := Same.refl _
    have u21 : Same A21 A22 := s22.trans u22
    have u20 : Same A20 A22 := s21.trans u21
    have u19 : Same A19 A22 := s20.trans u20
    have u18 : Same A18 A22 := s19.trans u19
    have u17 : Same A17 A22 := s18.trans u18
    have u16 : Same A16 A22 := s17.trans u17
    have u15 : Same A15 A22 := s16.trans u16
    have u14 : Same A14 A22 := s15.trans u15
    have u13 : Same A13 A22 := s14.trans u14
    have u12 : Same A12 A22 := s13.trans u13
    have u11 : Same A11 A22 := s12.trans u12
    have u10 : Same A10 A22 := s11.trans u11
    have u9 : Same A9 A22 := s10.trans u10
    have u8 : Same A8 A22 := s9.trans u9
    have u7 : Same A7 A22 := s8.trans u8
    have u6 : Same A6 A22 := s7.trans u7
    have u5 : Same A5 A22 := s6.trans u6
    have u4 : Same A4 A22 := s5.trans u5
    have u3 : Same A3 A22 := s4.trans u4
    have u2 : Same A2 A22 := s3.trans u3
    have u1 : Same A1 A22 := s2.trans u2
    have u0 : Same H1 A22 := s1.trans u1
    have DN := D1.same u0
    have e1 : Sh (hid [d, l] A22) (.ref p1) (.tuple [.int b, .int a]) := sh_tup DN.da (u1 _ _ h1) (.cons (.int _) (.cons (.int _) (.nil)))
    have e2 : Sh (hid [d, l] A22) (.ref p2) (.tuple [.int (a - 1), .int b]) := sh_tup DN.da (u2 _ _ h2) (.cons (.int _) (.cons (.int _) (.nil)))
    have e3 : Sh (hid [d, l] A22) (.ref p3) (.tuple [.int a, .int (b - 1)]) := sh_tup DN.da (u3 _ _ h3) (.cons (.int _) (.cons (.int _) (.nil)))
    have e4 : Sh (hid [d, l] A22) (.ref p4) (.tuple [.int (b + 1), .int b]) := sh_tup DN.da (u4 _ _ h4) (.cons (.int _) (.cons (.int _) (.nil)))
    have e5 : Sh (hid [d, l] A22) (.ref p5) (.tuple [.int a, .int (b + 1)]) := sh_tup DN.da (u5 _ _ h5) (.cons (.int _) (.cons (.int _) (.nil)))
    have e6 : Sh (hid [d, l] A22) (.ref p6) (.tuple [.int (-1), .int b]) := sh_tup DN.da (u6 _ _ h6) (.cons (.int _) (.cons (.int _) (.nil)))
    have e8 : Sh (hid [d, l] A22) (.ref p8) (.tuple [.bool true, .int b]) := sh_tup DN.da (u8 _ _ h8) (.cons (.bl _) (.cons (.int _) (.nil)))
    have e9 : Sh (hid [d, l] A22) (.ref p9) (.tuple [.int a, .bool false]) := sh_tup DN.da (u9 _ _ h9) (.cons (.int _) (.cons (.bl _) (.nil)))
    have e10 : Sh (hid [d, l] A22) (.ref p10) (.tuple [.str (Str.ofString (toString a)), .int b]) := sh_tup DN.da (u10 _ _ h10) (.cons (.str _) (.cons (.int _) (.nil)))
    have e11 : Sh (hid [d, l] A22) (.ref p11) (.tuple [.none, .int b]) := sh_tup DN.da (u11 _ _ h11) (.cons .non (.cons (.int _) (.nil)))
    have e12 : Sh (hid [d, l] A22) (.ref p12) (.tuple [.int a]) := sh_tup DN.da (u12 _ _ h12) (.cons (.int _) (.nil))
    have e13 : Sh (hid [d, l] A22) (.ref p13) (.tuple [.int a, .int b, .int b]) := sh_tup DN.da (u13 _ _ h13) (.cons (.int _) (.cons (.int _) (.cons (.int _) (.nil))))
    have w1 := s1
    have w2 := w1.trans s2
    have w3 := w2.trans s3
    have w4 := w3.trans s4
    have w5 := w4.trans s5
    have w6 := w5.trans s6
    have w7 := w6.trans s7
    have w8 := w7.trans s8
    have w9 := w8.trans s9
    have w10 := w9.trans s10
    have w11 := w10.trans s11
    have w12 := w11.trans s12
    have w13 := w12.trans s13
    have w14 := w13.trans s14
    have w15 := w14.trans s15
    have oN : p16 ∉ [d, l] := (D1.same w15).out n16
    have e16 : Sh (hid [d, l] A22) (.ref p16) (.list [.int a, .int b]) := .lst (by rw [hid_at oN]; exact u16 _ _ h16) mL (.cons (.int _) (.cons (.int _) .nil))
    have e17 : Sh (hid [d, l] A22) (.ref p17) (.tuple [.int a, .none]) := sh_tup DN.da (u17 _ _ h17) (.cons (.int _) (.cons .non .nil))
    have e19 : Sh (hid [d, l] A22) (.ref p19) (.tuple [.tuple [.int a, .int b]]) := sh_tup DN.da (u19 _ _ h19) (.cons (sh_tup DN.da (u18 _ _ h18) (.cons (.int _) (.cons (.int _) .nil))) .nil)
    have e20 : Sh (hid [d, l] A22) (.ref p20) (.tuple [.int 0, .int (10 ^ (31 : Int).toNat)]) := sh_tup DN.da (u20 _ _ h20) (.cons (.int _) (.cons (.int _) .nil))
    have all : ShAll (hid [d, l] A22) [V.ref p1, V.ref p2, V.ref p3, V.ref p4, V.ref p5, V.ref p6, V.ref p8, V.ref p9, V.ref p10, V.ref p11, V.ref p12, V.ref p13, V.ref p16, V.ref p17, V.ref p19, V.ref p20] [.tuple [.int b, .int a], .tuple [.int (a - 1), .int b], .tuple [.int a, .int (b - 1)], .tuple [.int (b + 1), .int b], .tuple [.int a, .int (b + 1)], .tuple [.int (-1), .int b], .tuple [.bool true, .int b], .tuple [.int a, .bool false], .tuple [.str (Str.ofString (toString a)), .int b], .tuple [.none, .int b], .tuple [.int a], .tuple [.int a, .int b, .int b], .list [.int a, .int b], .tuple [.int a, .none], .tuple [.tuple [.int a, .int b]], .tuple [.int 0, .int (10 ^ (31 : Int).toNat)]] := .cons (e1) (.cons (e2) (.cons (e3) (.cons (e4) (.cons (e5) (.cons (e6) (.cons (e8) (.cons (e9) (.cons (e10) (.cons (e11) (.cons (e12) (.cons (e13) (.cons (e16) (.cons (e17) (.cons (e19) (.cons (e20) (.nil))))))))))))))))
    have fits : ∀ z ∈ ([.tuple [.int b, .int a], .tuple [.int (a - 1), .int b], .tuple [.int a, .int (b - 1)], .tuple [.int (b + 1), .int b], .tuple [.int a, .int (b + 1)], .tuple [.int (-1), .int b], .tuple [.bool true, .int b], .tuple [.int a, .bool false], .tuple [.str (Str.ofString (toString a)), .int b], .tuple [.none, .int b], .tuple [.int a], .tuple [.int a, .int b, .int b], .list [.int a, .int b], .tuple [.int a, .none], .tuple [.tuple [.int a, .int b]], .tuple [.int 0, .int (10 ^ (31 : Int).toNat)]] : List PyData), Fit (10 ^ 32) 400 2 z := by
      intro z hz
      simp only [List.mem_cons, List.not_mem_nil, or_false] at hz
      rcases hz with rfl | rfl | rfl | rfl | rfl | rfl | rfl | rfl | rfl | rfl | rfl | rfl | rfl | rfl | rfl | rfl
      · exact (Fit.tup ((FitL.one (fi _ ib)).app (FitL.one (fi _ ia)))).mono (Nat.le_refl _) (by decide) (by decide)
      · exact (Fit.tup ((FitL.one (fi _ ⟨by omega, by omega⟩)).app (FitL.one (fi _ ib)))).mono (Nat.le_refl _) (by decide) (by decide)
      · exact (Fit.tup ((FitL.one (fi _ ia)).app (FitL.one (fi _ ⟨by omega, by omega⟩)))).mono (Nat.le_refl _) (by decide) (by decide)
      · exact (Fit.tup ((FitL.one (fi _ ⟨by omega, by omega⟩)).app (FitL.one (fi _ ib)))).mono (Nat.le_refl _) (by decide) (by decide)
      · exact (Fit.tup ((FitL.one (fi _ ia)).app (FitL.one (fi _ ⟨by omega, by omega⟩)))).mono (Nat.le_refl _) (by decide) (by decide)
      · exact (Fit.tup ((FitL.one (fi _ ⟨by decide, by decide⟩)).app (FitL.one (fi _ ib)))).mono (Nat.le_refl _) (by decide) (by decide)
      · exact (Fit.tup ((FitL.one (fb (.bool true) ⟨rfl, by decide, by decide⟩)).app (FitL.one (fi _ ib)))).mono (Nat.le_refl _) (by decide) (by decide)
      · exact (Fit.tup ((FitL.one (fi _ ia)).app (FitL.one (fb (.bool false) ⟨rfl, by decide, by decide⟩)))).mono (Nat.le_refl _) (by decide) (by decide)
      · exact (Fit.tup ((FitL.one fs).app (FitL.one (fi _ ib)))).mono (Nat.le_refl _) (by decide) (by decide)
      · exact (Fit.tup ((FitL.one (fb .none ⟨rfl, by decide, by decide⟩)).app (FitL.one (fi _ ib)))).mono (Nat.le_refl _) (by decide) (by decide)
      · exact (Fit.tup (FitL.one (fi _ ia))).mono (Nat.le_refl _) (by decide) (by decide)
      · exact (Fit.tup (((FitL.one (fi _ ia)).app (FitL.one (fi _ ib))).app (FitL.one (fi _ ib)))).mono (Nat.le_refl _) (by decide) (by decide)
      · exact (Fit.lst ((FitL.one (fi _ ia)).app (FitL.one (fi _ ib)))).mono (Nat.le_refl _) (by decide) (by decide)
      · exact (Fit.tup ((FitL.one (fi _ ia)).app (FitL.one (fb .none ⟨rfl, by decide, by decide⟩)))).mono (Nat.le_refl _) (by decide) (by decide)
      · exact (Fit.tup (FitL.one (Fit.tup ((FitL.one (fi a ia)).app (FitL.one (fi b ib)))))).mono (Nat.le_refl _) (by decide) (by decide)
      · exact (Fit.tup ((FitL.one (fi _ ⟨by decide, by decide⟩)).app (FitL.one (fi _ ⟨by decide, by decide⟩)))).mono (Nat.le_refl _) (by decide) (by decide)
    obtain ⟨odd, dodd, hodd, shodd, fodd⟩ := pick_sh all fits u0' u1'
    exact ⟨.int way, rfl, p22, _, way, odd, rfl, rfl, SqL.of h22, hodd, q _ _ _ DN (fr1.trans (Fr.of u0)) shodd fodd⟩

end
end Gk

set_option Elab.async false
set_option linter.all false
set_option maxRecDepth 100000
set_option maxHeartbeats 2000000
set_option pp.maxSteps 1500
set_option pp.deepTerms false
namespace Gk
open PySem PySem.Spec PyProof.Rows L2
section
variable {P : Program} {w : World} {K : PySem.W.Frag} {mg : Str → Option Value} {base : Heap}
/-! ### bounds with one thing otherwise -/
mutual
theorem Tk.shD {as : List Addr} {H : Hp} {dk lk : Addr} {n : Int} (D : DA as H dk lk n) : ∀ {v : V} {d : PyData}, Tk H v d → noL d = true → Sh (hid as H) v d
  | _, _, .bl b, _ => .bl b
  | _, _, .int i, _ => .int i
  | _, _, .str x, _ => .str x
  | _, _, .lst h t, n => by cases n
  | _, _, .tup h t, n => sh_tup D h (TkAll.shD D t n)
theorem TkAll.shD {as : List Addr} {H : Hp} {dk lk : Addr} {n : Int} (D : DA as H dk lk n) : ∀ {vs : List V} {ds : List PyData}, TkAll H vs ds → noLs ds = true → ShAll (hid as H) vs ds
  | _, _, .nil, _ => .nil
  | _, _, .cons (d := d) (ds := ds) h t, n => by
    have n' : noL d = true ∧ noLs ds = true := Bool.and_eq_true_iff.mp n
    exact .cons (Tk.shD D h n'.1) (TkAll.shD D t n'.2)
end
def PS (p : Int × Int) : Prop := (0 ≤ p.1 ∧ p.1 ≤ 2000000000000000000000000000000) ∧ 0 ≤ p.2 ∧ p.2 ≤ 2000000000000000000000000000000
def RowS (r : BR) : Prop := 1 ≤ r.length ∧ r.length ≤ 3 ∧ ∀ p ∈ r, PS p
theorem bs_S {m : Nat} {gs : List Gt} {bs : List BR} (ok : NetOk m gs) (h : BsOk m gs bs) : ∀ r ∈ bs, RowS r := fun r hr => by
  obtain ⟨j, hj⟩ := List.getElem?_of_mem hr
  have lj := (List.getElem?_eq_some_iff.mp hj).1
  have hg : gs[j]? = some (gs[j]'(by rw [← h.1]; exact lj)) := List.getElem?_eq_getElem _
  obtain ⟨l, z⟩ := h.2 j r _ hj hg
  obtain ⟨_, g1, g2, _⟩ := ok j _ hg
  refine ⟨by omega, by omega, fun p hp => ?_⟩
  obtain ⟨i, hi⟩ := List.getElem?_of_mem hp
  have li := (List.getElem?_eq_some_iff.mp hi).1
  obtain ⟨b0, b1, b2, _⟩ := z i p _ hi (List.getElem?_eq_getElem (by omega))
  exact ⟨⟨b0, by omega⟩, by omega, b2⟩
theorem fit_p {p : Int × Int} (h : PS p) : Fit (10 ^ 32) 216 1 (pD p) := (Fit.tup ((FitL.one (fit_i32 (M := 0) (Lim.lit h.1.1 h.1.2))).app (FitL.one (fit_i32 (M := 0) (Lim.lit h.2.1 h.2.2))))).mono (Nat.le_refl _) (by decide) (Nat.le_refl _)
theorem fit_ps : ∀ r : BR, (∀ p ∈ r, PS p) → FitL (10 ^ 32) (217 * r.length) 1 (r.map pD)
  | [], _ => ⟨rfl, Nat.le_refl _, Nat.zero_le _⟩
  | x :: r, h => by
    have a := FitL.one (fit_p (h x (List.mem_cons_self ..)))
    have b := fit_ps r fun y hy => h y (List.mem_cons_of_mem _ hy)
    have c := a.app b
    exact ⟨c.1, Nat.le_trans c.2.1 (by rw [List.length_cons]; omega), c.2.2⟩
theorem fit_r {r : BR} (h : RowS r) : Fit (10 ^ 32) 651 2 (rD r) := (Fit.tup (fit_ps r h.2.2)).mono (Nat.le_refl _) (by have := h.2.1; omega) (Nat.le_refl _)
theorem fit_rs : ∀ b : List BR, (∀ r ∈ b, RowS r) → FitL (10 ^ 32) (652 * b.length) 2 (b.map rD)
  | [], _ => ⟨rfl, Nat.le_refl _, Nat.zero_le _⟩
  | x :: r, h => by
    have a := FitL.one (fit_r (h x (List.mem_cons_self ..)))
    have b := fit_rs r fun y hy => h y (List.mem_cons_of_mem _ hy)
    have c := a.app b
    exact ⟨c.1, Nat.le_trans c.2.1 (by rw [List.length_cons]; omega), c.2.2⟩
theorem fit_rtake {b : List BR} (h : ∀ r ∈ b, RowS r) (k : Nat) : FitL (10 ^ 32) (652 * k) 2 ((b.map rD).take k) := by
  rw [← List.map_take]
  have := fit_rs (b.take k) fun x hx => h x (List.mem_of_mem_take hx)
  exact this.upN (by rw [List.length_take]; omega)
theorem fit_rdrop {b : List BR} (h : ∀ r ∈ b, RowS r) (k : Nat) : FitL (10 ^ 32) (652 * (b.length - k)) 2 ((b.map rD).drop k) := by
  rw [← List.map_drop]
  have := fit_rs (b.drop k) fun x hx => h x (List.mem_of_mem_drop hx)
  rw [List.length_drop] at this
  exact this
theorem fit_rone {b : List BR} (h : ∀ r ∈ b, RowS r) (k : Nat) : FitL (10 ^ 32) 652 2 (((b.map rD).drop k).take 1) := by
  rw [← List.map_drop, ← List.map_take]
  have := fit_rs ((b.drop k).take 1) fun x hx => h x (List.mem_of_mem_drop (List.mem_of_mem_take hx))
  exact this.upN (by rw [List.length_take]; omega)
theorem FitL.up {B n n' m m' : Nat} {a : List PyData} (h : FitL B n m a) (le : n ≤ n') (lm : m ≤ m') : FitL B n' m' a := ⟨h.1, Nat.le_trans h.2.1 le, Nat.le_trans h.2.2 lm⟩
theorem sh_cut {H : Hp} {xs : List V} {ds : List PyData} {B n m : Nat} (t : ShAll H xs ds) (f : FitL B n m ds) (lo hi : Option Int) : ∃ es, ShAll H (cutV xs lo hi) es ∧ FitL B n m es := ⟨_, (t.drop _).take _, (f.drop _).take _⟩
theorem cut_len {xs : List V} {lo hi : Option Int} : (cutV xs lo hi).length ≤ xs.length := by
  unfold cutV
  rw [List.length_take, List.length_drop]
  omega
theorem cut_at {xs : List V} {k : Nat} (h : k < xs.length) : cutV xs (some (k : Int)) (some ((k + 1 : Nat) : Int)) = (xs.drop k).take 1 := by
  unfold cutV
  rw [HT.sIx_nat, HT.sIx_nat, Nat.min_eq_left (show k ≤ xs.length by omega), Nat.min_eq_left (show k + 1 ≤ xs.length by omega), show k + 1 - k = 1 by omega]
def sp_otherwise (K : PySem.W.Frag) : Sp := fun vs H Q _ => ∃ (d l ba : Addr) (n : Int) (x : V) (bs : List BR), vs = [.ref d, x, .ref ba] ∧ DeckB H d l n ∧ n < 800000000 ∧ Tk H (.ref ba) (bsD bs) ∧ (∀ r ∈ bs, RowS r) ∧ 1 ≤ bs.length ∧ bs.length ≤ 40 ∧
  ∀ v' H' dd', DeckB H' d l (n + 10) → Fr d l H H' → Sh (hid [d, l] H') v' dd' → Fit (10 ^ 32) 30000 6 dd' → Q v' H'
theorem ok_otherwise (T : Tx K mg) : FnOk P w K mg base CX0 3 T.f_otherwise T.fd_otherwise ["_law_deck_here", "_law_net", "_law_bounds_here"] (sp_otherwise K) := by
  refine T.F_otherwise.ok sc_otherwise (fun vs H Q E h => ?_) (fun cdv A outer s H vs Q E hr h => ?_)
  · obtain ⟨d, l, ba, n, x, bs, rfl, _⟩ := h
    rfl
  · obtain ⟨d, l, ba, n, x, bs, rfl, D, hn, tb, okr, b1, b40, q⟩ := h
    refine ⟨_, (pss_cons (ps_set (i := 3) sc_otherwise.nd rfl (by first | exact .inl rfl | exact .inr rfl) (pe_call (ok_draw T) (hr.mono (by decide)) (by rfl) T.g_draw T.F_draw.kp T.b_draw .nil pass0 (pa_cons (pv 0) (pa_cons pe_int pa_nil)))) (pss_cons (ps_set (i := 4) sc_otherwise.nd rfl (by first | exact .inl rfl | exact .inr rfl) (pe_call (ok_draw T) (hr.mono (by decide)) (by rfl) T.g_draw T.F_draw.kp T.b_draw .nil pass0 (pa_cons (pv 0) (pa_cons (pe_callB call_len_seq (by rfl) T.m_len PySem.boot_len (pa_cons (pv 2) pa_nil)) pa_nil)))) (pss_cons (ps_set (i := 5) sc_otherwise.nd rfl (by first | exact .inl rfl | exact .inr rfl) (pe_ix ix_tup (pv 2) (pv 4) (fun _ _ => rfl))) (pss_cons (ps_set (i := 6) sc_otherwise.nd rfl (by first | exact .inl rfl | exact .inr rfl) (pe_call (ok_draw T) (hr.mono (by decide)) (by rfl) T.g_draw T.F_draw.kp T.b_draw .nil pass0 (pa_cons (pv 0) (pa_cons (pe_callB call_len_seq (by rfl) T.m_len PySem.boot_len (pa_cons (pv 5) pa_nil)) pa_nil)))) (pss_cons (ps_if (pt_cmpR op_lt (pv 3) pe_int (nomark _)) (pss_cons (ps_set (i := 5) sc_otherwise.nd rfl (by first | exact .inl rfl | exact .inr rfl) (pe_op op_catA (pe_op op_catA (pe_slice sl_tupA (pv 5) po_none (po_some (pv 6))) (pe_tup (pa_cons (pe_call (ok_pair_otherwise T) (hr.mono (by decide)) (by rfl) T.g_pair_otherwise T.F_pair_otherwise.kp T.b_pair_otherwise .nil pass0 (pa_cons (pv 0) (pa_cons (pe_ix ix_tup (pv 5) (pv 6) (fun _ _ => rfl)) pa_nil))) pa_nil))) (pe_slice sl_tupA (pv 5) (po_some (pe_op op_add (pv 6) pe_int)) po_none))) (pss_one (ps_ret (pe_op op_catA (pe_op op_catA (pe_slice sl_tupA (pv 2) po_none (po_some (pv 4))) (pe_tup (pa_cons (pv 5) pa_nil))) (pe_slice sl_tupA (pv 2) (po_some (pe_op op_add (pv 4) pe_int)) po_none))))) pss_nil) (pss_cons (ps_set (i := 7) sc_otherwise.nd rfl (by first | exact .inl rfl | exact .inr rfl) (pe_call (ok_draw T) (hr.mono (by decide)) (by rfl) T.g_draw T.F_draw.kp T.b_draw .nil pass0 (pa_cons (pv 0) (pa_cons pe_int pa_nil)))) (pss_cons (ps_if (pt_cmpR op_eq (pv 3) pe_int (nomark _)) (pss_cons (ps_set (i := 8) sc_otherwise.nd rfl (by first | exact .inl rfl | exact .inr rfl) (pe_lst (pa_cons (pe_slice sl_tupA (pv 5) po_none (po_some (pe_un un_neg pe_int))) (pa_cons (pe_op op_catA (pv 5) (pe_slice sl_tupA (pv 5) po_none (po_some pe_int))) (pa_cons (pe_callTy NumZ.call_listN (by rfl) T.m_list (by decide +kernel) (pa_cons (pv 5) pa_nil)) (pa_cons pe_non (pa_cons pe_int (pa_cons pe_dnewK pa_nil)))))))) (pss_one (ps_ret (pe_op op_catA (pe_op op_catA (pe_slice sl_tupA (pv 2) po_none (po_some (pv 4))) (pe_tup (pa_cons (pe_ix ix_list (pv 8) (pv 7) (fun _ _ => rfl)) pa_nil))) (pe_slice sl_tupA (pv 2) (po_some (pe_op op_add (pv 4) pe_int)) po_none))))) pss_nil) (pss_cons (ps_set (i := 8) sc_otherwise.nd rfl (by first | exact .inl rfl | exact .inr rfl) (pe_lst (pa_cons (pe_slice sl_tupA (pv 2) po_none (po_some (pe_un un_neg pe_int))) (pa_cons (pe_op op_catA (pv 2) (pe_slice sl_tupA (pv 2) po_none (po_some pe_int))) (pa_cons (pe_callTy NumZ.call_listN (by rfl) T.m_list (by decide +kernel) (pa_cons (pv 2) pa_nil)) (pa_cons pe_non (pa_cons pe_str (pa_cons (pe_tup (pa_cons (pv 2) pa_nil)) pa_nil)))))))) (pss_cons (ps_if (pt_cmpR op_eq (pv 3) pe_int (nomark _)) (pss_one (ps_ret (pe_ix ix_list (pv 8) (pv 7) (fun _ _ => rfl)))) pss_nil) (pss_one (ps_ret (pe_op op_catA (pe_op op_catA (pe_slice sl_tupA (pv 2) po_none (po_some (pv 4))) (pe_slice sl_tupA (pv 2) (po_some (pe_op op_add (pv 4) pe_int)) po_none)) (pe_slice sl_tupA (pv 2) (po_some (pv 4)) (po_some (pe_op op_add (pv 4) pe_int))))))))))))))), ?_⟩
    obtain ⟨_, bx, e, hba, tbx⟩ := tb.tup_inv
    cases e
    have lb : bx.length = bs.length := by rw [tbx.length, List.length_map]
    have s100 : 100 ≤ sizeLine := by decide
    have nls : noLs (bs.map rD) = true := noLs_map noL_r bs
    refine ⟨.ref d, rfl, d, l, 8, _, rfl, D, by omega, by decide, by decide, fun H1 way D1 fr1 w0 w1 => ?_⟩
    have ts1 := Ts.fr D fr1
    refine ⟨.ref d, rfl, .ref ba, rfl, ba, _, rfl, .inr (SqT.of (ts1 _ _ hba)), ?_⟩
    rw [lb]
    refine ⟨d, l, _, _, rfl, D1, by omega, by omega, by omega, fun H2 at_ D2 fr2 a0 a1 => ?_⟩
    obtain ⟨k, rfl⟩ := Int.eq_ofNat_of_zero_le a0
    have hk : k < bs.length := by omega
    have ts2 := ts1.trans (Ts.fr D1 fr2)
    have fr02 := fr1.trans fr2
    have hxk : bx[k]? = some (bx[k]'(by omega)) := List.getElem?_eq_getElem _
    obtain ⟨r, hrk, tr⟩ := tbx.at hxk
    obtain ⟨ra, rx, era, hra, trx⟩ := tr.tup_inv
    rw [era] at hxk
    have okk : RowS r := okr r (List.mem_of_getElem? hrk)
    have lr : rx.length = r.length := by rw [trx.length, List.length_map]
    have nlr : noLs (r.map pD) = true := noLs_map noL_p r
    have frr := fit_ps r okk.2.2
    obtain ⟨r1, r3, _⟩ := id okk
    refine ⟨.ref ba, rfl, .int (k : Nat), rfl, ba, _, (k : Int), .ref ra, rfl, rfl, SqT.of (ts2 _ _ hba), atI_nat hxk, ?_⟩
    refine ⟨.ref d, rfl, .ref ra, rfl, ra, _, rfl, .inr (SqT.of (ts2 _ _ hra)), ?_⟩
    rw [lr]
    refine ⟨d, l, _, _, rfl, D2, by omega, by omega, by omega, fun H3 pl D3 fr3 p0 p1 => ?_⟩
    obtain ⟨j, rfl⟩ := Int.eq_ofNat_of_zero_le p0
    have hj : j < r.length := by omega
    have ts3 := ts2.trans (Ts.fr D2 fr3)
    have fr03 := fr02.trans fr3
    have fin : ∀ (H' : Hp) (p : Addr) (v : V) (dv : PyData), DeckB H' d l (n + 10) → Fr d l H H' → Ts H H' → H' p = some (.tup (bx.take k ++ [v] ++ bx.drop (k + 1))) → Sh (hid [d, l] H') v dv → Fit (10 ^ 32) 1800 3 dv → Q (.ref p) H' := fun H' p v dv D' fr' ts' hp sh ft => by
      have all := (tbx.ts ts' nls).shD D'.da nls
      refine q _ _ _ D' fr' (sh_tup D'.da hp (((all.take k).append (.cons sh .nil)).append (all.drop (k + 1)))) ?_
      have f1 := ((fit_rtake okr k).up (Nat.le_refl _) (show 2 ≤ 3 by decide)).app (FitL.one ft)
      have f2 := f1.app ((fit_rdrop okr (k + 1)).up (Nat.le_refl _) (show 2 ≤ 3 by decide))
      exact (Fit.tup f2).mono (Nat.le_refl _) (by omega) (by decide)
    refine ⟨.int way, rfl, _, _, rfl, rfl, _, rfl, ite2 (fun _ => ?_) (fun _ => ?_)⟩
    · -- a pair otherwise
      have hpj : rx[j]? = some (rx[j]'(by omega)) := List.getElem?_eq_getElem _
      obtain ⟨p, hp, tp⟩ := trx.at hpj
      obtain ⟨pa, px, epa, hpa, tpx⟩ := tp.tup_inv
      rw [epa] at hpj
      have epx : px = [V.int p.1, V.int p.2] := by
        cases tpx with
        | cons a1 r1 =>
          cases r1 with
          | cons a2 r2 =>
            cases r2
            cases a1
            cases a2
            rfl
      subst epx
      have okp : PS p := okk.2.2 p (List.mem_of_getElem? hp)
      refine ⟨.ref ra, rfl, .int (j : Nat), rfl, (j : Int), rfl, slA (ts3 _ _ hra) fun q1 H4 s4 h4 => ?_⟩
      rw [cut_to] at h4
      have D4 := D3.same s4
      have ts4 := ts3.trans (Ts.same s4)
      refine ⟨.ref d, rfl, .ref ra, rfl, .int (j : Nat), rfl, ra, _, (j : Int), .ref pa, rfl, rfl, SqT.of (ts4 _ _ hra), atI_nat hpj, ?_⟩
      refine ⟨d, l, pa, _, p.1, p.2, rfl, D4, by omega, ts4 _ _ hpa, okp.1.1, okp.1.2, okp.2.1, okp.2.2, fun v5 H5 d5 D5 fr5 sh5 f5 => ⟨sl1, fun t nt => ?_⟩⟩
      have ts45 := Ts.fr D4 fr5
      have ts5 := ts4.trans ts45
      have s5 := same_upd (o := (HO.tup [v5])) nt
      have h5 : upd H5 t (HO.tup [v5]) t = some (HO.tup [v5]) := upd_same
      generalize upd H5 t (HO.tup [v5]) = A1 at s5 h5 ⊢
      refine catA (s5 _ _ (ts45 _ _ h4)) h5 ?_ fun q2 H6 s6 h6 => ?_
      · exact Nat.le_trans (show _ ≤ 100 by simp only [List.length_append, List.length_take, List.length_drop, List.length_cons, List.length_nil]; omega) s100
      refine ⟨.ref ra, rfl, .int (j : Nat), rfl, _, _, rfl, rfl, ((j + 1 : Nat) : Int), rfl, slAn (s6 _ _ (s5 _ _ (ts5 _ _ hra))) fun q3 H7 s7 h7 => ?_⟩
      rw [cut_from] at h7
      refine catA (s7 _ _ h6) h7 ?_ fun q4 H8 s8 h8 => ?_
      · exact Nat.le_trans (show _ ≤ 100 by simp only [List.length_append, List.length_take, List.length_drop, List.length_cons, List.length_nil]; omega) s100
      have s58 := ((s5.trans s6).trans s7).trans s8
      have D8 := D5.same s58
      have ts8 := ts5.trans (Ts.same s58)
      have fr08 := (((fr03.trans (Fr.of s4)).trans fr5)).trans (Fr.of s58)
      have sh8 : Sh (hid [d, l] H8) (.ref q4) (.tuple ((r.map pD).take j ++ [d5] ++ (r.map pD).drop (j + 1))) := by
        have all := (trx.ts ts8 nlr).shD D8.da nlr
        exact sh_tup D8.da h8 (((all.take j).append (.cons (sh5.same (hid_same s58)) .nil)).append (all.drop (j + 1)))
      have f8 : Fit (10 ^ 32) 1800 3 (.tuple ((r.map pD).take j ++ [d5] ++ (r.map pD).drop (j + 1))) := by
        have f1 := (((frr.take j).up (Nat.le_refl _) (show 1 ≤ 2 by decide)).app (FitL.one f5)).app ((frr.drop (j + 1)).up (Nat.le_refl _) (show 1 ≤ 2 by decide))
        exact (Fit.tup f1).mono (Nat.le_refl _) (by omega) (Nat.le_refl _)
      refine ⟨.ref ba, rfl, .int (k : Nat), rfl, (k : Int), rfl, slA (ts8 _ _ hba) fun q5 H9 s9 h9 => ?_⟩
      rw [cut_to] at h9
      refine ⟨.ref q4, rfl, sl1, fun t2 nt2 => ?_⟩
      have s10 := same_upd (o := (HO.tup [V.ref q4])) nt2
      have h10 : upd H9 t2 (HO.tup [V.ref q4]) t2 = some (HO.tup [V.ref q4]) := upd_same
      generalize upd H9 t2 (HO.tup [V.ref q4]) = A2 at s10 h10 ⊢
      refine catA (s10 _ _ h9) h10 ?_ fun q6 H11 s11 h11 => ?_
      · exact Nat.le_trans (show _ ≤ 100 by simp only [List.length_append, List.length_take, List.length_drop, List.length_cons, List.length_nil]; omega) s100
      refine ⟨.ref ba, rfl, .int (k : Nat), rfl, _, _, rfl, rfl, ((k + 1 : Nat) : Int), rfl, slAn (s11 _ _ (s10 _ _ (s9 _ _ (ts8 _ _ hba)))) fun q7 H12 s12 h12 => ?_⟩
      rw [cut_from] at h12
      refine catA (s12 _ _ h11) h12 ?_ fun q8 H13 s13 h13 => ?_
      · exact Nat.le_trans (show _ ≤ 100 by simp only [List.length_append, List.length_take, List.length_drop, List.length_cons, List.length_nil]; omega) s100
      have sX := (((s9.trans s10).trans s11).trans s12).trans s13
      exact fin H13 q8 _ _ ((D8.same sX).mono (by omega)) (fr08.trans (Fr.of sX)) (ts8.trans (Ts.same sX)) h13 (sh8.same (hid_same sX)) f8
    refine ⟨.ref d, rfl, d, l, 6, _, rfl, D3, by omega, by decide, by decide, fun H4 spo D4 fr4 u0 u1 => ?_⟩
    have ts4 := ts3.trans (Ts.fr D3 fr4)
    have fr04 := fr03.trans fr4
    refine ⟨.int way, rfl, rfl, _, rfl, ite2 (fun _ => ?_) (fun _ => ?_)⟩
    · -- a row otherwise
      refine ⟨.ref ra, rfl, 1, rfl, (-1), rfl, slA (ts4 _ _ hra) fun q1 H5 s5 h5 => ?_⟩
      refine ⟨.ref ra, rfl, .ref ra, rfl, (1 : Int), rfl, slA (s5 _ _ (ts4 _ _ hra)) fun q2 H6 s6 h6 => ?_⟩
      have s46 := s5.trans s6
      refine catA (s46 _ _ (ts4 _ _ hra)) h6 ?_ fun q3 H7 s7 h7 => ?_
      · have := cut_len (xs := rx) (lo := none) (hi := some 1)
        exact Nat.le_trans (show _ ≤ 100 by omega) s100
      have s47 := s46.trans s7
      refine ⟨.ref ra, rfl, ra, rx, rfl, SqT.of (s47 _ _ (ts4 _ _ hra)), fun L nL mL => ?_⟩
      have s8 := same_upd (o := (HO.lst rx)) nL
      have h8 : upd H7 L (HO.lst rx) L = some (HO.lst rx) := upd_same
      generalize upd H7 L (HO.lst rx) = A1 at s8 h8 ⊢
      refine fun dk ndk => ?_
      have s9 := same_upd (o := (HO.dK [])) ndk
      have h9 : upd A1 dk (HO.dK []) dk = some (HO.dK []) := upd_same
      generalize upd A1 dk (HO.dK []) = A2 at s9 h9 ⊢
      refine ⟨by show 6 ≤ sizeLine; decide, fun C nC => ?_⟩
      have s10 := same_upd (o := (HO.lst [V.ref q1, V.ref q3, V.ref L, V.non, V.int 0, V.ref dk])) nC
      have h10 : upd A2 C (HO.lst [V.ref q1, V.ref q3, V.ref L, V.non, V.int 0, V.ref dk]) C = some (HO.lst [V.ref q1, V.ref q3, V.ref L, V.non, V.int 0, V.ref dk]) := upd_same
      generalize upd A2 C (HO.lst [V.ref q1, V.ref q3, V.ref L, V.non, V.int 0, V.ref dk]) = A3 at s10 h10 ⊢
      have s4A := ((s47.trans s8).trans s9).trans s10
      have DA3 := D4.same s4A
      have tsA := ts4.trans (Ts.same s4A)
      have allr := (trx.ts tsA nlr).shD DA3.da nlr
      obtain ⟨es1, shc1, ft1⟩ := sh_cut (lo := none) (hi := some (-1)) allr frr
      obtain ⟨es2, shc2, ft2⟩ := sh_cut (lo := none) (hi := some 1) allr frr
      have oL := (D4.same s47).out nL
      have od := (D4.same (s47.trans s8)).out ndk
      have all : ShAll (hid [d, l] A3) [V.ref q1, V.ref q3, V.ref L, V.non, V.int 0, V.ref dk] [.tuple es1, .tuple (r.map pD ++ es2), .list (r.map pD), .none, .int 0, .dict []] := by
        refine .cons (sh_tup DA3.da (s10 _ _ (s9 _ _ (s8 _ _ (s7 _ _ (s6 _ _ h5))))) shc1) (.cons (sh_tup DA3.da (s10 _ _ (s9 _ _ (s8 _ _ h7))) (allr.append shc2)) (.cons (.lst ?_ mL allr) (.cons .non (.cons (.int _) (.cons (.dic (kvs := []) ?_ .nil) .nil)))))
        · rw [hid_at oL]; exact s10 _ _ (s9 _ _ h8)
        · rw [hid_at od]; exact s10 _ _ h9
      have fits : ∀ z ∈ ([.tuple es1, .tuple (r.map pD ++ es2), .list (r.map pD), .none, .int 0, .dict []] : List PyData), Fit (10 ^ 32) 1800 3 z := by
        intro z hz
        simp only [List.mem_cons, List.not_mem_nil, or_false] at hz
        rcases hz with rfl | rfl | rfl | rfl | rfl | rfl
        · exact (Fit.tup ft1).mono (Nat.le_refl _) (by omega) (by decide)
        · exact (Fit.tup (frr.app ft2)).mono (Nat.le_refl _) (by omega) (by decide)
        · exact (Fit.lst frr).mono (Nat.le_refl _) (by omega) (by decide)
        · exact ⟨rfl, by decide, by decide⟩
        · exact ⟨rfl, by decide, by decide⟩
        · exact ⟨rfl, by decide, by decide⟩
      obtain ⟨odd, dodd, hodd, shodd, fodd⟩ := pick_sh all fits u0 u1
      refine ⟨.ref ba, rfl, .int (k : Nat), rfl, (k : Int), rfl, slA (tsA _ _ hba) fun q5 H9 s11 h11 => ?_⟩
      rw [cut_to] at h11
      refine ⟨.ref C, rfl, .int spo, rfl, C, _, spo, odd, rfl, rfl, SqL.of (s11 _ _ h10), hodd, sl1, fun t2 nt2 => ?_⟩
      have s12 := same_upd (o := (HO.tup [odd])) nt2
      have h12 : upd H9 t2 (HO.tup [odd]) t2 = some (HO.tup [odd]) := upd_same
      generalize upd H9 t2 (HO.tup [odd]) = A4 at s12 h12 ⊢
      refine catA (s12 _ _ h11) h12 ?_ fun q6 H11 s13 h13 => ?_
      · exact Nat.le_trans (show _ ≤ 100 by simp only [List.length_append, List.length_take, List.length_drop, List.length_cons, List.length_nil]; omega) s100
      refine ⟨.ref ba, rfl, .int (k : Nat), rfl, _, _, rfl, rfl, ((k + 1 : Nat) : Int), rfl, slAn (s13 _ _ (s12 _ _ (s11 _ _ (tsA _ _ hba)))) fun q7 H12 s14 h14 => ?_⟩
      rw [cut_from] at h14
      refine catA (s14 _ _ h13) h14 ?_ fun q8 H13 s15 h15 => ?_
      · exact Nat.le_trans (show _ ≤ 100 by simp only [List.length_append, List.length_take, List.length_drop, List.length_cons, List.length_nil]; omega) s100
      have sX := (((s11.trans s12).trans s13).trans s14).trans s15
      exact fin H13 q8 _ _ ((DA3.same sX).mono (by omega)) ((fr04.trans (Fr.of s4A)).trans (Fr.of sX)) (tsA.trans (Ts.same sX)) h15 (shodd.same (hid_same sX)) fodd
    · -- all of them otherwise
      refine ⟨.ref ba, rfl, 1, rfl, (-1), rfl, slA (ts4 _ _ hba) fun q1 H5 s5 h5 => ?_⟩
      refine ⟨.ref ba, rfl, .ref ba, rfl, (1 : Int), rfl, slA (s5 _ _ (ts4 _ _ hba)) fun q2 H6 s6 h6 => ?_⟩
      rw [show (1 : Int) = ((1 : Nat) : Int) from rfl, cut_to] at h6
      have s46 := s5.trans s6
      refine catA (s46 _ _ (ts4 _ _ hba)) h6 ?_ fun q3 H7 s7 h7 => ?_
      · exact Nat.le_trans (show _ ≤ 100 by rw [List.length_take]; omega) s100
      have s47 := s46.trans s7
      refine ⟨.ref ba, rfl, ba, bx, rfl, SqT.of (s47 _ _ (ts4 _ _ hba)), fun L nL mL => ?_⟩
      have s8 := same_upd (o := (HO.lst bx)) nL
      have h8 : upd H7 L (HO.lst bx) L = some (HO.lst bx) := upd_same
      generalize upd H7 L (HO.lst bx) = A1 at s8 h8 ⊢
      refine ⟨.ref ba, rfl, sl1, fun w1 nw => ?_⟩
      have s9 := same_upd (o := (HO.tup [V.ref ba])) nw
      have h9 : upd A1 w1 (HO.tup [V.ref ba]) w1 = some (HO.tup [V.ref ba]) := upd_same
      generalize upd A1 w1 (HO.tup [V.ref ba]) = A2 at s9 h9 ⊢
      refine ⟨by show 6 ≤ sizeLine; decide, fun C nC => ?_⟩
      have s10 := same_upd (o := (HO.lst [V.ref q1, V.ref q3, V.ref L, V.non, V.str (Str.ofString "bounds"), V.ref w1])) nC
      have h10 : upd A2 C (HO.lst [V.ref q1, V.ref q3, V.ref L, V.non, V.str (Str.ofString "bounds"), V.ref w1]) C = some (HO.lst [V.ref q1, V.ref q3, V.ref L, V.non, V.str (Str.ofString "bounds"), V.ref w1]) := upd_same
      generalize upd A2 C (HO.lst [V.ref q1, V.ref q3, V.ref L, V.non, V.str (Str.ofString "bounds"), V.ref w1]) = A3 at s10 h10 ⊢
      have s4A := ((s47.trans s8).trans s9).trans s10
      have DA3 := D4.same s4A
      have tsA := ts4.trans (Ts.same s4A)
      have allb := (tbx.ts tsA nls).shD DA3.da nls
      have frb := fit_rs bs okr
      refine ⟨.int way, rfl, rfl, _, rfl, ite2 (fun _ => ?_) (fun _ => ?_)⟩
      · obtain ⟨es1, shc1, ft1⟩ := sh_cut (lo := none) (hi := some (-1)) allb frb
        have oL := (D4.same s47).out nL
        have all : ShAll (hid [d, l] A3) [V.ref q1, V.ref q3, V.ref L, V.non, V.str (Str.ofString "bounds"), V.ref w1] [.tuple es1, .tuple (bs.map rD ++ (bs.map rD).take 1), .list (bs.map rD), .none, .str (Str.ofString "bounds"), .tuple [bsD bs]] := by
          refine .cons (sh_tup DA3.da (s10 _ _ (s9 _ _ (s8 _ _ (s7 _ _ (s6 _ _ h5))))) shc1) (.cons (sh_tup DA3.da (s10 _ _ (s9 _ _ (s8 _ _ h7))) (allb.append (allb.take 1))) (.cons (.lst ?_ mL allb) (.cons .non (.cons (.str _) (.cons (sh_tup DA3.da (s10 _ _ h9) (.cons (sh_tup DA3.da (tsA _ _ hba) allb) .nil)) .nil)))))
          rw [hid_at oL]; exact s10 _ _ (s9 _ _ h8)
        have fits : ∀ z ∈ ([.tuple es1, .tuple (bs.map rD ++ (bs.map rD).take 1), .list (bs.map rD), .none, .str (Str.ofString "bounds"), .tuple [bsD bs]] : List PyData), Fit (10 ^ 32) 30000 6 z := by
          intro z hz
          simp only [List.mem_cons, List.not_mem_nil, or_false] at hz
          rcases hz with rfl | rfl | rfl | rfl | rfl | rfl
          · exact (Fit.tup ft1).mono (Nat.le_refl _) (by omega) (by decide)
          · exact (Fit.tup (frb.app (fit_rtake okr 1))).mono (Nat.le_refl _) (by omega) (by decide)
          · exact (Fit.lst frb).mono (Nat.le_refl _) (by omega) (by decide)
          · exact ⟨rfl, by decide, by decide⟩
          · exact ⟨by decide +kernel, by decide +kernel, by decide +kernel⟩
          · exact (Fit.tup (FitL.one (Fit.tup frb))).mono (Nat.le_refl _) (by omega) (by decide)
        obtain ⟨odd, dodd, hodd, shodd, fodd⟩ := pick_sh all fits u0 u1
        exact ⟨.ref C, rfl, .int spo, rfl, C, _, spo, odd, rfl, rfl, SqL.of h10, hodd, q _ _ _ (DA3.mono (by omega)) (fr04.trans (Fr.of s4A)) shodd fodd⟩
      · refine ⟨.ref ba, rfl, .int (k : Nat), rfl, (k : Int), rfl, slA (tsA _ _ hba) fun q5 H9 s11 h11 => ?_⟩
        rw [cut_to] at h11
        refine ⟨.ref ba, rfl, .int (k : Nat), rfl, _, _, rfl, rfl, ((k + 1 : Nat) : Int), rfl, slAn (s11 _ _ (tsA _ _ hba)) fun q7 H12 s14 h14 => ?_⟩
        rw [cut_from] at h14
        refine catA (s14 _ _ h11) h14 ?_ fun q8 H13 s15 h15 => ?_
        · exact Nat.le_trans (show _ ≤ 100 by simp only [List.length_append, List.length_take, List.length_drop, List.length_cons, List.length_nil]; omega) s100
        have sY := (s11.trans s14).trans s15
        refine ⟨.ref ba, rfl, .int (k : Nat), rfl, (k : Int), rfl, .int (k : Nat), rfl, _, _, rfl, rfl, ((k + 1 : Nat) : Int), rfl, slA (sY _ _ (tsA _ _ hba)) fun q9 H14 s16 h16 => ?_⟩
        rw [cut_at (by omega)] at h16
        refine catA (s16 _ _ h15) h16 ?_ fun q10 H15 s17 h17 => ?_
        · exact Nat.le_trans (show _ ≤ 100 by simp only [List.length_append, List.length_take, List.length_drop, List.length_cons, List.length_nil]; omega) s100
        have sX := (sY.trans s16).trans s17
        have DZ := DA3.same sX
        have allz := (tbx.ts (tsA.trans (Ts.same sX)) nls).shD DZ.da nls
        refine q _ _ _ (DZ.mono (by omega)) ((fr04.trans (Fr.of s4A)).trans (Fr.of sX)) (sh_tup DZ.da h17 (((allz.take k).append (allz.drop (k + 1))).append ((allz.drop k).take 1))) ?_
        exact (Fit.tup (((fit_rtake okr k).app (fit_rdrop okr (k + 1))).app (fit_rone okr k))).mono (Nat.le_refl _) (by omega) (by decide)

end
end Gk

set_option Elab.async false
set_option linter.all false
set_option maxRecDepth 100000
set_option maxHeartbeats 2000000
set_option pp.maxSteps 1500
set_option pp.deepTerms false
namespace Gk
open PySem PySem.Spec PyProof.Rows L2
mutual
theorem Tk.sh {H : Hp} : ∀ {v : V} {d : PyData}, Tk H v d → noL d = true → Sh H v d
  | _, _, .bl b, _ => .bl b
  | _, _, .int i, _ => .int i
  | _, _, .str x, _ => .str x
  | _, _, .lst h t, n => by cases n
  | _, _, .tup h t, n => .tup h (t.sh n)
theorem TkAll.sh {H : Hp} : ∀ {vs : List V} {ds : List PyData}, TkAll H vs ds → noLs ds = true → ShAll H vs ds
  | _, _, .nil, _ => .nil
  | _, _, .cons (d := d) (ds := ds) h t, n => by
    have n' : noL d = true ∧ noLs ds = true := Bool.and_eq_true_iff.mp n
    exact .cons (h.sh n'.1) (t.sh n'.2)
end

section
variable {P : Program} {w : World} {K : PySem.W.Frag} {mg : Str → Option Value} {base : Heap}
theorem tab_frB {H H' : Hp} {d l P : Addr} {n : Int} (D : DeckB H d l n) (f : Fr d l H H') (t : GxR.TabG H P) : GxR.TabG H' P := by
  obtain ⟨ps, e, tr⟩ := t
  obtain ⟨ne, cs, z, y, hd, hl, r⟩ := D
  exact ⟨ps, f _ _ (ne_of e hd (by intro z; cases z)) (ne_of e hl (by intro z; cases z)) e, tr⟩
theorem Tabs.frB {H H' : Hp} {Ps : List Addr} {d l : Addr} {n : Int} (t : Tabs H Ps) (D : DeckB H d l n) (f : Fr d l H H') : Tabs H' Ps := fun P hP => tab_frB D f (t P hP)
theorem Tabs.gr {H H' : Hp} {Ps : List Addr} (t : Tabs H Ps) (g : Gr H H') : Tabs H' Ps := fun P hP => g.2 _ (t P hP)
theorem zok_all {α β : Type} {R : α → β → Prop} {as : List α} {bs : List β} {f : β × PyData → Bool} {g : α → PyData} (z : Zok R as bs) (h : ∀ a b, R a b → f (b, g a) = true) : (bs.zip (as.map g)).all f = true := by
  refine List.all_eq_true.mpr fun y hy => ?_
  obtain ⟨j, hj⟩ := List.getElem?_of_mem hy
  rw [List.getElem?_zip_eq_some, List.getElem?_map] at hj
  obtain ⟨hb, ha⟩ := hj
  obtain ⟨a, ha, e⟩ := Option.map_eq_some_iff.mp ha
  have := h a y.1 (z j a y.1 ha hb)
  rw [e] at this
  exact this
theorem bounds_ok {m : Nat} {gs : List Gt} {bs : List BR} (h : BsOk m gs bs) : boundsD m gs (bsD bs) = true := by
  show (decide ((bs.map rD).length = gs.length) && (gs.zip (bs.map rD)).all fun z => gateBD m z.1.2 z.2) = true
  rw [decide_eq_true (by rw [List.length_map]; exact h.1), Bool.true_and]
  refine zok_all h.2 fun r g ok => ?_
  show (decide ((r.map pD).length = g.2.length) && (g.2.zip (r.map pD)).all fun z => wireBD m z.1 z.2) = true
  rw [decide_eq_true (by rw [List.length_map]; exact ok.1), Bool.true_and]
  refine zok_all ok.2 fun p k b => ?_
  show ((decide (0 ≤ p.1) && decide (p.1 ≤ p.2)) && (decide (k < m) || decide (p.1 = p.2))) = true
  rw [decide_eq_true b.1, decide_eq_true b.2.1]
  rcases b.2.2.2 with z | z
  · rw [decide_eq_true z]; rfl
  · rw [decide_eq_true z, Bool.or_true]; rfl
def sp_law (K : PySem.W.Frag) (Ps : List Addr) : Sp := fun vs H Q _ => ∃ (a : Addr) (ns : List Int), vs = [.ref a] ∧ SqL K H a (ns.map V.int) ∧ ns.length ≤ 63 ∧ Tabs H Ps ∧ ∀ H', Q (.bl true) H'
theorem ok_law (T : Tx K mg) (B : Tb base T) : FnG P w K mg base CX0 7 T.f_law T.fd_law ["_law_script"] (sp_law K T.tabs) := by
  refine okG0 T.F_law sc_law (fun vs H Q E h => ?_) (fun cdv A outer s H vs Q E nothing hr h => ?_)
  · obtain ⟨a, ns, rfl, _⟩ := h
    rfl
  · obtain ⟨a, ns, rfl, hS, hlen, tabs, q⟩ := h
    refine ⟨_, (pss_cons (ps_set (i := 1) sc_law.nd rfl (by first | exact .inl rfl | exact .inr rfl) (pe_call (ok_deck T) (hr.mono (by decide)) (by rfl) T.g_deck T.F_deck.kp T.b_deck .nil pass0 (pa_cons (pv 0) pa_nil))) (pss_cons (ps_for PassesOwn.never rfl (pi_range1 (by rfl) T.m_range (pa_cons pe_int pa_nil)) (pg_name (i := 2) sc_law.nd rfl (by first | exact .inl rfl | exact .inr rfl)) (pss_cons (ps_set (i := 3) sc_law.nd rfl (by first | exact .inl rfl | exact .inr rfl) (pe_call (ok_draw T) (hr.mono (by decide)) (by rfl) T.g_draw T.F_draw.kp T.b_draw .nil pass0 (pa_cons (pv 1) (pa_cons pe_int pa_nil)))) (pss_cons (ps_set (i := 4) sc_law.nd rfl (by first | exact .inl rfl | exact .inr rfl) (pe_ix ix_list (pe_lst (pa_cons (pe_op op_add pe_int (pe_call (ok_draw T) (hr.mono (by decide)) (by rfl) T.g_draw T.F_draw.kp T.b_draw .nil pass0 (pa_cons (pv 1) (pa_cons pe_int pa_nil)))) (pa_cons pe_int pa_nil))) (pe_callTy call_int1 (by rfl) T.m_int (by decide +kernel) (pa_cons (pe_cmpR op_eq (pv 3) pe_int (nomark _)) pa_nil)) (fun _ _ => rfl))) (pss_cons (ps_set (i := 5) sc_law.nd rfl (by first | exact .inl rfl | exact .inr rfl) (pe_op op_add pe_int (pe_call (ok_draw T) (hr.mono (by decide)) (by rfl) T.g_draw T.F_draw.kp T.b_draw .nil pass0 (pa_cons (pv 1) (pa_cons pe_int pa_nil))))) (pss_cons (ps_set (i := 6) sc_law.nd rfl (by first | exact .inl rfl | exact .inr rfl) (pe_call (ok_small T) (hr.mono (by decide)) (by rfl) T.g_small T.F_small.kp T.b_small .nil pass0 (pa_cons (pv 1) (pa_cons (pv 5) (pa_cons (pv 4) (pa_cons pe_int pa_nil)))))) (pss_cons (ps_set (i := 7) sc_law.nd rfl (by first | exact .inl rfl | exact .inr rfl) (pe_ix ix_list (pe_lst (pa_cons pe_int (pa_cons (pe_op op_pow pe_int pe_int) pa_nil))) (pe_call (ok_draw T) (hr.mono (by decide)) (by rfl) T.g_draw T.F_draw.kp T.b_draw .nil pass0 (pa_cons (pv 1) (pa_cons pe_int pa_nil))) (fun _ _ => rfl))) (pss_cons (ps_set (i := 8) sc_law.nd rfl (by first | exact .inl rfl | exact .inr rfl) (pe_call (ok_bounds T) (hr.mono (by decide)) (by rfl) T.g_bounds T.F_bounds.kp T.b_bounds .nil pass0 (pa_cons (pv 1) (pa_cons (pv 6) (pa_cons (pv 7) (pa_cons (pv 7) (pa_cons (pe_op op_mulW (pe_op op_mulW (pv 7) (pv 7)) (pe_op op_pow pe_int pe_int)) pa_nil))))))) (pss_cons (ps_if (pt_cmpR op_isnot_bl (pe_call (ok_is_bounds T B) (hr.mono (by decide)) (by rfl) T.g_is_bounds T.F_is_bounds.kp T.b_is_bounds .nil pass0 (pa_cons (pv 6) (pa_cons (pv 8) pa_nil))) pe_bl (nomark _)) (pss_one (ps_ret pe_bl)) pss_nil) (pss_cons (ps_for PassesOwn.never rfl (pi_range1 (by rfl) T.m_range (pa_cons pe_int pa_nil)) (pg_name (i := 9) sc_law.nd rfl (by first | exact .inl rfl | exact .inr rfl)) (pss_cons (ps_set (i := 10) sc_law.nd rfl (by first | exact .inl rfl | exact .inr rfl) (pe_call (ok_otherwise T) (hr.mono (by decide)) (by rfl) T.g_otherwise T.F_otherwise.kp T.b_otherwise .nil pass0 (pa_cons (pv 1) (pa_cons (pv 6) (pa_cons (pv 8) pa_nil))))) (pss_cons (ps_set (i := 11) sc_law.nd rfl (by first | exact .inl rfl | exact .inr rfl) (pe_callB (call_repr nothing hr.units) (by rfl) T.m_repr (by decide +kernel) (pa_cons (pv 10) pa_nil))) (pss_cons (ps_set (i := 12) sc_law.nd rfl (by first | exact .inl rfl | exact .inr rfl) (pe_call (ok_is_bounds T B) (hr.mono (by decide)) (by rfl) T.g_is_bounds T.F_is_bounds.kp T.b_is_bounds .nil pass0 (pa_cons (pv 6) (pa_cons (pv 10) pa_nil)))) (pss_one (ps_if (pw_or (pt_not (pt_val (pe_callB call_isi (by rfl) T.m_isinstance (by decide +kernel) (pa_cons (pv 12) (pa_cons (pe_bltn (v := .ty "bool") (u := .type "bool") (by rfl) T.m_bool (by decide +kernel) rfl) pa_nil))))) (pw_or (pt_cmpR op_ne (pv 12) (pe_call (ok_due T) (hr.mono (by decide)) (by rfl) T.g_due T.F_due.kp T.b_due .nil pass0 (pa_cons (pv 6) (pa_cons (pv 10) pa_nil))) (nomark _)) (pw_or1 (pt_cmpR op_ne (pe_callB (call_repr nothing hr.units) (by rfl) T.m_repr (by decide +kernel) (pa_cons (pv 10) pa_nil)) (pv 11) (nomark _))))).pt (pss_one (ps_ret pe_bl)) pss_nil)))))) (pss_one (ps_if (pt_cmpR op_isnot_bl (pe_call (ok_is_bounds T B) (hr.mono (by decide)) (by rfl) T.g_is_bounds T.F_is_bounds.kp T.b_is_bounds .nil pass0 (pa_cons (pv 6) (pa_cons (pv 8) pa_nil))) pe_bl (nomark _)) (pss_one (ps_ret pe_bl)) pss_nil))))))))))) (pss_one (ps_ret pe_bl)))), ?_⟩
    refine ⟨.ref a, rfl, a, ns, rfl, hS, hlen, fun H1 d l s1 D1 => ?_⟩
    have t1 : Tabs H1 T.tabs := tabs.gr (Gr.of s1)
    refine ⟨4, rfl, by decide, by decide, for_range (lo := 0) (n := (4 : Int).toNat) (fun i σ H' => ∃ y2 y3 y4 y5 y6 y7 y8 y9 y10 y11 y12, σ = [some (.ref a), some (.ref d), y2, y3, y4, y5, y6, y7, y8, y9, y10, y11, y12] ∧ DeckB H' d l (32000 * i) ∧ Tabs H' T.tabs)
      ⟨_, _, _, _, _, _, _, _, _, _, _, rfl, D1.mono (by omega), t1⟩ ?_ ?_⟩
    · rintro i σ H2 hi ⟨y2, y3, y4, y5, y6, y7, y8, y9, y10, y11, y12, rfl, D2, t2⟩
      have hi' : i < 4 := hi
      refine ⟨.ref d, rfl, d, l, 8, _, rfl, D2, by omega, by decide, by decide, fun H3 g D3 fr3 g0 g1 => ?_⟩
      have t3 := t2.frB D2 fr3
      refine ⟨.ref d, rfl, d, l, 7, _, rfl, D3, by omega, by decide, by decide, fun H4 c D4 fr4 c0 c1 => ?_⟩
      have t4 := t3.frB D3 fr4
      refine ⟨_, _, rfl, rfl, sl2, fun p np => ?_⟩
      have s5 := same_upd (o := (HO.lst [V.int (1 + c), V.int 40])) np
      have h5 : upd H4 p (HO.lst [V.int (1 + c), V.int 40]) p = some (HO.lst [V.int (1 + c), V.int 40]) := upd_same
      generalize upd H4 p (HO.lst [V.int (1 + c), V.int 40]) = A1 at s5 h5 ⊢
      have hcnt : ∃ cnt : Nat, atI [V.int (1 + c), V.int 40] (if decide (V.int g = V.int 5) = true then 1 else 0) = some (.int (cnt : Nat)) ∧ 1 ≤ cnt ∧ cnt ≤ 40 := by
        split
        · exact ⟨40, rfl, by decide, by decide⟩
        · refine ⟨(1 + c).toNat, ?_, by omega, by omega⟩
          show some (V.int (1 + c)) = _
          rw [show (((1 + c).toNat : Nat) : Int) = 1 + c by omega]
      obtain ⟨cnt, hcnt, cn1, cn40⟩ := hcnt
      refine ⟨.int g, rfl, rfl, .inr ⟨_, rfl, p, _, _, .int (cnt : Nat), rfl, rfl, SqL.of h5, hcnt, ?_⟩⟩
      have D5 := D4.same s5
      have t5 := t4.gr (Gr.of s5)
      refine ⟨.ref d, rfl, d, l, 6, _, rfl, D5, by omega, by decide, by decide, fun H6 v6 D6 fr6 c2 c3 => ?_⟩
      have t6 := t5.frB D5 fr6
      refine ⟨_, _, rfl, rfl, ?_⟩
      have hm : ∃ m : Nat, 1 + v6 = (m : Int) ∧ 1 ≤ m ∧ m ≤ 6 := ⟨(1 + v6).toNat, by omega, by omega, by omega⟩
      obtain ⟨m, em, m1, m6⟩ := hm
      dsimp only
      rw [em]
      refine ⟨.ref d, rfl, .int (m : Nat), rfl, .int (cnt : Nat), rfl, d, l, _, m, cnt, rfl, D6, by omega, m1, m6, cn40, fun r H7 gs D7 fr7 tn7 lg nok => ?_⟩
      have t7 := t6.frB D6 fr7
      refine ⟨_, _, rfl, rfl, ⟨by decide, by decide, by decide⟩, sl2, fun p2 np2 => ?_⟩
      have s8 := same_upd (o := (HO.lst [V.int 10, V.int (10 ^ (30 : Int).toNat)])) np2
      have h8 : upd H7 p2 (HO.lst [V.int 10, V.int (10 ^ (30 : Int).toNat)]) p2 = some (HO.lst [V.int 10, V.int (10 ^ (30 : Int).toNat)]) := upd_same
      generalize upd H7 p2 (HO.lst [V.int 10, V.int (10 ^ (30 : Int).toNat)]) = A2 at s8 h8 ⊢
      have D8 := D7.same s8
      have t8 := t7.gr (Gr.of s8)
      have tn8 := tn7.same s8
      have o8 := D7.off np2
      refine ⟨.ref d, rfl, d, l, 2, _, rfl, D8, by omega, by decide, by decide, fun H9 fv D9 fr9 f0 f1 => ?_⟩
      have t9 := t8.frB D8 fr9
      have tn9 := tn8.ts (Ts.fr D8 fr9) (noL_net m gs)
      have hfar : ∃ far : Int, atI [V.int 10, V.int (10 ^ (30 : Int).toNat)] fv = some (.int far) ∧ 1 ≤ far ∧ far ≤ 1000000000000000000000000000000 := by
        have : fv = 0 ∨ fv = 1 := by omega
        rcases this with rfl | rfl
        · exact ⟨10, rfl, by decide, by decide⟩
        · exact ⟨_, rfl, by decide, by decide⟩
      obtain ⟨far, hfar, far1, far2⟩ := hfar
      refine ⟨p2, _, fv, .int far, rfl, rfl, SqL.of (fr9 _ _ o8.1 o8.2 h8), hfar, ?_⟩
      have w1 : far.natAbs < 2 ^ 100 := Nat.lt_of_le_of_lt (show far.natAbs ≤ 1000000000000000000000000000000 by omega) (by decide)
      have w2 : (far * far).natAbs < 2 ^ 200 := wide_lt w1 w1
      refine ⟨.ref d, rfl, .ref r, rfl, .int far, rfl, .int far, rfl, .int far, rfl, .int far, rfl, far, far, rfl, rfl, wide_mul w1 w1 (by decide) (by decide) (by decide), _, _, rfl, rfl, ⟨by decide, by decide, by decide⟩, _, _, rfl, rfl, wide_mul (b := 100) w2 (by decide) (by decide) (by decide) (by decide), ?_⟩
      refine ⟨d, l, r, _, far, _, m, gs, rfl, D9, by omega, tn9, nok, by omega, far1, far2, fun H10 v10 bs D10 fr10 tb10 bok => ?_⟩
      have t10 := t9.frB D9 fr10
      have tn10 := tn9.ts (Ts.fr D9 fr10) (noL_net m gs)
      obtain ⟨ba, _, rfl, _, _⟩ := id tb10.tup_inv
      have okr := bs_S nok bok
      have lbs := bok.1
      refine ⟨.ref r, rfl, .ref ba, rfl, m, gs, .ref r, .ref ba, bsD bs, rfl, tn10, tb10.sh (noL_bs bs), t10 _ (by simp [Tx.tabs]), t10 _ (by simp [Tx.tabs]), fun H11 g11 => ?_⟩
      rw [bounds_ok bok]
      refine ⟨_, _, rfl, rfl, _, rfl, iteF ?_⟩
      have D11 := D10.gr g11
      have t11 := t10.gr g11
      have tn11 := tn10.gr g11
      have tb11 := tb10.gr g11
      refine ⟨6, rfl, by decide, by decide, for_range (lo := 0) (n := (6 : Int).toNat) (fun j σ H' => ∃ y9 y10 y11 y12, σ = [some (.ref a), some (.ref d), some (.int (0 + (i : Nat))), some (.int g), some (.int (cnt : Nat)), some (.int (m : Nat)), some (.ref r), some (.int far), some (.ref ba), y9, y10, y11, y12] ∧ DeckB H' d l (32000 * i + 31000 + 10 * j) ∧ Tabs H' T.tabs ∧ Tk H' (.ref r) (netD m gs) ∧ Tk H' (.ref ba) (bsD bs))
        ⟨_, _, _, _, rfl, D11.mono (by omega), t11, tn11, tb11⟩ ?_ ?_⟩
      · rintro j σ H12 hj ⟨y9, y10, y11, y12, rfl, D12, t12, tn12, tb12⟩
        have hj' : j < 6 := hj
        refine ⟨.ref d, rfl, .ref r, rfl, .ref ba, rfl, d, l, ba, _, .ref r, bs, rfl, D12, by omega, tb12, okr, by omega, by omega, fun v H13 dd D13 fr13 sh13 ft => ?_⟩
        have t13 := t12.frB D12 fr13
        have tn13 := tn12.ts (Ts.fr D12 fr13) (noL_net m gs)
        have tb13 := tb12.ts (Ts.fr D12 fr13) (noL_bs bs)
        obtain ⟨f1, f2, f3⟩ := ft.fine (by decide) (by decide) (by decide)
        have shv : Sh H13 v dd := sh13.same hid_le
        refine ⟨v, rfl, v, dd, rfl, shv, f1, f2, f3, ?_⟩
        refine ⟨.ref r, rfl, v, rfl, m, gs, .ref r, v, dd, rfl, tn13, shv, t13 _ (by simp [Tx.tabs]), t13 _ (by simp [Tx.tabs]), fun H14 g14 => ?_⟩
        have sh14 := shv.gr g14
        refine ⟨.bl (boundsD m gs dd), rfl, _, _, _, _, _, rfl, .ty _, (show Sh H14 (.bl (boundsD m gs dd)) (.bool (boundsD m gs dd)) from .bl _).ty, kit_ty (kitBool (.bool (boundsD m gs dd))), _, rfl, iteF ?_⟩
        refine ⟨.bl (boundsD m gs dd), rfl, .ref r, rfl, v, rfl, m, gs, .ref r, v, dd, rfl, tn13.gr g14, sh14, fun H15 s15 => ?_⟩
        have g15 := g14.trans (Gr.of s15)
        refine ⟨rfl, _, rfl, ?_⟩
        rw [show (!decide (V.bl (boundsD m gs dd) = V.bl (boundsD m gs dd))) = false by rw [decide_eq_true rfl]; rfl]
        refine iteF ?_
        refine ⟨v, rfl, v, dd, rfl, shv.gr g15, f1, f2, f3, .str dd.shown, rfl, rfl, _, rfl, ?_⟩
        rw [show (!decide (V.str dd.shown = V.str dd.shown)) = false by rw [decide_eq_true rfl]; rfl]
        refine iteF ?_
        exact ⟨_, _, _, _, rfl, (D13.gr g15).mono (by push_cast; omega), t13.gr g15, tn13.gr g15, tb13.gr g15⟩
      · rintro σ H12 ⟨y9, y10, y11, y12, rfl, D12, t12, tn12, tb12⟩
        refine ⟨.ref r, rfl, .ref ba, rfl, m, gs, .ref r, .ref ba, bsD bs, rfl, tn12, tb12.sh (noL_bs bs), t12 _ (by simp [Tx.tabs]), t12 _ (by simp [Tx.tabs]), fun H13 g13 => ?_⟩
        rw [bounds_ok bok]
        refine ⟨_, _, rfl, rfl, _, rfl, iteF ?_⟩
        exact ⟨_, _, _, _, _, _, _, _, _, _, _, rfl, (D12.gr g13).mono (by show 32000 * (i : Int) + 31000 + 10 * ((6 : Int).toNat : Nat) ≤ 32000 * ((i + 1 : Nat) : Int); push_cast; omega), t12.gr g13⟩
    · rintro σ H2 _
      exact q H2

end
def d_is_whole : He.DefD := ⟨("is_whole", none), "is_whole", "is_whole", defArgs s_is_whole, defBody s_is_whole, defScope s_is_whole, [], []⟩
def d_is_bounds : He.DefD := ⟨("is_bounds", none), "is_bounds", "is_bounds", defArgs s_is_bounds, defBody s_is_bounds, defScope s_is_bounds, [], []⟩
def d_is_gate_bounds : He.DefD := ⟨("is_gate_bounds", none), "is_gate_bounds", "is_gate_bounds", defArgs s_is_gate_bounds, defBody s_is_gate_bounds, defScope s_is_gate_bounds, [], []⟩
def d_is_bound : He.DefD := ⟨("is_bound", none), "is_bound", "is_bound", defArgs s_is_bound, defBody s_is_bound, defScope s_is_bound, [], []⟩
def d_deck : He.DefD := ⟨("_law_deck", none), "_law_deck", "_law_deck", defArgs s_deck, defBody s_deck, defScope s_deck, [], []⟩
def d_draw : He.DefD := ⟨("_law_draw", none), "_law_draw", "_law_draw", defArgs s_draw, defBody s_draw, defScope s_draw, [], []⟩
def d_table : He.DefD := ⟨("_law_table", none), "_law_table", "_law_table", defArgs s_table, defBody s_table, defScope s_table, [], []⟩
def d_small : He.DefD := ⟨("_law_small", none), "_law_small", "_law_small", defArgs s_small, defBody s_small, defScope s_small, [], []⟩
def d_great : He.DefD := ⟨("_law_great", none), "_law_great", "_law_great", defArgs s_great, defBody s_great, defScope s_great, [], []⟩
def d_bounds : He.DefD := ⟨("_law_bounds", none), "_law_bounds", "_law_bounds", defArgs s_bounds, defBody s_bounds, defScope s_bounds, [], []⟩
def d_whole : He.DefD := ⟨("_law_whole", none), "_law_whole", "_law_whole", defArgs s_whole, defBody s_whole, defScope s_whole, [], []⟩
def d_due : He.DefD := ⟨("_law_due", none), "_law_due", "_law_due", defArgs s_due, defBody s_due, defScope s_due, [], []⟩
def d_pair_otherwise : He.DefD := ⟨("_law_pair_otherwise", none), "_law_pair_otherwise", "_law_pair_otherwise", defArgs s_pair_otherwise, defBody s_pair_otherwise, defScope s_pair_otherwise, [], []⟩
def d_otherwise : He.DefD := ⟨("_law_otherwise", none), "_law_otherwise", "_law_otherwise", defArgs s_otherwise, defBody s_otherwise, defScope s_otherwise, [], []⟩
def d_law : He.DefD := ⟨("law", none), "law", "law", defArgs s_law, defBody s_law, defScope s_law, [], []⟩
def fn : List He.DefD := [d_is_whole, d_is_bounds, d_is_gate_bounds, d_is_bound, d_deck, d_draw, d_table, d_small, d_great, d_bounds, d_whole, d_due, d_pair_otherwise, d_otherwise, d_law]
def fa : List He.Fa := [.glo "is_whole", .glo "is_bounds", .glo "is_gate_bounds", .glo "is_bound", .glo "_law_deck", .glo "_law_draw", .glo "_law_table", .glo "_law_small", .glo "_law_great", .glo "_law_bounds", .glo "_law_whole", .glo "_law_due", .glo "_law_pair_otherwise", .glo "_law_otherwise", .glo "law", .free "all", .free "bool", .free "enumerate", .free "int", .free "isinstance", .free "len", .free "list", .free "min", .free "range", .free "repr", .free "str", .free "sum", .free "tuple", .free "zip"]
def tf : List He.Defn := [("is_bounds", none), ("is_gate_bounds", none)]
abbrev RR : PySem.W.OpenRow := PySem.W.OpenLaw.row PySem.Challenge.rw_glitchnet_k65_what_are_bounds
def yes : PySem.W.Frag → Bool := fun _ => true
abbrev hk : PySem.W.Hook := He.hookX 4 fa fn [] tf yes
def ob (s : PySem.W.SharedT) : He.AlX := He.obsX 4 fa fn [] tf yes (HandSHeadRun.getT s)
theorem ob_eq (s : PySem.W.SharedT) : ob s = hk.obs s.abs := He.obsX_eq (HandSHeadRun.getT_eq s)
theorem run (w : World) : HandSHeadRun.RunEq RR (PySem.W.view RR.prog [17]) hk ob 3000 [("is_whole" : PySem.Str), ("is_bounds" : PySem.Str), ("is_gate_bounds" : PySem.Str), ("is_bound" : PySem.Str), ("_law_deck" : PySem.Str), ("_law_draw" : PySem.Str), ("_law_table" : PySem.Str), ("_law_small" : PySem.Str), ("_law_great" : PySem.Str), ("_law_bounds" : PySem.Str), ("_law_whole" : PySem.Str), ("_law_due" : PySem.Str), ("_law_pair_otherwise" : PySem.Str), ("_law_otherwise" : PySem.Str)] w := by
  intro os
  kernel_rfl
theorem facts {w : World} {K : PySem.W.Frag} {h : Heap} {mg : Str → Option Value} {f : Addr} (X : K.In h) (G : h.Ns mainGlobals mg) (hfa : mg ("law" : Str) = some (.ref f)) (c : He.SaysX fa fn [] tf yes w h K) : LawAtG PySem.Challenge.rw_glitchnet_k65_what_are_bounds w K CX0 7 63 "_law_script" mg f h := by
  obtain ⟨fd0, D0⟩ := c.t.d.def_ 0 (d := d_is_whole) rfl
  have F0 : Fun K "is_whole" "is_whole" s_is_whole (He.fAd K ("is_whole", none)) fd0 := fun_of D0
  have b0 := F0.binds (ps := ["thing"]) fun _ _ _ _ _ _ us hl => match us, hl with | [_], _ => rfl
  obtain ⟨fd1, D1⟩ := c.t.d.def_ 1 (d := d_is_bounds) rfl
  have F1 : Fun K "is_bounds" "is_bounds" s_is_bounds (He.fAd K ("is_bounds", none)) fd1 := fun_of D1
  have b1 := F1.binds (ps := ["net", "thing"]) fun _ _ _ _ _ _ us hl => match us, hl with | [_, _], _ => rfl
  obtain ⟨fd2, D2⟩ := c.t.d.def_ 2 (d := d_is_gate_bounds) rfl
  have F2 : Fun K "is_gate_bounds" "is_gate_bounds" s_is_gate_bounds (He.fAd K ("is_gate_bounds", none)) fd2 := fun_of D2
  have b2 := F2.binds (ps := ["many", "ins", "thing"]) fun _ _ _ _ _ _ us hl => match us, hl with | [_, _, _], _ => rfl
  obtain ⟨fd3, D3⟩ := c.t.d.def_ 3 (d := d_is_bound) rfl
  have F3 : Fun K "is_bound" "is_bound" s_is_bound (He.fAd K ("is_bound", none)) fd3 := fun_of D3
  have b3 := F3.binds (ps := ["thing"]) fun _ _ _ _ _ _ us hl => match us, hl with | [_], _ => rfl
  obtain ⟨fd4, D4⟩ := c.t.d.def_ 4 (d := d_deck) rfl
  have F4 : Fun K "_law_deck" "_law_deck" s_deck (He.fAd K ("_law_deck", none)) fd4 := fun_of D4
  have b4 := F4.binds (ps := ["_law_script"]) fun _ _ _ _ _ _ us hl => match us, hl with | [_], _ => rfl
  obtain ⟨fd5, D5⟩ := c.t.d.def_ 5 (d := d_draw) rfl
  have F5 : Fun K "_law_draw" "_law_draw" s_draw (He.fAd K ("_law_draw", none)) fd5 := fun_of D5
  have b5 := F5.binds (ps := ["_law_deck_here", "_law_most"]) fun _ _ _ _ _ _ us hl => match us, hl with | [_, _], _ => rfl
  obtain ⟨fd6, D6⟩ := c.t.d.def_ 6 (d := d_table) rfl
  have F6 : Fun K "_law_table" "_law_table" s_table (He.fAd K ("_law_table", none)) fd6 := fun_of D6
  have b6 := F6.binds (ps := ["_law_deck_here", "_law_ins"]) fun _ _ _ _ _ _ us hl => match us, hl with | [_, _], _ => rfl
  obtain ⟨fd7, D7⟩ := c.t.d.def_ 7 (d := d_small) rfl
  have F7 : Fun K "_law_small" "_law_small" s_small (He.fAd K ("_law_small", none)) fd7 := fun_of D7
  have b7 := F7.binds (ps := ["_law_deck_here", "_law_many", "_law_count", "_law_most"]) fun _ _ _ _ _ _ us hl => match us, hl with | [_, _, _, _], _ => rfl
  obtain ⟨fd8, D8⟩ := c.t.d.def_ 8 (d := d_great) rfl
  have F8 : Fun K "_law_great" "_law_great" s_great (He.fAd K ("_law_great", none)) fd8 := fun_of D8
  have b8 := F8.binds (ps := ["_law_deck_here", "_law_most"]) fun _ _ _ _ _ _ us hl => match us, hl with | [_, _], _ => rfl
  obtain ⟨fd9, D9⟩ := c.t.d.def_ 9 (d := d_bounds) rfl
  have F9 : Fun K "_law_bounds" "_law_bounds" s_bounds (He.fAd K ("_law_bounds", none)) fd9 := fun_of D9
  have b9 := F9.binds (ps := ["_law_deck_here", "_law_net", "_law_far", "_law_wide", "_law_most"]) fun _ _ _ _ _ _ us hl => match us, hl with | [_, _, _, _, _], _ => rfl
  obtain ⟨fd10, D10⟩ := c.t.d.def_ 10 (d := d_whole) rfl
  have F10 : Fun K "_law_whole" "_law_whole" s_whole (He.fAd K ("_law_whole", none)) fd10 := fun_of D10
  have b10 := F10.binds (ps := ["_law_thing"]) fun _ _ _ _ _ _ us hl => match us, hl with | [_], _ => rfl
  obtain ⟨fd11, D11⟩ := c.t.d.def_ 11 (d := d_due) rfl
  have F11 : Fun K "_law_due" "_law_due" s_due (He.fAd K ("_law_due", none)) fd11 := fun_of D11
  have b11 := F11.binds (ps := ["_law_net", "_law_thing"]) fun _ _ _ _ _ _ us hl => match us, hl with | [_, _], _ => rfl
  obtain ⟨fd12, D12⟩ := c.t.d.def_ 12 (d := d_pair_otherwise) rfl
  have F12 : Fun K "_law_pair_otherwise" "_law_pair_otherwise" s_pair_otherwise (He.fAd K ("_law_pair_otherwise", none)) fd12 := fun_of D12
  have b12 := F12.binds (ps := ["_law_deck_here", "_law_pair"]) fun _ _ _ _ _ _ us hl => match us, hl with | [_, _], _ => rfl
  obtain ⟨fd13, D13⟩ := c.t.d.def_ 13 (d := d_otherwise) rfl
  have F13 : Fun K "_law_otherwise" "_law_otherwise" s_otherwise (He.fAd K ("_law_otherwise", none)) fd13 := fun_of D13
  have b13 := F13.binds (ps := ["_law_deck_here", "_law_net", "_law_bounds_here"]) fun _ _ _ _ _ _ us hl => match us, hl with | [_, _, _], _ => rfl
  obtain ⟨fd14, D14⟩ := c.t.d.def_ 14 (d := d_law) rfl
  have F14 : Fun K "law" "law" s_law (He.fAd K ("law", none)) fd14 := fun_of D14
  have b14 := F14.binds (ps := ["_law_script"]) fun _ _ _ _ _ _ us hl => match us, hl with | [_], _ => rfl
  have e := hfa.symm.trans (He.glo_ok X G (c.t.d.fact 14 (f := .glo "law") rfl))
  cases e
  let T : Tx K mg := { f_is_whole := _, fd_is_whole := _, F_is_whole := F0, g_is_whole := He.glo_ok X G (c.t.d.fact 0 (f := .glo "is_whole") rfl), b_is_whole := b0, f_is_bounds := _, fd_is_bounds := _, F_is_bounds := F1, g_is_bounds := He.glo_ok X G (c.t.d.fact 1 (f := .glo "is_bounds") rfl), b_is_bounds := b1, c_is_bounds := (He.cT K ("is_bounds", none)).1, P_is_bounds := (He.cT K ("is_bounds", none)).2, cd_is_bounds := code_of F1, f_is_gate_bounds := _, fd_is_gate_bounds := _, F_is_gate_bounds := F2, g_is_gate_bounds := He.glo_ok X G (c.t.d.fact 2 (f := .glo "is_gate_bounds") rfl), b_is_gate_bounds := b2, c_is_gate_bounds := (He.cT K ("is_gate_bounds", none)).1, P_is_gate_bounds := (He.cT K ("is_gate_bounds", none)).2, cd_is_gate_bounds := code_of F2, f_is_bound := _, fd_is_bound := _, F_is_bound := F3, g_is_bound := He.glo_ok X G (c.t.d.fact 3 (f := .glo "is_bound") rfl), b_is_bound := b3, f_deck := _, fd_deck := _, F_deck := F4, g_deck := He.glo_ok X G (c.t.d.fact 4 (f := .glo "_law_deck") rfl), b_deck := b4, f_draw := _, fd_draw := _, F_draw := F5, g_draw := He.glo_ok X G (c.t.d.fact 5 (f := .glo "_law_draw") rfl), b_draw := b5, f_table := _, fd_table := _, F_table := F6, g_table := He.glo_ok X G (c.t.d.fact 6 (f := .glo "_law_table") rfl), b_table := b6, f_small := _, fd_small := _, F_small := F7, g_small := He.glo_ok X G (c.t.d.fact 7 (f := .glo "_law_small") rfl), b_small := b7, f_great := _, fd_great := _, F_great := F8, g_great := He.glo_ok X G (c.t.d.fact 8 (f := .glo "_law_great") rfl), b_great := b8, f_bounds := _, fd_bounds := _, F_bounds := F9, g_bounds := He.glo_ok X G (c.t.d.fact 9 (f := .glo "_law_bounds") rfl), b_bounds := b9, f_whole := _, fd_whole := _, F_whole := F10, g_whole := He.glo_ok X G (c.t.d.fact 10 (f := .glo "_law_whole") rfl), b_whole := b10, f_due := _, fd_due := _, F_due := F11, g_due := He.glo_ok X G (c.t.d.fact 11 (f := .glo "_law_due") rfl), b_due := b11, f_pair_otherwise := _, fd_pair_otherwise := _, F_pair_otherwise := F12, g_pair_otherwise := He.glo_ok X G (c.t.d.fact 12 (f := .glo "_law_pair_otherwise") rfl), b_pair_otherwise := b12, f_otherwise := _, fd_otherwise := _, F_otherwise := F13, g_otherwise := He.glo_ok X G (c.t.d.fact 13 (f := .glo "_law_otherwise") rfl), b_otherwise := b13, f_law := _, fd_law := _, F_law := F14, g_law := He.glo_ok X G (c.t.d.fact 14 (f := .glo "law") rfl), b_law := b14, m_all := He.free_ok X G (c.t.d.fact 15 (f := .free "all") rfl), m_bool := He.free_ok X G (c.t.d.fact 16 (f := .free "bool") rfl), m_enumerate := He.free_ok X G (c.t.d.fact 17 (f := .free "enumerate") rfl), m_int := He.free_ok X G (c.t.d.fact 18 (f := .free "int") rfl), m_isinstance := He.free_ok X G (c.t.d.fact 19 (f := .free "isinstance") rfl), m_len := He.free_ok X G (c.t.d.fact 20 (f := .free "len") rfl), m_list := He.free_ok X G (c.t.d.fact 21 (f := .free "list") rfl), m_min := He.free_ok X G (c.t.d.fact 22 (f := .free "min") rfl), m_range := He.free_ok X G (c.t.d.fact 23 (f := .free "range") rfl), m_repr := He.free_ok X G (c.t.d.fact 24 (f := .free "repr") rfl), m_str := He.free_ok X G (c.t.d.fact 25 (f := .free "str") rfl), m_sum := He.free_ok X G (c.t.d.fact 26 (f := .free "sum") rfl), m_tuple := He.free_ok X G (c.t.d.fact 27 (f := .free "tuple") rfl), m_zip := He.free_ok X G (c.t.d.fact 28 (f := .free "zip") rfl) }
  refine ⟨fd14, tf.map (He.cT K), sp_law K T.tabs, ?_, ?_, ?_, ?_, ?_, ?_⟩
  · rintro p hp
    obtain ⟨d, hd, rfl⟩ := List.mem_map.mp hp
    exact c.empty d hd
  · rintro p hp
    obtain ⟨d, hd, rfl⟩ := List.mem_map.mp hp
    exact c.out d hd
  · rintro p hp
    obtain ⟨d, hd, rfl⟩ := List.mem_map.mp hp
    exact PySem.W.codeHd_of_K X (c.hd d hd)
  · obtain ⟨oc, od, kV, doc, pm, an, cdv, ct, osl, rfl, lk, hcd⟩ := F14.ex
    exact fun s v => .of_eq rfl
  · intro H a ns hl hbits hT hS
    refine ⟨a, ns, rfl, hS, hl, fun P hP => ?_, fun _ => rfl⟩
    have hP : P ∈ (tf.map (He.cT K)).map (·.2) := hP
    obtain ⟨p, hp, rfl⟩ := List.mem_map.mp hP
    exact ⟨#[], hT p hp, by trivial⟩
  · intro base KB GB hTB
    have B : Tb base T := ⟨tab_of (hTB (He.cT K ("is_bounds", none)) (List.mem_map.mpr ⟨_, (show (("is_bounds", none) : He.Defn) ∈ tf by decide), rfl⟩)), tab_of (hTB (He.cT K ("is_gate_bounds", none)) (List.mem_map.mpr ⟨_, (show (("is_gate_bounds", none) : He.Defn) ∈ tf by decide), rfl⟩))⟩
    exact ok_law T B
end Gk
open PySem PySem.W PyProof.Rows
set_option maxRecDepth 100000 in
set_option maxHeartbeats 0 in
theorem PySem.Challenge.cw_glitchnet_k65_what_are_bounds_holds : PySem.Challenge.rw_glitchnet_k65_what_are_bounds.Holds := by
  w_on; o_law
  refine HandSHeadRun.head_any (r := OpenLaw.row PySem.Challenge.rw_glitchnet_k65_what_are_bounds) (q := view (OpenLaw.row PySem.Challenge.rw_glitchnet_k65_what_are_bounds).prog [17]) (H := Gk.hk) (ob := Gk.ob) (M := 3000) (loose := [("is_whole" : PySem.Str), ("is_bounds" : PySem.Str), ("is_gate_bounds" : PySem.Str), ("is_bound" : PySem.Str), ("_law_deck" : PySem.Str), ("_law_draw" : PySem.Str), ("_law_table" : PySem.Str), ("_law_small" : PySem.Str), ("_law_great" : PySem.Str), ("_law_bounds" : PySem.Str), ("_law_whole" : PySem.Str), ("_law_due" : PySem.Str), ("_law_pair_otherwise" : PySem.Str), ("_law_otherwise" : PySem.Str)]) (d := HandSHeadRun.topDef (OpenLaw.row PySem.Challenge.rw_glitchnet_k65_what_are_bounds).prog 17) (kwd := []) Gk.ob_eq
    (by kernel_rfl) (fun s => by kernel_rfl) Gk.run (by kernel_rfl) (by kernel_rfl) (by kernel_rfl) (by rfl) (by first | assumption | decide +kernel) (by decide +kernel) ⟨rfl, rfl, rfl, rfl, rfl, by decide +kernel⟩ ?hw ?hc
  case hw => w_witness2
  case hc =>
    refine Gk.walk_GT (l := PySem.Challenge.rw_glitchnet_k65_what_are_bounds) (n := 63) (k := 7) (x := "_law_script") (CX := fun _ => L2.CX0) rfl (by decide) (by kernel_rfl) ⟨rfl, by decide, by decide⟩ ?F (fun _ _ _ _ _ z => z)
    intro w mg fa h Y G hmg0
    obtain ⟨K, KX, c⟩ := Y
    have hmg : mg ("law" : PySem.Str) = some (.ref fa) := by
      have e : (HandSHeadRun.topDef (OpenLaw.row PySem.Challenge.rw_glitchnet_k65_what_are_bounds).prog 17).name = ("law" : PySem.Str) := by kernel_rfl
      rw [← e]
      exact hmg0
    exact ⟨K, KX, Gk.facts KX G hmg c⟩
