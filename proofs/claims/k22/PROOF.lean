import PyProof.Rows.All
import Wide.All
import OpenK.AllK
import Wide.FinOn
import HandS.ForMost
import HandS.IsInst
import HandS.TupLe
import HandS.TupAny
import HandS.More
import HandS.Codes
import HandS.Conv
import HandS.Deep
import HandS.TupSets
import HandS.Style
import HandS.Strs
import HandS.AnyAll
import HandS.GenList
import HandS.JoinGen
import HandS.Zip
import HandS.Head0
import HandS.Head1
import HandS.Head2
import HandS.HeadEnd
import HandS.HeadHook1
import HandS.HeadHook2
import HandS.HeadHook3
import HandS.HeadHook4
import HandS.HeadWalk
import HandS.Defaults
import HandS.ReplaceLit
import PySem.Challenge.RW_glitchnet_k22_which_nets_are_formulas
set_option Elab.async false
set_option linter.all false
set_option maxRecDepth 100000
set_option maxHeartbeats 1000000
namespace Gk
open PySem PySem.Spec PyProof.Rows L2
/-! ### the text -/
def topS (i : Nat) : Stmt := PySem.Challenge.pw_glitchnet_k22_which_nets_are_formulas.main.body.getD i (.Pass ⟨0, 0, 0, 0⟩)
abbrev s_is_whole : Stmt := topS 1
abbrev s_is_signs : Stmt := topS 2
abbrev s_is_net : Stmt := topS 6
abbrev s_is_gate : Stmt := topS 7
abbrev s_is_formula : Stmt := topS 9
abbrev s_deck : Stmt := topS 11
abbrev s_draw : Stmt := topS 12
abbrev s_table : Stmt := topS 13
abbrev s_formula : Stmt := topS 14
abbrev s_chain : Stmt := topS 15
abbrev s_shared : Stmt := topS 16
abbrev s_net : Stmt := topS 17
abbrev s_due : Stmt := topS 18
abbrev s_otherwise : Stmt := topS 19
abbrev s_right : Stmt := topS 20
abbrev s_law : Stmt := topS 21
theorem sc_is_whole : FnScope ["thing"] ["thing"] (defScope s_is_whole) := ⟨rfl, rfl, rfl, by decide +kernel, rfl, by decide +kernel, by decide +kernel⟩
theorem sc_is_signs : FnScope ["many", "thing", "sign"] ["many", "thing"] (defScope s_is_signs) := ⟨rfl, rfl, rfl, by decide +kernel, rfl, by decide +kernel, by decide +kernel⟩
theorem sc_is_net : FnScope ["thing", "many", "gates", "number", "gate"] ["thing"] (defScope s_is_net) := ⟨rfl, rfl, rfl, by decide +kernel, rfl, by decide +kernel, by decide +kernel⟩
theorem sc_is_gate : FnScope ["wires", "thing", "table", "ins", "wire"] ["wires", "thing"] (defScope s_is_gate) := ⟨rfl, rfl, rfl, by decide +kernel, rfl, by decide +kernel, by decide +kernel⟩
theorem sc_is_formula : FnScope ["net", "many", "gates", "read", "table", "ins", "wire"] ["net"] (defScope s_is_formula) := ⟨rfl, rfl, rfl, by decide +kernel, rfl, by decide +kernel, by decide +kernel⟩
theorem sc_deck : FnScope ["_law_script", "_law_cells", "_law_k", "_law_cell"] ["_law_script"] (defScope s_deck) := ⟨rfl, rfl, rfl, by decide +kernel, rfl, by decide +kernel, by decide +kernel⟩
theorem sc_draw : FnScope ["_law_deck_here", "_law_most", "_law_cell", "_law_number"] ["_law_deck_here", "_law_most"] (defScope s_draw) := ⟨rfl, rfl, rfl, by decide +kernel, rfl, by decide +kernel, by decide +kernel⟩
theorem sc_table : FnScope ["_law_deck_here", "_law_ins", "_law_way", "_law_some", "_law_k"] ["_law_deck_here", "_law_ins"] (defScope s_table) := ⟨rfl, rfl, rfl, by decide +kernel, rfl, by decide +kernel, by decide +kernel⟩
theorem sc_formula : FnScope ["_law_deck_here", "_law_many", "_law_count", "_law_gates", "_law_free", "_law_k", "_law_ins", "_law_place", "_law_way"] ["_law_deck_here", "_law_many", "_law_count"] (defScope s_formula) := ⟨rfl, rfl, rfl, by decide +kernel, rfl, by decide +kernel, by decide +kernel⟩
theorem sc_chain : FnScope ["_law_deck_here", "_law_many", "_law_count", "_law_gates", "_law_k", "_law_ins", "_law_place"] ["_law_deck_here", "_law_many", "_law_count"] (defScope s_chain) := ⟨rfl, rfl, rfl, by decide +kernel, rfl, by decide +kernel, by decide +kernel⟩
theorem sc_shared : FnScope ["_law_deck_here", "_law_many", "_law_count", "_law_gates", "_law_k", "_law_ins", "_law_place", "_law_way"] ["_law_deck_here", "_law_many", "_law_count"] (defScope s_shared) := ⟨rfl, rfl, rfl, by decide +kernel, rfl, by decide +kernel, by decide +kernel⟩
theorem sc_net : FnScope ["_law_deck_here", "_law_way", "_law_many", "_law_count"] ["_law_deck_here", "_law_way", "_law_many", "_law_count"] (defScope s_net) := ⟨rfl, rfl, rfl, by decide +kernel, rfl, by decide +kernel, by decide +kernel⟩
theorem sc_due : FnScope ["_law_net_here", "_law_read", "_law_table_here", "_law_ins", "_law_wire"] ["_law_net_here"] (defScope s_due) := ⟨rfl, rfl, rfl, by decide +kernel, rfl, by decide +kernel, by decide +kernel⟩
theorem sc_otherwise : FnScope ["_law_deck_here", "_law_net_here", "_law_way", "_law_many", "_law_gates", "_law_at", "_law_table_here", "_law_ins", "_law_place", "_law_some"] ["_law_deck_here", "_law_net_here"] (defScope s_otherwise) := ⟨rfl, rfl, rfl, by decide +kernel, rfl, by decide +kernel, by decide +kernel⟩
theorem sc_right : FnScope ["_law_net_here", "_law_found"] ["_law_net_here"] (defScope s_right) := ⟨rfl, rfl, rfl, by decide +kernel, rfl, by decide +kernel, by decide +kernel⟩
theorem sc_law : FnScope ["_law_script", "_law_deck_here", "_law_turn", "_law_way", "_law_count", "_law_many", "_law_net_here", "_law_bend"] ["_law_script"] (defScope s_law) := ⟨rfl, rfl, rfl, by decide +kernel, rfl, by decide +kernel, by decide +kernel⟩
structure Tx (K : PySem.W.Frag) (mg : Str → Option Value) where
  f_is_whole : Addr
  fd_is_whole : FuncData
  F_is_whole : Fun K "is_whole" "is_whole" s_is_whole f_is_whole fd_is_whole
  g_is_whole : mg "is_whole" = some (.ref f_is_whole)
  b_is_whole : Binds K fd_is_whole ["thing"] []
  f_is_signs : Addr
  fd_is_signs : FuncData
  F_is_signs : Fun K "is_signs" "is_signs" s_is_signs f_is_signs fd_is_signs
  g_is_signs : mg "is_signs" = some (.ref f_is_signs)
  b_is_signs : Binds K fd_is_signs ["many", "thing"] []
  c_is_signs : Addr
  P_is_signs : Addr
  cd_is_signs : fd_is_signs.code = .ref c_is_signs
  f_is_net : Addr
  fd_is_net : FuncData
  F_is_net : Fun K "is_net" "is_net" s_is_net f_is_net fd_is_net
  g_is_net : mg "is_net" = some (.ref f_is_net)
  b_is_net : Binds K fd_is_net ["thing"] []
  c_is_net : Addr
  P_is_net : Addr
  cd_is_net : fd_is_net.code = .ref c_is_net
  f_is_gate : Addr
  fd_is_gate : FuncData
  F_is_gate : Fun K "is_gate" "is_gate" s_is_gate f_is_gate fd_is_gate
  g_is_gate : mg "is_gate" = some (.ref f_is_gate)
  b_is_gate : Binds K fd_is_gate ["wires", "thing"] []
  c_is_gate : Addr
  P_is_gate : Addr
  cd_is_gate : fd_is_gate.code = .ref c_is_gate
  f_is_formula : Addr
  fd_is_formula : FuncData
  F_is_formula : Fun K "is_formula" "is_formula" s_is_formula f_is_formula fd_is_formula
  g_is_formula : mg "is_formula" = some (.ref f_is_formula)
  b_is_formula : Binds K fd_is_formula ["net"] []
  f_deck : Addr
  fd_deck : FuncData
  F_deck : Fun K "_law_deck" "_law_deck" s_deck f_deck fd_deck
  g_deck : mg "_law_deck" = some (.ref f_deck)
  b_deck : Binds K fd_deck ["_law_script"] []
  f_draw : Addr
  fd_draw : FuncData
  F_draw : Fun K "_law_draw" "_law_draw" s_draw f_draw fd_draw
  g_draw : mg "_law_draw" = some (.ref f_draw)
  b_draw : Binds K fd_draw ["_law_deck_here", "_law_most"] []
  f_table : Addr
  fd_table : FuncData
  F_table : Fun K "_law_table" "_law_table" s_table f_table fd_table
  g_table : mg "_law_table" = some (.ref f_table)
  b_table : Binds K fd_table ["_law_deck_here", "_law_ins"] []
  f_formula : Addr
  fd_formula : FuncData
  F_formula : Fun K "_law_formula" "_law_formula" s_formula f_formula fd_formula
  g_formula : mg "_law_formula" = some (.ref f_formula)
  b_formula : Binds K fd_formula ["_law_deck_here", "_law_many", "_law_count"] []
  f_chain : Addr
  fd_chain : FuncData
  F_chain : Fun K "_law_chain" "_law_chain" s_chain f_chain fd_chain
  g_chain : mg "_law_chain" = some (.ref f_chain)
  b_chain : Binds K fd_chain ["_law_deck_here", "_law_many", "_law_count"] []
  f_shared : Addr
  fd_shared : FuncData
  F_shared : Fun K "_law_shared" "_law_shared" s_shared f_shared fd_shared
  g_shared : mg "_law_shared" = some (.ref f_shared)
  b_shared : Binds K fd_shared ["_law_deck_here", "_law_many", "_law_count"] []
  f_net : Addr
  fd_net : FuncData
  F_net : Fun K "_law_net" "_law_net" s_net f_net fd_net
  g_net : mg "_law_net" = some (.ref f_net)
  b_net : Binds K fd_net ["_law_deck_here", "_law_way", "_law_many", "_law_count"] []
  f_due : Addr
  fd_due : FuncData
  F_due : Fun K "_law_due" "_law_due" s_due f_due fd_due
  g_due : mg "_law_due" = some (.ref f_due)
  b_due : Binds K fd_due ["_law_net_here"] []
  f_otherwise : Addr
  fd_otherwise : FuncData
  F_otherwise : Fun K "_law_otherwise" "_law_otherwise" s_otherwise f_otherwise fd_otherwise
  g_otherwise : mg "_law_otherwise" = some (.ref f_otherwise)
  b_otherwise : Binds K fd_otherwise ["_law_deck_here", "_law_net_here"] []
  f_right : Addr
  fd_right : FuncData
  F_right : Fun K "_law_right" "_law_right" s_right f_right fd_right
  g_right : mg "_law_right" = some (.ref f_right)
  b_right : Binds K fd_right ["_law_net_here"] []
  f_law : Addr
  fd_law : FuncData
  F_law : Fun K "law" "law" s_law f_law fd_law
  g_law : mg "law" = some (.ref f_law)
  b_law : Binds K fd_law ["_law_script"] []
  m_all : mg "all" = none
  m_bool : mg "bool" = none
  m_enumerate : mg "enumerate" = none
  m_int : mg "int" = none
  m_isinstance : mg "isinstance" = none
  m_len : mg "len" = none
  m_list : mg "list" = none
  m_max : mg "max" = none
  m_range : mg "range" = none
  m_set : mg "set" = none
  m_str : mg "str" = none
  m_sum : mg "sum" = none
  m_tuple : mg "tuple" = none
  k_MOST_INPUTS : ∃ t, mg "MOST_INPUTS" = some (.int 6 t)
  k_MOST_INS : ∃ t, mg "MOST_INS" = some (.int 3 t)
structure Tb (base : Heap) {K : PySem.W.Frag} {mg : Str → Option Value} (T : Tx K mg) : Prop where
  TB_is_signs : GxR.TabB base mg T.c_is_signs T.P_is_signs
  TB_is_net : GxR.TabB base mg T.c_is_net T.P_is_net
  TB_is_gate : GxR.TabB base mg T.c_is_gate T.P_is_gate
def Tx.tabs {K : PySem.W.Frag} {mg : Str → Option Value} (T : Tx K mg) : List Addr := [T.P_is_signs, T.P_is_net, T.P_is_gate]
/-! ### generator expressions whose elements may call -/
theorem inv_moved {X : Cx} {cp : List (Addr × Obj)} {σ : L2.St} {H : Hp} {s s' : Shared} (I : Inv X cp σ H s) (os : s'.os = s.os) (bare : AllBare s'.gens) (k : ∀ b o, s.heap.get? b = some o → s'.heap.get? b = some o) : Inv X cp σ H s' :=
  I.call' (ch := []) os (Un.kept k) (I.hok.kept k) bare fun b hb => absurd hb (by simp)
/-- the context of a generator expression's frame: C its frame, s, H the entry, fp its iterator's objects -/
abbrev gblk (X : Cx) (A : Around) (s : Shared) (H : Hp) (cenv : Env) (fp : List Addr) : Cx :=
  { X with A := A, s_0 := s, H_0 := H, env := cenv, outer := X.stack, stack := cenv :: X.stack, ex := fp, fn := fun _ => false, pn := [], xe := fun _ _ => False }
section
variable {X : Cx} {pins : List (Addr × Obj)} {σ : L2.St} {H : Hp} {s : Shared}
theorem gen_start {scope : Scope} {own : List (Str × Nat)} {fp : List Addr} {A : Around} {code it : Value} {s5 : Shared} {cp : List (Addr × Obj)}
    (I : Inv X pins σ H s) (ok : BlkOk X.N X.env.scope scope own) (nocell : ∀ y ∈ scope.names, y.2 ≠ .cell) (hN : X.N.Nodup) (hfp : ∀ b ∈ fp, FpOk X pins H b ∧ b < s.heap.objs.size)
    (hh : A.handled = none) (hfr : A.frames = some (genEnv scope (cloFrom X.env.cells scope.names []) s.heap.objs.size code builtinsNs X.env :: X.stack))
    (os : s5.os = s.os) (bare : AllBare s5.gens) (kp : ∀ b o, s.heap.get? b = some o → s5.heap.get? b = some o)
    (hns : s5.heap.Ns s.heap.objs.size fun y => if y = ".0" then some it else none)
    (hcp : ∀ p ∈ cp, s.heap.objs.size < p.1 ∧ s5.heap.get? p.1 = some p.2 ∧ ∀ v, p.2.data ≠ .cell v) :
    Inv (gblk X A s H (genEnv scope (cloFrom X.env.cells scope.names []) s.heap.objs.size code builtinsNs X.env) fp) cp (wipe σ (own.map (·.2))) H s5 := by
  have hfree : ∀ y ∈ scope.names, y.2 = .free → ∃ c, X.env.cells.lookup y.1 = some c := fun y hy e => by
    rcases ok.free y hy e with k | k
    · exact I.ok.has _ (.inl k)
    · exact I.ok.has _ (.inr k)
  generalize hcenv : genEnv scope (cloFrom X.env.cells scope.names []) s.heap.objs.size code builtinsNs X.env = cenv at hfr ⊢
  have hL : cenv.locals = s.heap.objs.size := by rw [← hcenv]; rfl
  have hcl : cenv.cells = cloFrom X.env.cells scope.names [] := by rw [← hcenv]; rfl
  have hsc : cenv.scope = scope := by rw [← hcenv]; rfl
  have cm : ∀ {y c}, (y, c) ∈ cloFrom X.env.cells scope.names [] → X.env.cells.lookup y = some c ∧ c < s.heap.objs.size := fun {y c} hm => by
    rcases cloFrom_mem hm with hm | ⟨h1, rfl⟩
    · cases hm
    · obtain ⟨c, hc⟩ := hfree _ h1 rfl
      rw [hc]
      obtain ⟨w, z⟩ := I.cell _ _ hc
      exact ⟨rfl, z.lt⟩
  have mem : ∀ {y c}, cenv.cells.lookup y = some c → X.env.cells.lookup y = some c ∧ c < s.heap.objs.size := fun {y c} e => by
    rw [hcl] at e
    exact cm (PySem.mem_of_lookup e)
  have look : ∀ {y}, scope.names.lookup y = some .free → ∃ c, cenv.cells.lookup y = some c ∧ X.env.cells.lookup y = some c := fun {y} hl => by
    have hy : (y, NameKind.free) ∈ scope.names := PySem.mem_of_lookup hl
    obtain ⟨c', e'⟩ := mem_lookup (cloFrom_has (cells := X.env.cells) (acc := []) hy)
    rw [← hcl] at e'
    exact ⟨c', e', (mem e').1⟩
  have okB : (gblk X A s H cenv fp).Ok := by
    refine ⟨I.ok.mod, by show cenv.scope.kind = _; rw [hsc]; exact ok.kind, by show cenv.globals = _; rw [← hcenv]; exact I.ok.glob, by show cenv.builtins = _; rw [← hcenv]; rfl, by show s.heap.objs.size ≤ cenv.locals; rw [hL]; exact Nat.le_refl _,
      fun y z c e1 e2 => I.ok.inj y z c (mem e1).1 (mem e2).1, fun y hy => ?_, fun y c z e => (by cases z), fun _ => hh, hfr, .inr ⟨rfl, by show cenv.frame = some cenv.locals; rw [← hcenv]; rfl⟩, fun b hb => ⟨?_, fun y c e z => ?_⟩, I.bs, Nat.le_trans I.ok.bsz I.sz, fun b o e hb => ?_, fun b hb z => ?_, I.stack, I.stkFree⟩
    · have hy' : scope.names.lookup y = some .cell ∨ scope.names.lookup y = some .free := by
        rw [← hsc]
        exact hy
      rcases hy' with e | e
      · exact absurd rfl (nocell _ (PySem.mem_of_lookup e))
      · obtain ⟨c, h1, _⟩ := look e
        exact ⟨c, h1⟩
    · show b ≠ cenv.locals
      rw [hL]; exact Nat.ne_of_lt (hfp b hb).2
    · exact (hfp b hb).1.2.2.2.2.1 y c (mem e).1 z
    · rcases (hfp b hb).1.2.2.2.1 with z | z
      · exact I.ok.noex b o e z
      · exact absurd (Nat.lt_of_lt_of_le (Heap.lt_size e) (Nat.le_trans I.ok.bsz z)) (Nat.lt_irrefl _)
    · rcases List.mem_cons.mp (I.stkSub b z) with z | z
      · exact (hfp b hb).1.2.1 z
      · exact (hfp b hb).1.2.2.1 z
  refine ⟨okB, os, bare, Un.kept kp, ⟨_, (by show s5.heap.Ns cenv.locals _; rw [hL]; exact hns), fun i y av e1 e2 e3 => ?_⟩, fun y c e => ?_, ?_, fun y c e => I.freeC y c (mem e).1, fun p hp => ?_, I.hok.kept kp, by rw [wipe_length]; exact I.len⟩
  · obtain ⟨e2, hne⟩ := wipe_some e2
    have e3 : Vis scope y := by rw [← hsc]; exact e3
    have no : ∀ k, scope.names.lookup y = some k → ¬ (k = .local ∨ k = .cell) := fun k e hh => by
      rcases ok.own _ (PySem.mem_of_lookup e) hh with e' | e'
      · obtain ⟨p, hp, hpy⟩ := List.mem_map.mp e'
        have e3 := ok.ix p hp
        have : p.1 = y := hpy
        rw [this] at e3
        exact hne (List.mem_map.mpr ⟨p, hp, nodup_ix hN e3 e1⟩)
      · exact e' (List.mem_of_getElem? e1)
    have hfr2 : scope.names.lookup y = some .free := by
      rcases e3 with e | e | e
      · exact absurd (.inl rfl) (no _ e)
      · exact absurd (.inr rfl) (no _ e)
      · exact e
    obtain ⟨m, hn, hl⟩ := I.loc
    have hvis : Vis X.env.scope y := (ok.free _ (PySem.mem_of_lookup hfr2) rfl).elim (fun k => .inr (.inl k)) (fun k => .inr (.inr k))
    obtain ⟨w, r, q⟩ := hl i y av e1 e2 hvis
    refine ⟨w, r, .inr ⟨.inr (by show cenv.scope.names.lookup y = some .free; rw [hsc]; exact hfr2), ?_⟩⟩
    obtain ⟨c, h1, h2⟩ := look hfr2
    rcases q with ⟨k, _⟩ | ⟨_, c', e', z⟩
    · have k : X.env.scope.names.lookup y = some .local := k
      rcases ok.free _ (PySem.mem_of_lookup hfr2) rfl with k' | k' <;> rw [show X.env.scope.names.lookup y = _ from k'] at k <;> cases k
    · rw [h2] at e'; cases e'
      exact ⟨c, h1, z.keeps kp⟩
  · obtain ⟨w, z⟩ := I.cell y c (mem e).1
    exact ⟨w, z.keeps kp⟩
  · show H cenv.locals = none
    rw [hL]; exact I.hok.fresh (Nat.le_refl _)
  · have hp : p ∈ cp := by simpa using hp
    obtain ⟨h1, h2, h3⟩ := hcp p hp
    refine ⟨h2, I.hok.fresh (Nat.le_of_lt h1), by show p.1 ≠ cenv.locals; rw [hL]; exact Nat.ne_of_gt h1, fun z => ?_, h3⟩
    rcases List.mem_cons.mp (I.stkSub _ z) with z | z
    · exact absurd (Nat.lt_trans I.lt h1) (by rw [z]; exact Nat.lt_irrefl _)
    · exact I.nofs (Nat.le_of_lt h1) z
end
/-! ### the talk of a generator and who asks it -/
section
variable {α : Type}
/-- handed out: x; the asker's state a (laid down in the pins cp) goes to one with Nx -/
def YG (Xg : Cx) (fp : List Addr) (tn : Nat → Heap → Prop) (AC : α → List (Addr × Obj) → Prop) (Yd : α → V → Hp → (α → Hp → Prop) → Prop) : Protocol := fun _ _ v s kap =>
  ∃ (a : α) (x : V) (σ : L2.St) (H : Hp) (i : Nat) (cp : List (Addr × Obj)) (Nx : α → Hp → Prop), RelV x v ∧ AC a cp ∧ Inv Xg cp σ H s ∧ tn i s.heap ∧ (∀ b ∈ fp, H b = none) ∧ Yd a x H Nx ∧
    ∀ a' cp' s', Nx a' H → AC a' cp' → Inv Xg cp' σ H s' → tn i s'.heap → kap (.send .none) s'
def RG (Xg : Cx) (AC : α → List (Addr × Obj) → Prop) (End : α → Hp → Prop) : GenEnd := fun _ _ r s =>
  ((r = .ok (.ret .none) ∨ r = .ok .next) ∧ ∃ (a : α) (σ : L2.St) (H : Hp) (cp : List (Addr × Obj)), AC a cp ∧ Inv Xg cp σ H s ∧ End a H) ∨ ∃ e, r = .error e ∧ False
/-- a generator's turns -/
def tGx (J : It) (g : TG) (tt : TT) (te : TE) (σ0 : L2.St) (vs : List Nat) (End : α → Hp → Prop) (Yd : α → V → Hp → (α → Hp → Prop) → Prop) (W : Nat → Nat → α → Hp → Prop) : Prop :=
  ∀ i m a H, W i m a H → (J.stop i H ∧ End a H) ∨ (J.go i H ∧ ∃ Nx : α → Hp → Prop, (∀ a' H', Nx a' H' → ∃ m', m' < m ∧ W (i + 1) m' a' H') ∧
    ∀ x H', J.yld i H x H' → g x σ0 H' fun σ2 H2 => wipe σ2 vs = σ0 ∧ tt σ2 H2 fun b H3 => if b = true then te σ2 H3 fun y H4 => Yd a y H4 Nx else Nx a H3)
theorem wipe_wipe_some {σ σ2 : L2.St} {vs : List Nat} (h : wipe σ2 vs = σ) : ∀ (j : Nat) v, σ[j]? = some (some v) → σ2[j]? = some (some v) := fun j v e => by
  rw [← h] at e
  exact (wipe_some e).1
theorem seg_gx {X : Cx} {A A' : Around} {s_0 : Shared} {H_0 : Hp} {elt tg iter : Expr} {ifs : List Expr} {scope : Scope} {pos : Pos} {it : Addr} {fp : List Addr} {tn : Nat → Heap → Prop} {J : It} {cenv : Env} {g : TG} {tt : TT} {te : TE} {σ0 : L2.St} {vs : List Nat}
    {AC : α → List (Addr × Obj) → Prop} {End : α → Hp → Prop} {Yd : α → V → Hp → (α → Hp → Prop) → Prop} {W : Nat → Nat → α → Hp → Prop}
    (hA : A.over (.compLoop (.GeneratorExp elt [⟨tg, iter, ifs, 0⟩] scope pos) 0 (.ref it) .none cenv) [] = A') (hc : X.calm = true) (hco : cenv.scope.isCoroutine = false)
    (T : Turn X.prog X.w X.K tg J fp it tn) (pg : PG (gblk X A' s_0 H_0 cenv fp) tg g) (pt : PTs (gblk X A' s_0 H_0 cenv fp) ifs tt) (pe : PE (gblk X A' s_0 H_0 cenv fp) elt te)
    (hAC : ∀ a cp, AC a cp → ∀ p ∈ cp, ∀ b ∈ fp, p.1 ≠ b) (turn : tGx J g tt te σ0 vs End Yd W) :
    ∀ (m n i : Nat) (a : α) (H : Hp) (s₀ s : Shared) (cp : List (Addr × Obj)), m < n → W i m a H → AC a cp → Inv (gblk X A' s_0 H_0 cenv fp) cp σ0 H s → tn i s.heap → (∀ b ∈ fp, H b = none) →
      Seg (model X.prog X.w) A (RG (gblk X A' s_0 H_0 cenv fp) AC End) (YG (gblk X A' s_0 H_0 cenv fp) fp tn AC Yd) n s₀
        (.compLoop (.GeneratorExp elt [⟨tg, iter, ifs, 0⟩] scope pos) 0 (.ref it) .none cenv)
        ((model X.prog X.w).den (.compLoop (.GeneratorExp elt [⟨tg, iter, ifs, 0⟩] scope pos) 0 (.ref it) .none cenv)) [] s := by
  have stat : ∀ {a : α} {cp : List (Addr × Obj)} {σ' : L2.St} {H' : Hp} {s' : Shared}, AC a cp → Inv (gblk X A' s_0 H_0 cenv fp) cp σ' H' s' → (∀ b ∈ fp, H' b = none) → ∀ b ∈ fp, FpOk (gblk X A' s_0 H_0 cenv fp) cp H' b := fun {a cp σ' H' s'} hac I' hn b hb =>
    ⟨hn b hb, (I'.ok.exf b hb).1, I'.ok.exfs b hb, .inl hb, fun x c e => (I'.ok.exf b hb).2 x c e, fun p hp => hAC a cp hac p (by simpa using hp) b hb⟩
  intro m
  induction m using Nat.strongRecOn with
  | ind m ih =>
    intro n i a H s₀ s cp hmn w hac I st nf
    show Seg _ A _ _ _ s₀ _ ((compTurn (.GeneratorExp elt [⟨tg, iter, ifs, 0⟩] scope pos) 0 (.ref it) .none cenv).onRaise (leaving cenv)) [] s
    rw [compTurn_gen, Sem.onRaise_eq_wrap]
    refine seg_bind_wrap (wpAny_standAt ?_)
    rcases turn i m a H w with ⟨stop, hend⟩ | ⟨go, Nx, hNx, step⟩
    · refine seg_bind_wrap ?_
      rw [hA]
      refine thnF (T.done (gblk X A' s_0 H_0 cenv fp) rfl rfl rfl hc i cp s σ0 H (fun _ _ => False) I (stat hac I nf) st stop) fun r s1 ⟨hr, I1⟩ => ?_
      subst hr
      exact seg_end (.ok .next) (.inl ⟨.inr rfl, a, _, H, cp, hac, I1, hend⟩)
    · refine seg_bind_wrap ?_
      rw [hA]
      refine thnF (T.item (gblk X A' s_0 H_0 cenv fp) rfl rfl rfl hc i cp s σ0 H (fun _ _ => False) I (stat hac I nf) st go) fun r s1 ⟨u, hr, h1⟩ => ?_
      subst hr
      refine seg_bind_wrap ?_
      rw [hA]
      refine thnF h1 fun _ s2 ⟨x, H2, I2, r2, y2, st2, n2⟩ => ?_
      have I2' := I2.pinned (stat hac I2 n2) (T.obj _ _ st2)
      refine seg_bind_wrap ?_
      rw [hA]
      refine thnF (pg.run _ s2 _ H2 x u _ I2' r2 (step x H2 y2)) fun _ s3 ⟨σ3, H3, I3, hw3, q3⟩ => ?_
      refine seg_bind_wrap ?_
      rw [hA]
      refine thnF (pt.run _ s3 σ3 H3 _ I3 q3) fun b s4 ⟨H4, I4, q4⟩ => ?_
      have hl : σ0.length = σ3.length := by rw [← hw3, wipe_length]
      have fin : ∀ {s' : Shared} {H' : Hp}, Inv (gblk X A' s_0 H_0 cenv fp) (cp ++ pinsAt fp s2.heap) σ3 H' s' → Inv (gblk X A' s_0 H_0 cenv fp) cp σ0 H' s' ∧ tn (i + 1) s'.heap ∧ ∀ b ∈ fp, H' b = none := fun {s' H'} I' => by
        have pin' : ∀ b ∈ fp, ∀ o, s2.heap.get? b = some o → s'.heap.get? b = some o ∧ H' b = none := fun b hb o e =>
          let z := I'.pin (b, o) (List.mem_append_right _ (List.mem_append_right _ (mem_pinsAt hb e)))
          ⟨z.1, z.2.1⟩
        refine ⟨(I'.unpinned (pins := cp)).weak hl (wipe_wipe_some hw3), T.keep _ _ _ st2 fun b hb o e => (pin' b hb o e).1, fun b hb => ?_⟩
        obtain ⟨o, e, _⟩ := T.obj _ _ st2 b hb
        exact (pin' b hb o e).2
      cases b with
      | false =>
        simp only [Bool.false_eq_true, if_false] at q4 ⊢
        obtain ⟨m', hm, w'⟩ := hNx a H4 q4
        obtain ⟨J1, J2, J3⟩ := fin I4
        exact seg_again rfl (ih m' hm n (i + 1) a H4 s₀ s4 cp (by omega) w' hac J1 J2 J3)
      | true =>
        simp only [if_true] at q4 ⊢
        have hy : ∀ v, yieldOut cenv v = yieldValue v := fun v => by simp only [yieldOut, hco, Bool.false_eq_true, if_false]
        simp only [hy]
        rw [Sem.bind_eq_wrap', Sem.bind_eq_wrap', Sem.wrap_wrap, Sem.wrap_wrap]
        refine seg_wrap ?_
        rw [hA]
        refine thnF (pe.run _ s4 σ3 H4 _ I4 q4) fun yv s5 ⟨y, H5, I5, r5, q5⟩ => ?_
        obtain ⟨J1, J2, J3⟩ := fin I5
        -- at least one more
        cases n with
        | zero => exact absurd hmn (Nat.not_lt_zero _)
        | succ n =>
          refine seg_at (seg_yield rfl rfl rfl ⟨a, y, σ0, H5, i + 1, cp, Nx, r5, hac, J1, J2, J3, q5, fun a' cp' s' nx hac' I' st' => ?_⟩)
          obtain ⟨m', hm, w'⟩ := hNx a' H5 nx
          exact seg_again rfl (ih m' hm n (i + 1) a' H5 s' s' cp' (by omega) w' hac' I' st' J3)
end
/-! ### a generator that is made -/
section
variable {X : Cx} {pins : List (Addr × Obj)} {σ : L2.St} {H : Hp} {s : Shared}
def GenObj (o : Obj) (g : Nat) : Prop := ∃ nm qn, o.cls = .type "generator" ∧ o.data = .fields #[.int g 0, nm, qn] ∧ o.slots = #[]
theorem GenObj.isGen {o : Obj} {g : Nat} (h : GenObj o g) {a : Addr} {hp : Heap} (e : hp.get? a = some o) : hp.IsGen a g := by
  obtain ⟨nm, qn, h1, h2, h3⟩ := h
  exact ⟨o, nm, qn, e, h1, h2, h3⟩
/-- the generator u, made and not begun, in the state s5 -/
def Gx (X : Cx) (pins : List (Addr × Obj)) (σ : L2.St) (A : Around) (J : It) (g : TG) (tt : TT) (te : TE) (vs : List Nat) (H4 : Hp) (u : Value) (s5 : Shared) : Prop :=
  ∃ (A' : Around) (s_0 : Shared) (H_0 : Hp) (cenv : Env) (fp : List Addr) (ga : Addr) (gn : Nat) (go : Obj) (tn : Nat → Heap → Prop) (gs : GenState),
    u = .ref ga ∧ GenObj go gn ∧ s5.gens[gn]? = some gs ∧ gs.bare = true ∧ Inv (gblk X A' s_0 H_0 cenv fp) [(ga, go)] (wipe σ vs) H4 s5 ∧ tn 0 s5.heap ∧ (∀ b ∈ fp, H4 b = none) ∧ (∀ b ∈ fp, b < ga) ∧
    (∀ i h h', tn i h → (∀ b ∈ fp, ∀ o, h.get? b = some o → h'.get? b = some o) → tn i h') ∧ (∀ cp σ' H' s', Inv (gblk X A' s_0 H_0 cenv fp) cp σ' H' s' → Inv X pins σ H' s') ∧
    ∀ (α : Type) (AC : α → List (Addr × Obj) → Prop) (End : α → Hp → Prop) (Yd : α → V → Hp → (α → Hp → Prop) → Prop) (W : Nat → Nat → α → Hp → Prop) (m n : Nat) (a : α) (cp : List (Addr × Obj)) (s' : Shared),
      tGx J g tt te (wipe σ vs) vs End Yd W → W 0 m a H4 → m < n → (∀ a cp, AC a cp → ∀ p ∈ cp, ∀ b ∈ fp, p.1 ≠ b) → AC a cp → Inv (gblk X A' s_0 H_0 cenv fp) cp (wipe σ vs) H4 s' → tn 0 s'.heap →
      gs.Goes (model X.prog X.w) A (RG (gblk X A' s_0 H_0 cenv fp) AC End) (YG (gblk X A' s_0 H_0 cenv fp) fp tn AC Yd) n (.send .none) s'
/-- what stands about an asker -/
structure Near (A B : Around) : Prop where
  hd : B.handled = A.handled
  fr : B.frames = A.frames
  gd : B.guards = A.guards
  dp : B.depth = A.depth
  un : B.units ≤ A.units + 8
theorem gx_make {c P : Addr} {elt tg iter : Expr} {ifs : List Expr} {gpos : Pos} {scope : Scope} {own : List (Str × Nat)} {wi : TI} {g : TG} {tt : TT} {te : TE} {k : Nat} {Q' : Value → Shared → Prop} {R : It → Hp → Prop} {A : Around}
    (hr : Room (k + 1) X.A) (near : Near X.A A) (hc : X.calm = true) (hN : X.N.Nodup) (TB : GxR.TabB X.base X.mg c P) (hcode : X.env.code = .ref c) (hco : scope.isCoroutine = false) (hdot : scope.names.lookup (".0" : Str) = some NameKind.local)
    (nocell : ∀ y ∈ scope.names, y.2 ≠ .cell) (ok : BlkOk X.N X.env.scope scope own) (hi : PI X tg iter wi)
    (hg : ∀ (A' : Around) (s : Shared) (H : Hp) (C : Addr) (cl : List (Str × Addr)) (code : Value) (fp : List Addr), Room k A' → A'.guards = X.A.guards → PG (gblk X A' s H (genEnv scope cl C code builtinsNs X.env) fp) tg g)
    (ht : ∀ (A' : Around) (s : Shared) (H : Hp) (C : Addr) (cl : List (Str × Addr)) (code : Value) (fp : List Addr), Room k A' → A'.guards = X.A.guards → PTs (gblk X A' s H (genEnv scope cl C code builtinsNs X.env) fp) ifs tt)
    (he : ∀ (A' : Around) (s : Shared) (H : Hp) (C : Addr) (cl : List (Str × Addr)) (code : Value) (fp : List Addr), Room k A' → A'.guards = X.A.guards → PE (gblk X A' s H (genEnv scope cl C code builtinsNs X.env) fp) elt te)
    (hs : ∀ v, genFold iter X.env v = pure v) (I : Inv X pins σ H s) (h : wi σ H fun J H1 => GxR.TabG H1 P ∧ R J H1)
    (hQ : ∀ J H1 H2 u s5, R J H1 → GxR.Tabbed P H1 H2 → Gx X pins σ A J g tt te (own.map (·.2)) H2 u s5 → Q' u s5) :
    wpAny (model X.prog X.w) X.A (eval (.GeneratorExp elt [⟨tg, iter, ifs, 0⟩] scope gpos) X.env) Q' X.xe s := by
  have hfree : ∀ y ∈ scope.names, y.2 = .free → ∃ c, X.env.cells.lookup y.1 = some c := fun y hy e => by
    rcases ok.free y hy e with k | k
    · exact I.ok.has _ (.inl k)
    · exact I.ok.has _ (.inr k)
  refine wpAny_GeneratorExp_make hco (closure_ok hfree) nocell hdot ok.kind (by have := hr.dp; omega) ?_ hs
  refine thn (hi.run pins s σ H _ I h) fun xv s1 hx => thn hx fun itv s2 h2 => ?_
  obtain ⟨it, fp, tn, J, H2, rfl, I2, T, st2, f2, ⟨ps, hP, ht3⟩, q⟩ := h2
  refine ⟨I2.nolimit, ?_⟩
  have hPs : s2.heap.get? P = some { cls := .none, data := .fields ps } := I2.hok P _ hP
  have cd : PySem.W.CodeHd s2.heap c P := TB.code.keeps fun b u e => I2.bk b u e
  have nP : ∀ b, H2 b = none → b ≠ P := fun b e z => by
    rw [z, hP] at e
    cases e
  have cont : ∀ (code : Value) (h3 : Heap) (tk : Nat) (ps' : Array Value), Heap.ExtBut P s2.heap h3 → s2.heap.objs.size ≤ h3.objs.size → h3.get? P = some { cls := .none, data := .fields ps' } → (∃ more, ps' = ps ++ more) → TriplesOk ps'.toList →
      wpAny (model X.prog X.w) X.A (builtinsFor X.env.globals X.env.builtins) (fun bi s₄ =>
        ∀ h', h'.Ns s₄.heap.objs.size (fun y => if y = ".0" then some (Value.ref it) else none) → Heap.SameBut s₄.heap.objs.size (s₄.heap.push { cls := .type "frame", data := .dict #[] }) h' →
          Q' (.ref h'.objs.size) { s₄ with
            gens := s₄.gens.push (.fresh (.compStart (.GeneratorExp elt [⟨tg, iter, ifs, 0⟩] scope gpos) 0 (.ref it) .none (genEnv scope (cloFrom X.env.cells scope.names []) s₄.heap.objs.size code bi X.env))),
            toks := s₄.toks + 1 + 1 + 1,
            heap := h'.push { cls := .type "generator", data := .fields #[.int s₄.gens.size 0, .str "<genexpr>" (s₄.toks + 1), .str (X.env.qual ++ "<genexpr>") (s₄.toks + 1 + 1)] } }) X.xe { s2 with heap := h3, toks := tk } := by
    rintro code h3 tk ps' hx hsz hP3 ⟨more, rfl⟩ ht4
    obtain ⟨bm, ob, e1, e2, e3, e4, e5, e6, e7, e8⟩ := TB.bm
    refine wpAny_builtinsFor (m := X.mg) (by rw [I2.ok.glob]; exact (I2.mod.glob.keeps I2.bk).extBut hx TB.gP) e1 e2 (hx _ _ e4 (I2.bk _ _ e5)) e6 e7 e8 ?_
    intro h' hns hsb
    have I3 : Inv X pins σ (upd H2 P (.tbl (ps ++ more))) { s2 with heap := h3, toks := tk } := GxR.inv_tab (g' := s2.gens) (d' := s2.drawn) I2 hP (fun b o hb e => hx b o hb e) hP3 I2.bare
    have lt2 : ∀ b ∈ fp, b < s2.heap.objs.size := fun b hb => by
      obtain ⟨o, e, _⟩ := T.obj _ _ st2 b hb
      exact Heap.lt_size e
    have f3 : ∀ b ∈ fp, FpOk X pins (upd H2 P (.tbl (ps ++ more))) b ∧ b < ({ s2 with heap := h3, toks := tk } : Shared).heap.objs.size := fun b hb => by
      refine ⟨⟨?_, (f2 b hb).2⟩, Nat.lt_of_lt_of_le (lt2 b hb) hsz⟩
      rw [upd_ne (nP b (f2 b hb).1)]
      exact (f2 b hb).1
    have st3 : tn 0 h3 := T.keep _ _ _ st2 fun b hb o e => hx b o (nP b (f2 b hb).1) e
    generalize hs4 : ({ s2 with heap := h3, toks := tk } : Shared) = s4 at I3 f3 hns hsb ⊢
    have h4 : s4.heap = h3 := by rw [← hs4]
    have hsz4 : h'.objs.size = s4.heap.objs.size + 1 := by rw [hsb.1, Heap.size_push]
    have keep' : ∀ b o, s4.heap.get? b = some o → h'.get? b = some o := fun b o e => hsb.extBut b o (Nat.ne_of_lt (Heap.lt_size e)) (Heap.get?_push_of_some _ e)
    generalize hgo : ({ cls := .type "generator", data := .fields #[.int s4.gens.size 0, .str "<genexpr>" (s4.toks + 1), .str (X.env.qual ++ "<genexpr>") (s4.toks + 1 + 1)] } : Obj) = go
    have hGO : GenObj go s4.gens.size := by rw [← hgo]; exact ⟨_, _, rfl, rfl, rfl⟩
    have k5 : ∀ b o, s4.heap.get? b = some o → (h'.push go).get? b = some o := fun b o e => Heap.get?_push_of_some _ (keep' b o e)
    have pg := fun A' => hg A' s4 (upd H2 P (.tbl (ps ++ more))) s4.heap.objs.size (cloFrom X.env.cells scope.names []) code fp
    have pt := fun A' => ht A' s4 (upd H2 P (.tbl (ps ++ more))) s4.heap.objs.size (cloFrom X.env.cells scope.names []) code fp
    have pe := fun A' => he A' s4 (upd H2 P (.tbl (ps ++ more))) s4.heap.objs.size (cloFrom X.env.cells scope.names []) code fp
    generalize hce : genEnv scope (cloFrom X.env.cells scope.names []) s4.heap.objs.size code builtinsNs X.env = cenv at pg pt pe ⊢
    have hscn : cenv.scope = scope := by rw [← hce]; rfl
    generalize hA' : A.over (.compLoop (.GeneratorExp elt [⟨tg, iter, ifs, 0⟩] scope gpos) 0 (.ref it) .none cenv) [] = A'
    have hfrA : A'.frames = some (cenv :: X.stack) := by
      rw [← hA']
      show pushEnvs [cenv] A.frames = _
      rw [near.fr, I2.ok.frames]
      rfl
    have hhd : A'.handled = none := by
      rw [← hA']
      show A.handled = none
      rw [near.hd]
      exact hr.hd
    have rm : Room k A' := by
      refine ⟨hhd, ?_, ?_⟩
      · have := hr.dp
        have := near.dp
        rw [← hA']
        show A.depth + 0 + 1 + 3 * k + 5 < _
        omega
      · have := hr.un
        have := near.un
        rw [← hA']
        show A.units + 0 + 3 + 16 * k + 200 < _
        omega
    have gdA : A'.guards = X.A.guards := by
      rw [← hA']
      show pushGuards [] A.guards = _
      rw [near.gd]
      rfl
    have I5 : Inv (gblk X A' s4 (upd H2 P (.tbl (ps ++ more))) cenv fp) [(h'.objs.size, go)] (wipe σ (own.map (·.2))) (upd H2 P (.tbl (ps ++ more)))
        { s4 with gens := s4.gens.push (.fresh (.compStart (.GeneratorExp elt [⟨tg, iter, ifs, 0⟩] scope gpos) 0 (.ref it) .none cenv)), toks := s4.toks + 1 + 1 + 1, heap := h'.push go } := by
      subst hce
      refine gen_start (it := .ref it) I3 ok nocell hN f3 hhd hfrA rfl (I3.bare.push rfl) k5 (hns.push _) fun p hp => ?_
      have e : p = (h'.objs.size, go) := by simpa using hp
      subst e
      refine ⟨by show s4.heap.objs.size < h'.objs.size; omega, Heap.get?_push_size _ (by rw [← hgo]; rfl), fun v z => ?_⟩
      rw [← hgo] at z
      cases z
    refine hQ J H2 _ _ _ q ⟨⟨_, upd_same, ht4⟩, fun b hb => upd_ne hb⟩ ⟨A', s4, _, cenv, fp, h'.objs.size, s4.gens.size, go, tn, _, rfl, hGO, Array.getElem?_push_size .., rfl, I5, ?_, fun b hb => (f3 b hb).1.1, fun b hb => ?_, T.keep, fun cp σ' H' s' I' => ?_, ?_⟩
    · exact T.keep _ _ _ st3 fun b _ o e => k5 b o (by rw [h4]; exact e)
    · have := (f3 b hb).2
      rw [hsz4]
      exact Nat.lt_succ_of_lt this
    · exact I3.call' (ch := fp) I'.os I'.base I'.hok I'.bare fun b hb => ⟨(f3 b hb).1.2.2.2.1, (f3 b hb).1.2.1, (f3 b hb).1.2.2.2.2.1, (f3 b hb).1.2.2.2.2.2⟩
    · intro α AC End Yd W m n a cp s' turn w hmn hAC hac I' st'
      refine ⟨rfl, ?_⟩
      have loop := seg_gx (A := A) (pos := gpos) (iter := iter) (scope := scope) hA' hc (by rw [hscn]; exact hco) T (pg A' rm gdA) (pt A' rm gdA) (pe A' rm gdA) hAC turn m n 0 a _ s' s' cp hmn w hac I' st' fun b hb => (f3 b hb).1.1
      show Seg _ A _ _ _ s' _ ((compStart (.GeneratorExp elt [⟨tg, iter, ifs, 0⟩] scope gpos) 0 (.ref it) .none cenv).onRaise (leaving cenv)) [] s'
      unfold compStart
      rw [Sem.onRaise_eq_wrap]
      show Seg _ A _ _ _ s' _ ((ask >>= _).wrap _ _ _ _) [] s'
      refine seg_bind_wrap (wpAny_askSetting ?_)
      split
      · exact seg_again rfl loop
      · first
          | exact seg_bind_wrap (wpAny_rule (seg_bind_wrap (wpAny_standAt (seg_bind_wrap (T.self _ 0 s' _ _ st' (seg_again rfl loop))))))
          | (refine seg_bind_wrap (wpAny_rule ?_); show Seg _ A _ _ _ s' _ ((standAt iter.pos >>= _).wrap _ _ _ _) [] s'; exact seg_bind_wrap (wpAny_standAt (seg_bind_wrap (T.self _ 0 s' _ _ st' (seg_again rfl loop)))))
  cases hf : codeAmong gpos ps.toList with
  | none =>
    refine wpAny_genexprCodeX hcode (cd.code hPs ht3) (cd.tab hPs) hf fun c' h' tk hx hge hlt hco' _ htab' _ => ?_
    obtain ⟨o1, vs, f1, tf, fl, tg, inF, tx, tt, op, _, _, _, _, _, _, _, _, _, htr, _⟩ := hco'
    exact cont _ h' tk _ hx (Nat.le_trans hge (Nat.le_of_lt hlt)) htab'.2 ⟨_, rfl⟩ htr
  | some cv =>
    refine wpAny_genexprCode_hit hcode (cd.code hPs ht3) hf ?_
    exact cont cv s2.heap s2.toks ps (Heap.ExtBut.refl _ _) (Nat.le_refl _) hPs ⟨#[], by simp⟩ ht3
end
/-! ### asking -/
section
variable {α : Type} {X : Cx} {A A' : Around} {s_0 : Shared} {H_0 : Hp} {cenv : Env} {fp : List Addr} {tn : Nat → Heap → Prop} {AC : α → List (Addr × Obj) → Prop} {End : α → Hp → Prop} {Yd : α → V → Hp → (α → Hp → Prop) → Prop} {ga : Addr} {gn n : Nat} {go : Obj}
theorem next_gx {gs : GenState} {s : Shared} {Q : Option Value → Shared → Prop} {E : Value → Shared → Prop} (hh : A.handled = none) (hroom : A.depth < recursionLimit) (hl : s.heap.NoLimit) (hG : GenObj go gn) (e : s.heap.get? ga = some go) (hgs : s.gens[gn]? = some gs)
    (hgo : gs.Goes (model X.prog X.w) A.in1 (RG (gblk X A' s_0 H_0 cenv fp) AC End) (YG (gblk X A' s_0 H_0 cenv fp) fp tn AC Yd) n (.send .none) (s.setGen gn .running))
    (item : ∀ (a : α) (x : V) (σ : L2.St) (H : Hp) (i : Nat) (cp : List (Addr × Obj)) (Nx : α → Hp → Prop) (v : Value) (s1 : Shared) (gs' : GenState), RelV x v → AC a cp → Inv (gblk X A' s_0 H_0 cenv fp) cp σ H s1 → tn i s1.heap → Yd a x H Nx → s1.gens[gn]? = some gs' →
      (∀ a' cp' s', Nx a' H → AC a' cp' → Inv (gblk X A' s_0 H_0 cenv fp) cp' σ H s' → tn i s'.heap → ∃ m, n = m + 1 ∧ gs'.Goes (model X.prog X.w) A.in1 (RG (gblk X A' s_0 H_0 cenv fp) AC End) (YG (gblk X A' s_0 H_0 cenv fp) fp tn AC Yd) m (.send .none) s') → Q (some v) s1)
    (done : ∀ (a : α) (σ : L2.St) (H : Hp) (cp : List (Addr × Obj)) (s1 : Shared), AC a cp → Inv (gblk X A' s_0 H_0 cenv fp) cp σ H s1 → End a H → Q none s1) :
    wpAny (model X.prog X.w) A (pyNext (.ref ga)) Q E s := by
  have hgl : gn < s.gens.size := (Array.getElem?_eq_some_iff.mp hgs).1
  refine GenW.wpAny_gsz (n := gn + 1) hgl (next_genG (Er := fun _ _ => False) hh hl hroom (hG.isGen e) hgs hgo (fun v s₁ gs' hbare hv => ?_) (fun s₁ hp h' hk => ?_) fun e s₁ he => he.elim)
  · intro hsz
    obtain ⟨a, x, σ, H, i, cp, Nx, r, hac, I, st, nf, hy, kap⟩ := hv
    have hsz1 : gn < s₁.gens.size := by
      have q : (s₁.setGen gn gs').gens.size = s₁.gens.size := GenW.setGen_size _ _ _
      have hsz' : gn + 1 ≤ (s₁.setGen gn gs').gens.size := hsz
      omega
    refine item a x σ H i cp Nx v (s₁.setGen gn gs') gs' r hac (inv_moved I rfl (allBare_setGen I.bare hbare) fun _ _ q => q) st hy (setGen_at hsz1) fun a' cp' s' nx hac' I' st' => ?_
    have z := kap a' cp' s' nx hac' I' st'
    cases n with
    | zero => exact z.elim
    | succ m => exact ⟨m, rfl, z⟩
  · intro _
    obtain ⟨a, σ, H, cp, hac, I, q⟩ := hp
    exact done a σ H cp _ hac (inv_moved I rfl (allBare_setGen I.bare rfl) hk) q
/-- all(..) asks on -/
theorem all_gx {R : Result → Shared → Prop} {Stop : Hp → Prop} {End : Unit → Hp → Prop} (hh : A.handled = none) (hroom : A.depth < recursionLimit) (hG : GenObj go gn)
    (yes : ∀ (σ : L2.St) (H : Hp) (cp : List (Addr × Obj)) (s1 : Shared), Inv (gblk X A' s_0 H_0 cenv fp) cp σ H s1 → End () H → R (.ok (.ret (.bool true))) s1)
    (no : ∀ (σ : L2.St) (H : Hp) (cp : List (Addr × Obj)) (s1 : Shared), Inv (gblk X A' s_0 H_0 cenv fp) cp σ H s1 → Stop H → R (.ok (.ret (.bool false))) s1) :
    ∀ (n : Nat) (s : Shared), s.heap.NoLimit → s.heap.get? ga = some go → (∃ gs, s.gens[gn]? = some gs ∧ gs.Goes (model X.prog X.w) A.in1.in1 (RG (gblk X A' s_0 H_0 cenv fp) (fun _ cp => cp = [(ga, go)]) End)
      (YG (gblk X A' s_0 H_0 cenv fp) fp tn (fun _ cp => cp = [(ga, go)]) (fun _ y H Nx => ∃ b : Bool, y = .bl b ∧ if b = true then Nx () H else Stop H)) n (.send .none) (s.setGen gn .running)) →
      codeAny (model X.prog X.w) A (.builtin "all.loop" ⟨[.ref ga], []⟩) R s := by
  intro n
  induction n with
  | zero =>
    rintro s hl e ⟨gs, hgs, hgo⟩
    refine codeAny_builtin F.entry_all_loop ?_
    rw [Around.under_plainId F.plain_all_loop _]
    show wpAny _ A.in1 (pyNext (.ref ga) >>= _) _ _ s
    refine wpAny_bind (next_gx (A := A.in1) hh hroom hl hG e hgs hgo (fun a x σ H i cp Nx v s1 gs' r hac I st hy at_ kap => ?_) fun a σ H cp s1 hac I q => ?_)
    · obtain ⟨b, rfl, hb⟩ := hy
      cases (show v = Value.bool b from r)
      refine wpAny_bind (wpAny_holding (wpAny_truthy_bool ?_))
      refine wpAny_bind (wpAny_letGo ?_)
      cases b with
      | true =>
        obtain ⟨m, hm, _⟩ := kap () cp s1 hb hac I st
        cases hm
      | false =>
        simp only [Bool.false_eq_true, if_false] at hb ⊢
        exact wpAny_bind (wpAny_rule (wpAny_pure (no σ H cp s1 I hb)))
    · exact wpAny_bind (wpAny_rule (wpAny_pure (yes σ H cp s1 I q)))
  | succ n ih =>
    rintro s hl e ⟨gs, hgs, hgo⟩
    refine codeAny_builtin F.entry_all_loop ?_
    rw [Around.under_plainId F.plain_all_loop _]
    show wpAny _ A.in1 (pyNext (.ref ga) >>= _) _ _ s
    refine wpAny_bind (next_gx (A := A.in1) hh hroom hl hG e hgs hgo (fun a x σ H i cp Nx v s1 gs' r hac I st hy at_ kap => ?_) fun a σ H cp s1 hac I q => ?_)
    · obtain ⟨b, rfl, hb⟩ := hy
      cases (show v = Value.bool b from r)
      refine wpAny_bind (wpAny_holding (wpAny_truthy_bool ?_))
      refine wpAny_bind (wpAny_letGo ?_)
      cases b with
      | true =>
        simp only [if_true] at hb ⊢
        subst hac
        refine wpAny_pure ⟨plainId_quiet F.plain_all_loop _, ih s1 I.nolimit (I.pin (ga, go) (List.mem_append_right _ List.mem_cons_self)).1 ⟨gs', at_, ?_⟩⟩
        obtain ⟨m, hm, z⟩ := kap () [(ga, go)] (s1.setGen gn .running) hb rfl (inv_moved I rfl (allBare_setGen I.bare rfl) fun _ _ q => q) st
        cases hm
        exact z
      | false =>
        simp only [Bool.false_eq_true, if_false] at hb ⊢
        exact wpAny_bind (wpAny_rule (wpAny_pure (no σ H cp s1 I hb)))
    · exact wpAny_bind (wpAny_rule (wpAny_pure (yes σ H cp s1 I q)))
end
section
variable {X : Cx}
/-- all(elt for tg in iter ..) -/
def tAllX (P : Addr) (wi : TI) (g : TG) (tt : TT) (te : TE) (vs : List Nat) : TE := fun σ H Q => wi σ H fun J H1 => GxR.TabG H1 P ∧ ∀ H2, GxR.Tabbed P H1 H2 → ∃ W : Nat → Nat → Unit → Hp → Prop, (∃ m, W 0 m () H2) ∧
  tGx J g tt te (wipe σ vs) vs (fun _ H => Q (.bl true) H) (fun _ y H Nx => ∃ b : Bool, y = .bl b ∧ if b = true then Nx () H else Q (.bl false) H) W
theorem pe_allX {c P : Addr} {elt tg iter : Expr} {ifs : List Expr} {p pos gpos : Pos} {scope : Scope} {own : List (Str × Nat)} {wi : TI} {g : TG} {tt : TT} {te : TE} {k : Nat}
    (hr : Room (k + 1) X.A) (hc : X.calm = true) (hN : X.N.Nodup) (hgl : Gl X "all") (hm : X.mg "all" = none) (hb : bootBuiltins "all" = some (.builtin "all")) (TB : GxR.TabB X.base X.mg c P) (hcode : X.env.code = .ref c)
    (hco : scope.isCoroutine = false) (hdot : scope.names.lookup (".0" : Str) = some NameKind.local) (nocell : ∀ y ∈ scope.names, y.2 ≠ .cell) (ok : BlkOk X.N X.env.scope scope own) (hi : PI X tg iter wi)
    (hg : ∀ (A' : Around) (s : Shared) (H : Hp) (C : Addr) (cl : List (Str × Addr)) (code : Value) (fp : List Addr), Room k A' → A'.guards = X.A.guards → PG (gblk X A' s H (genEnv scope cl C code builtinsNs X.env) fp) tg g)
    (ht : ∀ (A' : Around) (s : Shared) (H : Hp) (C : Addr) (cl : List (Str × Addr)) (code : Value) (fp : List Addr), Room k A' → A'.guards = X.A.guards → PTs (gblk X A' s H (genEnv scope cl C code builtinsNs X.env) fp) ifs tt)
    (he : ∀ (A' : Around) (s : Shared) (H : Hp) (C : Addr) (cl : List (Str × Addr)) (code : Value) (fp : List Addr), Room k A' → A'.guards = X.A.guards → PE (gblk X A' s H (genEnv scope cl C code builtinsNs X.env) fp) elt te)
    (hs : ∀ v, genFold iter X.env v = pure v)
    (hst : starEach [.GeneratorExp elt [⟨tg, iter, ifs, 0⟩] scope gpos] X.env = (false, eval (.GeneratorExp elt [⟨tg, iter, ifs, 0⟩] scope gpos) X.env) :: starEach [] X.env := by rfl) :
    PE X (.Call (.Name "all" p) [.GeneratorExp elt [⟨tg, iter, ifs, 0⟩] scope gpos] [] pos) (tAllX P wi g tt te (own.map (·.2))) := by
  refine ⟨fun pins s σ H Q I h => ?_⟩
  refine wpAny_Call_Name_kw (ld_blt I hgl hm hb ?_)
  refine PyProof.Rows.callWith_builtin1 ?_ hst (by rfl)
  rw [hst]
  show wpAny _ _ (spliced ((false, eval (.GeneratorExp elt [⟨tg, iter, ifs, 0⟩] scope gpos) X.env) :: backTo pos (starEach [] X.env))) _ _ s
  refine Calls.spliced_cons (gx_make (A := X.A.in1.in1) hr ⟨rfl, rfl, rfl, rfl, (by show X.A.units + 1 + 1 ≤ _; omega)⟩ hc hN TB hcode hco hdot nocell ok hi hg ht he hs I h fun J H1 H2 u s5 hR hT hG => ?_)
  obtain ⟨A', s_0, H_0, cenv, fp, ga, gn, go, tn, gs, rfl, hGO, hgs, hbare, I5, st5, nf, hlt, keep, back, goes⟩ := hG
  obtain ⟨W, ⟨m, w0⟩, turn⟩ := hR H2 hT
  refine Calls.spliced_nil ?_
  have pin5 := (I5.pin (ga, go) (List.mem_append_right _ List.mem_cons_self)).1
  refine call_function_tree F.kind_all F.plain_all F.entry_all (F.args_all1 _) ?_
  unfold Builtin.«all»
  refine wpAny_bind (m := oneArg "all" _) (wpAny_pure ?_)
  refine wpAny_bind (wpAny_pyIter_gen (hGO.isGen pin5) ?_)
  refine wpAny_pure ⟨plainId_quiet F.plain_all_loop _, all_gx (A' := A') (s_0 := s_0) (H_0 := H_0) (cenv := cenv) (fp := fp) (tn := tn) (go := go) (gn := gn) (Stop := fun H => Q (.bl false) H) (End := fun _ H => Q (.bl true) H) hr.hd hr.depth hGO
    (fun σ' H' cp s1 I1 q => ⟨.bl true, H', back _ _ _ _ I1, rfl, q⟩) (fun σ' H' cp s1 I1 q => ⟨.bl false, H', back _ _ _ _ I1, rfl, q⟩) (m + 1) s5 I5.nolimit pin5 ⟨gs, hgs, ?_⟩⟩
  refine goes Unit _ _ _ W m (m + 1) () [(ga, go)] _ turn w0 (Nat.lt_succ_self _) (fun a cp hac p hp b hb z => ?_) rfl (inv_moved I5 rfl (allBare_setGen I5.bare rfl) fun _ _ q => q) st5
  subst hac
  have e : p = (ga, go) := by simpa using hp
  subst e
  exact absurd (hlt b hb) (by rw [← z]; exact Nat.lt_irrefl _)
end
/-! ### tuple(..) -/
section
variable {X : Cx} {A A' : Around} {s_0 : Shared} {H_0 : Hp} {cenv : Env} {fp : List Addr} {tn : Nat → Heap → Prop} {ga S : Addr} {gn n : Nat} {go : Obj}
/-- the asker's list S holds what is out -/
def ACl (ga : Addr) (go : Obj) (S : Addr) (ys : List V) (cp : List (Addr × Obj)) : Prop := ∃ (acc : Array Value) (c : Nat), cp = [(ga, go), (S, lstObj acc c)] ∧ Vals ys acc.toList
def YdL (ys : List V) (y : V) (H : Hp) (Nx : List V → Hp → Prop) : Prop := ys.length < sizeLine ∧ Nx (ys ++ [y]) H
theorem ext_gx {R : Result → Shared → Prop} {End : List V → Hp → Prop} {res : Value} (hh : A.handled = none) (hroom : A.depth < recursionLimit) (hG : GenObj go gn) (hSa : S ≠ ga) (far : (gblk X A' s_0 H_0 cenv fp).s_0.heap.objs.size ≤ S) (hSc : ∀ x c, cenv.cells.lookup x = some c → c ≠ S)
    (keep : ∀ i h h', tn i h → (∀ b ∈ fp, ∀ o, h.get? b = some o → h'.get? b = some o) → tn i h') (hSf : ∀ b ∈ fp, b ≠ S)
    (yes : ∀ (σ : L2.St) (H : Hp) (ys : List V) (acc : Array Value) (c : Nat) (s1 : Shared), Inv (gblk X A' s_0 H_0 cenv fp) [(ga, go), (S, lstObj acc c)] σ H s1 → Vals ys acc.toList → End ys H → R (.ok (.ret res)) s1) :
    ∀ (n : Nat) (s : Shared), s.heap.NoLimit → s.heap.get? ga = some go → (∃ gs, s.gens[gn]? = some gs ∧ gs.Goes (model X.prog X.w) A.in1.in1 (RG (gblk X A' s_0 H_0 cenv fp) (ACl ga go S) End)
      (YG (gblk X A' s_0 H_0 cenv fp) fp tn (ACl ga go S) YdL) n (.send .none) (s.setGen gn .running)) →
      codeAny (model X.prog X.w) A (.builtin "list.extend.loop" ⟨[.ref S, .ref ga, res], []⟩) R s := by
  intro n
  induction n with
  | zero =>
    rintro s hl e ⟨gs, hgs, hgo⟩
    refine codeAny_builtin F.entry_extend_loop ?_
    rw [Around.under_plainId F.plain_extend_loop _]
    show wpAny _ A.in1 (pyNext (.ref ga) >>= _) _ _ s
    refine wpAny_bind (next_gx (A := A.in1) hh hroom hl hG e hgs hgo (fun ys x σ H i cp Nx v s1 gs' r hac I st hy at_ kap => ?_) fun ys σ H cp s1 hac I q => ?_)
    · obtain ⟨acc, c, rfl, rv⟩ := hac
      have pS := I.pin (S, lstObj acc c) (List.mem_append_right _ (List.mem_cons_of_mem _ List.mem_cons_self))
      have I0 : Inv (gblk X A' s_0 H_0 cenv fp) [(ga, go)] σ H s1 := I.pins_of fun p hp => I.pin p (List.mem_append_right _ (by rw [List.mem_singleton.mp hp]; exact List.mem_cons_self))
      have I1 := I0.turned (t' := s1.toks) (h' := s1.heap.update S (Obj.mapSeq (·.push v))) (it := S) (fun b o hb q => (Heap.get?_update_other _ _ (Ne.symm hb)).trans q) pS.2.1 pS.2.2.1 (.inr far) hSc (fun p hp => by rw [List.mem_singleton.mp (show p ∈ [(ga, go)] by simpa using hp)]; exact Ne.symm hSa)
      have e2 := Heap.get?_update_self (Obj.mapSeq (·.push v)) pS.1 rfl
      obtain ⟨m, hm, _⟩ := kap (ys ++ [x]) [(ga, go), (S, _)] _ hy.2 ⟨acc.push v, _, rfl, by rw [Array.toList_push]; exact rv.append (.cons r .nil)⟩ (I1.pins_of fun p hp => by
        rcases List.mem_cons.mp hp with z | z
        · rw [z]; exact I1.pin (ga, go) (List.mem_append_right _ List.mem_cons_self)
        · rw [List.mem_singleton.mp z]; exact ⟨e2, pS.2.1, pS.2.2.1, pS.2.2.2.1, fun v q => by cases q⟩) (keep _ _ _ st fun b hb o q => (Heap.get?_update_other _ _ (Ne.symm (hSf b hb))).trans q)
      cases hm
    · obtain ⟨acc, c, rfl, rv⟩ := hac
      exact wpAny_pure (yes σ H ys acc c s1 I rv q)
  | succ n ih =>
    rintro s hl e ⟨gs, hgs, hgo⟩
    refine codeAny_builtin F.entry_extend_loop ?_
    rw [Around.under_plainId F.plain_extend_loop _]
    show wpAny _ A.in1 (pyNext (.ref ga) >>= _) _ _ s
    refine wpAny_bind (next_gx (A := A.in1) hh hroom hl hG e hgs hgo (fun ys x σ H i cp Nx v s1 gs' r hac I st hy at_ kap => ?_) fun ys σ H cp s1 hac I q => ?_)
    · obtain ⟨acc, c, rfl, rv⟩ := hac
      have pS := I.pin (S, lstObj acc c) (List.mem_append_right _ (List.mem_cons_of_mem _ List.mem_cons_self))
      have I0 : Inv (gblk X A' s_0 H_0 cenv fp) [(ga, go)] σ H s1 := I.pins_of fun p hp => I.pin p (List.mem_append_right _ (by rw [List.mem_singleton.mp hp]; exact List.mem_cons_self))
      have I1 := I0.turned (t' := s1.toks) (h' := s1.heap.update S (Obj.mapSeq (·.push v))) (it := S) (fun b o hb q => (Heap.get?_update_other _ _ (Ne.symm hb)).trans q) pS.2.1 pS.2.2.1 (.inr far) hSc (fun p hp => by rw [List.mem_singleton.mp (show p ∈ [(ga, go)] by simpa using hp)]; exact Ne.symm hSa)
      have e2 := Heap.get?_update_self (Obj.mapSeq (·.push v)) pS.1 rfl
      have hln := rv.length
      have hlt : acc.size < sizeLine := by
        have := hy.1
        rw [hln] at this
        simpa using this
      have pG := I1.pin (ga, go) (List.mem_append_right _ List.mem_cons_self)
      show wpAny _ A.in1 (updateSeq S (·.push v) >>= _) _ _ _
      refine wpAny_bind ?_
      refine wpAny_updateSeq pS.1 rfl (wpAny_pure ⟨plainId_quiet F.plain_extend_loop _, ih _ I1.nolimit pG.1 ⟨gs', at_, ?_⟩⟩) (Nat.le_of_lt hlt) (by show (acc.push v).size ≤ sizeLine + 1; rw [Array.size_push]; omega)
      obtain ⟨m, hm, z⟩ := kap (ys ++ [x]) [(ga, go), (S, _)] (({ s1 with heap := s1.heap.update S (Obj.mapSeq (·.push v)) } : Shared).setGen gn .running) hy.2 ⟨acc.push v, _, rfl, by rw [Array.toList_push]; exact rv.append (.cons r .nil)⟩ (inv_moved (I1.pins_of fun p hp => by
        rcases List.mem_cons.mp hp with z | z
        · rw [z]; exact pG
        · rw [List.mem_singleton.mp z]; exact ⟨e2, pS.2.1, pS.2.2.1, pS.2.2.2.1, fun v q => by cases q⟩) rfl (allBare_setGen (s := { s1 with heap := s1.heap.update S (Obj.mapSeq (·.push v)) }) I1.bare rfl) fun _ _ q => q) (keep _ _ _ st fun b hb o q => (Heap.get?_update_other _ _ (Ne.symm (hSf b hb))).trans q)
      cases hm
      exact z
    · obtain ⟨acc, c, rfl, rv⟩ := hac
      exact wpAny_pure (yes σ H ys acc c s1 I rv q)
end
section
variable {X : Cx} {pins : List (Addr × Obj)} {σ : L2.St} {s5 : Shared} {J : It} {g : TG} {tt : TT} {te : TE} {vs : List Nat} {H4 : Hp} {u : Value}
/-- all that a generator hands out, in a list of the asker's own -/
theorem collect_gx {A : Around} {E : Value → Shared → Prop} {Q : List Value → Shared → Prop} {End : List V → Hp → Prop} {W : Nat → Nat → List V → Hp → Prop} {m : Nat} (hh : A.handled = none) (hroom : A.depth < recursionLimit) (G : Gx X pins σ A.in1.in1 J g tt te vs H4 u s5)
    (w0 : W 0 m [] H4) (turn : tGx J g tt te (wipe σ vs) vs End YdL W)
    (hQ : ∀ (s' : Shared) (acc : Array Value) (ys : List V) (H' : Hp), Inv X pins σ H' s' → Vals ys acc.toList → End ys H' → Q acc.toList s') : wpAny (model X.prog X.w) A (collect u) Q E s5 := by
  obtain ⟨A', s_0, H_0, cenv, fp, ga, gn, go, tn, gs, rfl, hGO, hgs, hbare, I5, st5, nf, hlt, keep, back, goes⟩ := G
  have pin5 := I5.pin (ga, go) (List.mem_append_right _ List.mem_cons_self)
  have glt : ga < s5.heap.objs.size := Heap.lt_size pin5.1
  have hSI : s5.heap.objs.size ≠ ga := Nat.ne_of_gt glt
  unfold collect
  refine wpAny_bind (wpAny_runValue (codeAny_builtin F.entry_proto_collect ?_))
  rw [Around.under_plainId F.plain_proto_collect _]
  show wpAny _ A.in1 (newList [] >>= fun l => again (.builtin "list.__iadd__" ⟨[l, .ref ga], []⟩)) _ _ s5
  refine wpAny_bind (wpAny_newObj_type ?_)
  refine wpAny_pure ⟨plainId_quiet F.plain_list_iadd _, codeAny_builtin F.entry_list_iadd ?_⟩
  rw [Around.under_plainId F.plain_list_iadd _]
  show wpAny _ A.in1 (Builtin.List.listExtendWith (.ref s5.heap.objs.size) (.ref ga) (.ref s5.heap.objs.size)) _ _ _
  unfold Builtin.List.listExtendWith
  have k1 : ∀ b o, s5.heap.get? b = some o → (s5.heap.push { cls := .type "list", data := .seq ([] : List Value).toArray }).get? b = some o := fun b o e => Heap.get?_push_of_some _ e
  have hT : Shared.TypeIs { s5 with heap := s5.heap.push { cls := .type "list", data := .seq ([] : List Value).toArray } } (.ref ga) "generator" := Heap.IsGen.typeIs (s := { s5 with heap := _ }) (hGO.isGen (k1 _ _ pin5.1))
  refine wpAny_bind (wpAny_typeOf hT ?_)
  have h1 : Builtin.List.listSameRef (.ref s5.heap.objs.size) (.ref ga) = false := by simp [Builtin.List.listSameRef, hSI]
  have h2 : (Value.type "generator" == Value.type "list") = false := by decide
  have h3 : (Value.type "generator" == Value.type "tuple") = false := by decide
  simp only [h1, h2, h3, Bool.or_false, Bool.false_eq_true, if_false]
  refine wpAny_bind (wpAny_pyIter_gen (s := { s5 with heap := _ }) (hGO.isGen (k1 _ _ pin5.1)) ?_)
  refine wpAny_bind (wpAny_holding ?_)
  unfold Builtin.List.listLengthHint
  refine wpAny_bind (wpAny_specialOf hT F.gen_no_len ?_)
  show wpAny _ A.in1 (specialOf (Value.ref ga) (Str.ofString "__length_hint__") >>= _) _ _ _
  refine wpAny_bind (wpAny_specialOf hT F.gen_no_hint ?_)
  refine wpAny_pure ?_
  show wpAny _ A.in1 (rule "list.extend.makes-room" >>= fun _ => Builtin.List.listTouch (.ref s5.heap.objs.size) >>= fun _ =>
    again (.builtin "list.extend.loop" ⟨[.ref s5.heap.objs.size, .ref ga, .ref s5.heap.objs.size], []⟩)) _ _ _
  refine wpAny_bind (wpAny_rule ?_)
  have hS₁ : (s5.heap.push { cls := .type "list", data := .seq ([] : List Value).toArray }).get? s5.heap.objs.size = some { cls := .type "list", data := .seq ([] : List Value).toArray } := Heap.get?_push_size _ rfl
  refine wpAny_bind ?_
  show wpAny _ A.in1 (updateSeq s5.heap.objs.size (·.push .none) >>= fun _ => updateSeq s5.heap.objs.size (·.pop)) _ _ _
  refine wpAny_bind (wpAny_updateSeq hS₁ rfl ?_)
  have hS₂ := Heap.get?_update_self (Obj.mapSeq (·.push Value.none)) hS₁ rfl
  refine wpAny_updateSeq hS₂ rfl ?_
  have hS₃ := Heap.get?_update_self (Obj.mapSeq (·.pop)) hS₂ rfl
  obtain ⟨c3, hS₄⟩ : ∃ c, (((s5.heap.push { cls := .type "list", data := .seq ([] : List Value).toArray }).update s5.heap.objs.size (Obj.mapSeq (·.push Value.none))).update s5.heap.objs.size (Obj.mapSeq (·.pop))).get? s5.heap.objs.size = some (lstObj #[] c) := ⟨_, hS₃⟩
  have k3 : ∀ b o, s5.heap.get? b = some o → (((s5.heap.push { cls := .type "list", data := .seq ([] : List Value).toArray }).update s5.heap.objs.size (Obj.mapSeq (·.push Value.none))).update s5.heap.objs.size (Obj.mapSeq (·.pop))).get? b = some o :=
    fun b o e => (Heap.get?_update_other _ _ (Ne.symm (Nat.ne_of_lt (Heap.lt_size e)))).trans ((Heap.get?_update_other _ _ (Ne.symm (Nat.ne_of_lt (Heap.lt_size e)))).trans (k1 b o e))
  have fS : FpOk (gblk X A' s_0 H_0 cenv fp) [(ga, go)] H4 s5.heap.objs.size := I5.fpOk (Nat.le_refl _) (I5.hok.fresh (Nat.le_refl _))
  have hfS : ∀ b ∈ fp, b ≠ s5.heap.objs.size := fun b hb => Nat.ne_of_lt (Nat.lt_trans (hlt b hb) glt)
  have I6 := inv_moved (s' := { s5 with heap := ((s5.heap.push { cls := .type "list", data := .seq ([] : List Value).toArray }).update s5.heap.objs.size (Obj.mapSeq (·.push Value.none))).update s5.heap.objs.size (Obj.mapSeq (·.pop)) }) I5 rfl I5.bare k3
  refine wpAny_pure ⟨plainId_quiet F.plain_extend_loop _, ext_gx (A := A) (A' := A') (s_0 := s_0) (H_0 := H_0) (cenv := cenv) (fp := fp) (tn := tn) (go := go) (gn := gn) (End := End) hh hroom hGO hSI ?_ fS.2.2.2.2.1 keep hfS
    (fun σ' H' ys acc c s1 I1 rv q => ?_) (m + 1) _ I6.nolimit (k3 _ _ pin5.1) ⟨gs, hgs, ?_⟩⟩
  · exact Nat.le_trans I5.sz (Nat.le_refl _)
  · show wpAny _ A (load s5.heap.objs.size >>= _) _ _ s1
    have pS := (I1.pin (s5.heap.objs.size, lstObj acc c) (List.mem_append_right _ (List.mem_cons_of_mem _ List.mem_cons_self))).1
    refine wpAny_bind (wpAny_load pS ?_)
    exact wpAny_pure (hQ s1 acc ys H' (back _ _ _ _ I1) rv q)
  · refine goes (List V) (ACl ga go s5.heap.objs.size) End YdL W m (m + 1) [] [(ga, go), (s5.heap.objs.size, lstObj #[] c3)] _ turn w0 (Nat.lt_succ_self _) (fun ys cp hac p hp b hb z => ?_) ⟨#[], c3, rfl, .nil⟩
      (inv_moved (I6.pins_of fun p hp => ?_) rfl (allBare_setGen (s := { s5 with heap := _ }) I5.bare rfl) fun _ _ q => q) (keep _ _ _ st5 fun b hb o q => k3 b o q)
    · obtain ⟨acc, c, rfl, _⟩ := hac
      rcases List.mem_cons.mp hp with e | e
      · rw [e] at z
        exact absurd (hlt b hb) (by rw [← z]; exact Nat.lt_irrefl _)
      · rw [List.mem_singleton.mp e] at z
        exact hfS b hb z.symm
    · rcases List.mem_cons.mp hp with e | e
      · rw [e]
        exact I6.pin (ga, go) (List.mem_append_right _ List.mem_cons_self)
      · rw [List.mem_singleton.mp e]
        exact ⟨hS₄, fS.1, fS.2.1, fS.2.2.1, fun v q => by cases q⟩
end
section
variable {X : Cx}
/-- tuple(elt for tg in iter ..) -/
def tTupX (P : Addr) (wi : TI) (g : TG) (tt : TT) (te : TE) (vs : List Nat) : TE := fun σ H Q => wi σ H fun J H1 => GxR.TabG H1 P ∧ ∀ H2, GxR.Tabbed P H1 H2 → ∃ W : Nat → Nat → List V → Hp → Prop, (∃ m, W 0 m [] H2) ∧
  tGx J g tt te (wipe σ vs) vs (fun ys H => ys.length ≤ sizeLine ∧ ∀ p, H p = none → Q (.ref p) (upd H p (.tup ys))) YdL W
theorem pe_tupX {c P : Addr} {elt tg iter : Expr} {ifs : List Expr} {p pos gpos : Pos} {scope : Scope} {own : List (Str × Nat)} {wi : TI} {g : TG} {tt : TT} {te : TE} {k : Nat}
    (hr : Room (k + 1) X.A) (hc : X.calm = true) (hN : X.N.Nodup) (hgl : Gl X "tuple") (hm : X.mg "tuple" = none) (hb : bootBuiltins "tuple" = some (.type "tuple")) (TB : GxR.TabB X.base X.mg c P) (hcode : X.env.code = .ref c)
    (hco : scope.isCoroutine = false) (hdot : scope.names.lookup (".0" : Str) = some NameKind.local) (nocell : ∀ y ∈ scope.names, y.2 ≠ .cell) (ok : BlkOk X.N X.env.scope scope own) (hi : PI X tg iter wi)
    (hg : ∀ (A' : Around) (s : Shared) (H : Hp) (C : Addr) (cl : List (Str × Addr)) (code : Value) (fp : List Addr), Room k A' → A'.guards = X.A.guards → PG (gblk X A' s H (genEnv scope cl C code builtinsNs X.env) fp) tg g)
    (ht : ∀ (A' : Around) (s : Shared) (H : Hp) (C : Addr) (cl : List (Str × Addr)) (code : Value) (fp : List Addr), Room k A' → A'.guards = X.A.guards → PTs (gblk X A' s H (genEnv scope cl C code builtinsNs X.env) fp) ifs tt)
    (he : ∀ (A' : Around) (s : Shared) (H : Hp) (C : Addr) (cl : List (Str × Addr)) (code : Value) (fp : List Addr), Room k A' → A'.guards = X.A.guards → PE (gblk X A' s H (genEnv scope cl C code builtinsNs X.env) fp) elt te)
    (hs : ∀ v, genFold iter X.env v = pure v)
    (hst : starEach [.GeneratorExp elt [⟨tg, iter, ifs, 0⟩] scope gpos] X.env = (false, eval (.GeneratorExp elt [⟨tg, iter, ifs, 0⟩] scope gpos) X.env) :: starEach [] X.env := by rfl) :
    PE X (.Call (.Name "tuple" p) [.GeneratorExp elt [⟨tg, iter, ifs, 0⟩] scope gpos] [] pos) (tTupX P wi g tt te (own.map (·.2))) := by
  refine ⟨fun pins s σ H Q I h => ?_⟩
  refine wpAny_Call_Name_kw (ld_blt I hgl hm hb ?_)
  refine PyProof.Rows.callWith_type1 ?_ hst (by rfl)
  rw [hst]
  show wpAny _ _ (spliced ((false, eval (.GeneratorExp elt [⟨tg, iter, ifs, 0⟩] scope gpos) X.env) :: backTo pos (starEach [] X.env))) _ _ s
  refine Calls.spliced_cons (gx_make (A := X.A.in1.in1.in1.in1) hr ⟨rfl, rfl, rfl, rfl, (by show X.A.units + 1 + 1 + 1 + 1 ≤ _; omega)⟩ hc hN TB hcode hco hdot nocell ok hi hg ht he hs I h fun J H1 H2 u s5 hR hT hG => ?_)
  obtain ⟨W, ⟨m, w0⟩, turn⟩ := hR H2 hT
  refine Calls.spliced_nil ?_
  have ⟨A', s_0, H_0, cenv, fp, ga, gn, go, tn, gs, eu, hGO, hgs, hbare, I5, st5, nf, hlt, keep, back, goes⟩ := hG
  have pin5 := (I5.pin (ga, go) (List.mem_append_right _ List.mem_cons_self)).1
  rw [eu] at hG ⊢
  refine callType_codes (Q₁ := fun obj s₁ => s₁.TypeIs obj "tuple" ∧ EP X pins σ Q obj s₁) F.called_tuple (F.typeCall_tuple_1 _) F.entry_object_init ?_ fun obj s₁ h₁ =>
    ⟨h₁.1, F.args_object_init_2 obj _, object_init_meets F.called_tuple.init.lookup F.called_tuple.made (by decide) X.prog X.w X.A.in1 _ s₁ ⟨h₁.1, rfl, h₁.2⟩⟩
  refine codeAny_of_tree ?_
  show wpAny _ X.A.in1.in1 (do checkBuiltinCall "tuple.__new__" ⟨[.type "tuple", .ref ga], []⟩; again (.builtin "tuple.__new__" ⟨[.type "tuple", .ref ga], []⟩)) _ _ s5
  refine wpAny_bind (wpAny_of_eq (F.newCall_tuple_1 _) (wpAny_pure ⟨plainId_quiet F.plain_tuple_new _, codeAny_builtin F.entry_tuple_new ?_⟩))
  rw [Around.under_plainId F.plain_tuple_new _]
  have hsub := sub_tuple_self
  have hinit := init_tuple_lookup
  have hmh := madeHere_tuple
  have hTI : s5.TypeIs (.ref ga) "generator" := (hGO.isGen pin5).typeIs
  have col : ∀ {Q0 : List Value → Shared → Prop} {E0 : Value → Shared → Prop}, (∀ (s' : Shared) (acc : Array Value), (∃ (ys : List V) (H' : Hp), Inv X pins σ H' s' ∧ Vals ys acc.toList ∧ ys.length ≤ sizeLine ∧ ∀ p, H' p = none → Q (.ref p) (upd H' p (.tup ys))) → Q0 acc.toList s') →
      wpAny (model X.prog X.w) X.A.in1.in1 (collect (.ref ga)) Q0 E0 s5 := fun hq => collect_gx hr.hd hr.depth hG w0 turn (fun s' acc ys H' I' rv q => hq s' acc ⟨ys, H', I', rv, q.1, q.2⟩)
  wp_walk using wpAny_typeOf hTI, col
  rintro s' acc ⟨ys, H', I', rv, small, q⟩
  show wpAny _ _ (Builtin.Tuple.tupleExact acc.toList.toArray >>= fun v => ret v) _ _ _
  unfold Builtin.Tuple.tupleExact
  refine wpAny_bind (wpAny_newObj_type ?_ (by show acc.toList.toArray.size ≤ sizeLine; rw [List.size_toArray, ← rv.length]; exact small))
  refine wpAny_pure ?_
  have free : H' s'.heap.objs.size = none := I'.hok.fresh (Nat.le_refl _)
  refine ⟨⟨_, Heap.get?_push_size _ rfl, rfl⟩, .ref s'.heap.objs.size, upd H' s'.heap.objs.size (.tup ys), I'.laid (t' := s'.toks) (fun b u z => Heap.get?_push_of_some _ z) (Nat.le_refl _) ⟨small, acc.toList, rv, ?_⟩, rfl, q _ free⟩
  exact ⟨_, Heap.get?_push_size _ rfl, rfl, 0, rfl⟩
end
/-! ### a def by its body, its code object known -/
theorem okC {P : Program} {w : World} {K : PySem.W.Frag} {mg : Str → Option Value} {base : Heap} {x qual : Str} {st : Stmt} {f : Addr} {fd : FuncData} {N ps : List Str} {k : Nat} {sp : Sp} (F : Fun K x qual st f fd) (S : FnScope N ps (defScope st)) (len : ∀ vs H Q E, sp vs H Q E → vs.length = ps.length)
    (body : ∀ (A : Around) (outer : List Env) (s : Shared) (H : Hp) (vs : List V) (Q : VK) (E : XK), Room k (A.deeper (envOfC qual (defScope st) s.heap.objs.size f fd.code)) → sp vs H Q E →
      ∃ t, PSs (cxOf CX0 P w K mg base N qual (defScope st) f fd.code A outer s H E).nox (defBody st) t ∧ t { nx := fun _ H' => Q .non H', rt := Q } (start N vs) H) : FnOk P w K mg base CX0 (k + 1) f fd ps sp := by
  obtain ⟨oc, od, kV, doc, pm, an, cdv, ct, osl, rfl, lk, hcd⟩ := F.ex
  refine fn_of lk hcd S len fun A outer s H vs Q E hr hsp => ?_
  obtain ⟨t, h, q⟩ := body A outer s H vs Q E hr hsp
  exact ⟨t, h.nox, q⟩
/-! ### from the head's facts -/
theorem fun_of {K : PySem.W.Frag} {x qual : Str} {st : Stmt} {f : Addr} {fd : FuncData} (F : FunD K x qual (defArgs st) (defBody st) (defScope st) [] [] f fd) : Fun K x qual st f fd := by
  obtain ⟨oc, od, dV, kV, doc, pm, an, cdv, ct, osl, rfl, lk, hcd, hd, _⟩ := F.ex
  rcases hd with ⟨_, rfl⟩ | ⟨z, _⟩
  · exact ⟨⟨oc, od, kV, doc, pm, an, cdv, ct, osl, rfl, lk, hcd⟩, F.kp⟩
  · exact absurd rfl z
theorem code_of {K : PySem.W.Frag} {x qual : Str} {st : Stmt} {p : He.Defn} {fd : FuncData} (F : Fun K x qual st (He.fAd K p) fd) : fd.code = .ref (He.cT K p).1 := by
  obtain ⟨oc, od, kV, doc, pm, an, cdv, ct, osl, rfl, lk, hcd⟩ := F.ex
  obtain ⟨c, rfl⟩ := He.codeIn_ref hcd
  show Value.ref c = Value.ref (He.codeOf K p)
  rw [He.codeOf_eq lk rfl]
theorem tab_of {base : Heap} {mg : Str → Option Value} {c P : Addr} (h : LamX.TabB base mg c P) : GxR.TabB base mg c P := ⟨h.code, h.bm, h.gP⟩
/-! ### heaps whose tables grow -/
def Tabs (H : Hp) (Ps : List Addr) : Prop := ∀ P ∈ Ps, GxR.TabG H P
/-- what is no table stays; tables stay tables -/
def Gr (H H' : Hp) : Prop := (∀ b o, (∀ ps, o ≠ HO.tbl ps) → H b = some o → H' b = some o) ∧ ∀ b, GxR.TabG H b → GxR.TabG H' b
theorem Gr.refl {H : Hp} : Gr H H := ⟨fun _ _ _ e => e, fun _ e => e⟩
theorem Gr.trans {H H1 H2 : Hp} (a : Gr H H1) (b : Gr H1 H2) : Gr H H2 := ⟨fun c o n e => b.1 c o n (a.1 c o n e), fun c e => b.2 c (a.2 c e)⟩
theorem Gr.of {H H' : Hp} (h : ∀ b o, H b = some o → H' b = some o) : Gr H H' := ⟨fun b o _ e => h b o e, fun b ⟨ps, e, t⟩ => ⟨ps, h _ _ e, t⟩⟩
theorem Gr.tab {P : Addr} {H H' : Hp} (t : GxR.TabG H P) (h : GxR.Tabbed P H H') : Gr H H' := by
  obtain ⟨ps, e, _⟩ := t
  refine ⟨fun b o n q => ?_, fun b q => ?_⟩
  · by_cases hb : b = P
    · rw [hb, e] at q
      exact absurd (Option.some.inj q).symm (n ps)
    · rw [h.2 b hb]; exact q
  · by_cases hb : b = P
    · rw [hb]; exact h.1
    · obtain ⟨ps', e', t'⟩ := q
      exact ⟨ps', by rw [h.2 b hb]; exact e', t'⟩
theorem Gr.tup {H H' : Hp} (g : Gr H H') {a : Addr} {xs : List V} (h : H a = some (.tup xs)) : H' a = some (.tup xs) := g.1 a _ (fun _ z => by cases z) h
theorem Gr.lst {H H' : Hp} (g : Gr H H') {a : Addr} {xs : List V} (h : H a = some (.lst xs)) : H' a = some (.lst xs) := g.1 a _ (fun _ z => by cases z) h
theorem Gr.tabs {H H' : Hp} (g : Gr H H') {Ps : List Addr} (h : Tabs H Ps) : Tabs H' Ps := fun P hP => g.2 P (h P hP)
theorem Gr.none {H : Hp} {a : Addr} {o : HO} (n : H a = Option.none) : Gr H (upd H a o) := Gr.of fun b u e => by
  rw [upd_ne (ne_of_none e n)]
  exact e
namespace CwR
/-- behind it a token is out -/
def PEp (X : Cx) (e : Expr) (t : TE) : Prop := ∀ (pins : List (Addr × Obj)) (s : Shared) (σ : L2.St) (H : Hp) (Q : VK), Inv X pins σ H s → t σ H Q → wpAny (model X.prog X.w) X.A (eval e X.env) (fun u s' => 1 ≤ s'.toks ∧ EP X pins σ Q u s') X.xe s
theorem pep_ix {X : Cx} {a : Expr} {i : Int} {j : Nat} {p pos : Pos} {ta : TE} {r : R2} (hr : IxR X r) (ha : PE X a ta) (hs : PlainIx (.Constant (.int i) j p)) : PEp X (.Subscript a (.Constant (.int i) j p) pos) (tOp r ta (tC (.int i))) := by
  intro pins s σ H Q I h
  refine Subscript_ (thn (ha.run pins s σ H _ I h) fun v s1 ⟨x, H1, I1, r1, q1⟩ => wpAny_Constant_int ?_)
  refine wpAny_mono (PySem.wpAny_toks (hr a _ pins { s1 with toks := s1.toks + 1 } σ H1 x (.int i) v (.int i s1.toks) Q (I1.tok _) r1 ⟨_, rfl⟩ q1 (hs _ _))) (fun u s2 q => ⟨?_, q.2⟩) fun _ _ z => z.2
  have h1 : s1.toks + 1 ≤ s2.toks := q.1
  omega
theorem pep_repl {X : Cx} {o : Expr} {to : TE} {y z : Str} {j k : Nat} {c0 c1 apos pos : Pos} (ho : PEp X o to) (hyz : (y == z) = false := by decide)
    (hst : starEach [.Constant (.str y) j c0, .Constant (.str z) k c1] X.env = [(false, eval (.Constant (.str y) j c0) X.env), (false, eval (.Constant (.str z) k c1) X.env)] := by rfl)
    (hbase : attributeBase o "replace" X.env (eval o X.env) = eval o X.env := by rfl) (hline : (apos.endLine == pos.line) = true := by rfl) :
    PEp X (.Call (.Attribute o "replace" apos) [.Constant (.str y) j c0, .Constant (.str z) k c1] [] pos) (CwR.tReplC to y z) := by
  intro pins s σ H Q I h
  refine PySem.Call_method2 hbase hst hline (wpAny_mono (ho pins s σ H _ I h) (fun v s1 q => ?_) fun _ _ z => z)
  obtain ⟨hk, v', H1, I1, r1, x, e1, hb, q⟩ := q
  subst e1
  obtain ⟨tx, e2⟩ := r1
  subst e2
  refine ⟨"str", _, PySem.F.plainAttrs_str, PySem.F.slot_str_replace, PySem.F.type_str_replace, typeIs_str _ _ _, (fun _ e => nomatch e), Calls.callWith_builtin rfl (Calls.evalArgs_plain (Calls.spliced_cons ?_))⟩
  refine Calls.Constant_str (Calls.spliced_cons (Calls.Constant_str (Calls.spliced_nil ?_)))
  refine wpAny_mono (PySem.wpAny_toks (PySem.SC.replace (Q := fun u s' => EP X pins σ Q u s') (by show s1.toks ≠ 0; omega) (by show s1.toks + 1 ≠ 0; omega) (by show s1.toks ≠ s1.toks + 1; omega) hyz hb fun t' k => ⟨.str (Txt.replace x y z), H1, I1.tok k, ⟨t', rfl⟩, q⟩)) (fun u s2 q => ⟨?_, q.2⟩) fun _ _ z => z.2
  have h1 : s1.toks + 1 + 1 ≤ s2.toks := q.1
  omega
theorem pe_replP {X : Cx} {e : Expr} {t : TE} (h : PEp X e t) : PE X e t := ⟨fun pins s σ H Q I q => wpAny_mono (h pins s σ H Q I q) (fun _ _ z => z.2) fun _ _ z => z⟩
end CwR

/-! ### heaps -/
theorem same_upd {H : Hp} {p : Addr} {o : HO} (h : H p = none) : Same H (upd H p o) := fun b x e => by
  rw [upd_ne (ne_of_none e h)]
  exact e
def Fr (d l : Addr) (H H' : Hp) : Prop := ∀ b o, b ≠ d → b ≠ l → H b = some o → H' b = some o
theorem Fr.trans {d l : Addr} {H H1 H2 : Hp} (a : Fr d l H H1) (b : Fr d l H1 H2) : Fr d l H H2 := fun c o h1 h2 h => b c o h1 h2 (a c o h1 h2 h)
theorem Fr.refl {d l : Addr} {H : Hp} : Fr d l H H := fun _ _ _ _ h => h
theorem Fr.new {d l p : Addr} {H : Hp} {o : HO} (h : H p = none) : Fr d l H (upd H p o) := fun b x _ _ e => same_upd h b x e
theorem Fr.of {d l : Addr} {H H' : Hp} (h : Same H H') : Fr d l H H' := fun b x _ _ e => h b x e
theorem Fr.d {d l : Addr} {H : Hp} {o : HO} : Fr d l H (upd H d o) := fun b x h1 _ e => by rw [upd_ne h1]; exact e
theorem Fr.l {d l : Addr} {H : Hp} {o : HO} : Fr d l H (upd H l o) := fun b x _ h2 e => by rw [upd_ne h2]; exact e
def Deck (H : Hp) (d l : Addr) : Prop := d ≠ l ∧ ∃ (cs : List Int) (z : Int), H d = some (.lst [.ref l, .int z]) ∧ H l = some (.lst (cs.map V.int)) ∧ cs.length ≤ 63 ∧ 0 ≤ z ∧ z < 4294967296
theorem Deck.same {H H' : Hp} {d l : Addr} (D : Deck H d l) (s : Same H H') : Deck H' d l := by
  obtain ⟨ne, cs, z, hd, hl, r⟩ := D
  exact ⟨ne, cs, z, s _ _ hd, s _ _ hl, r⟩
theorem Deck.new {H : Hp} {d l p : Addr} {o : HO} (D : Deck H d l) (h : H p = none) : Deck (upd H p o) d l := D.same (same_upd h)
theorem Deck.ne_new {H : Hp} {d l p : Addr} (D : Deck H d l) (h : H p = none) : p ≠ d ∧ p ≠ l := by
  obtain ⟨ne, cs, z, hd, hl, r⟩ := D
  exact ⟨(ne_of_none hd h).symm, (ne_of_none hl h).symm⟩
theorem p29 : (0 : Int) < 2147483629 := by decide
theorem p47 : (0 : Int) < 2147483647 := by decide
theorem p87 : (0 : Int) < 2147483587 := by decide
theorem sl1 : 1 ≤ sizeLine := by decide
theorem sl2 : 2 ≤ sizeLine := by decide
theorem sl3 : 3 ≤ sizeLine := by decide
theorem sl4 : 4 ≤ sizeLine := by decide
theorem seqIx0 {α : Type} (x : α) (xs : List α) : seqIndex? 0 (x :: xs).length = some 0 := by
  refine (ixN_seq (n := (x :: xs).length) (i := 0) (j := 0) ?_).1
  unfold ixN
  rw [if_pos (by decide), if_pos (by rw [List.length_cons]; omega)]
  rfl
theorem dpInts {K : PySem.W.Frag} {H : Hp} : ∀ cs : List Int, DpAll K H (cs.map V.int) (cs.map PyData.int)
  | [] => .nil
  | c :: r => .cons (.int c) (dpInts r)
theorem shInts (ns : List Int) : SeqAt.shaped (.list (ns.map PyData.int)) = true := by
  unfold SeqAt.shaped
  rw [Bool.and_eq_true]
  refine ⟨?_, ?_⟩
  · simp only [PyData.canLay0, canLayAll_ints]
  · simp only [PyData.depth, depthAll_ints]
    decide
theorem at_pick {xs : List V} {j : Int} (h0 : 0 ≤ j) (h1 : j < xs.length) : ∃ x, atI xs j = some x ∧ x ∈ xs := by
  obtain ⟨k, rfl⟩ : ∃ k : Nat, j = (k : Int) := ⟨j.toNat, (Int.toNat_of_nonneg h0).symm⟩
  have hk : k < xs.length := by omega
  exact ⟨xs[k], atI_nat (List.getElem?_eq_getElem hk), List.getElem_mem hk⟩
theorem units65 {k : Nat} {A : Around} (r : Room k A) : A.units + 65 < cLine := by have := r.un; omega
def rLenK (K : PySem.W.Frag) : List V → Hp → VK → Prop := fun xs H Q => ∃ p ys, xs = [.ref p] ∧ (SqL K H p ys ∨ SqT K H p ys) ∧ Q (.int ys.length) H
def rTupK (K : PySem.W.Frag) : List V → Hp → VK → Prop := fun xs H Q => ∃ p ys, xs = [.ref p] ∧ ((SqL K H p ys ∧ ∀ l, H l = none → Q (.ref l) (upd H l (.tup ys))) ∨ (SqT K H p ys ∧ Q (.ref p) H))
def rLstK (K : PySem.W.Frag) : List V → Hp → VK → Prop := fun xs H Q => ∃ p ys, xs = [.ref p] ∧ (SqL K H p ys ∨ SqT K H p ys) ∧ ∀ l, H l = none → Q (.ref l) (upd H l (.lst ys))
/-- joining ways behind a test, behind an expression -/
def tCutT (t : TT) : TT := fun σ H Q => ∃ Mid : Bool → Hp → Prop, t σ H Mid ∧ ∀ b H1, Mid b H1 → Q b H1
theorem pt_cut {X : Cx} {e : Expr} {t : TT} (h : PT X e t) : PT X e (tCutT t) := ⟨fun pins s σ H Q I hw => by
  obtain ⟨Mid, h1, q⟩ := hw
  exact thn (h.run pins s σ H _ I h1) fun c s1 ⟨H1, I1, m⟩ => ⟨H1, I1, q _ _ m⟩⟩
def tCutE (t : TE) : TE := fun σ H Q => ∃ Mid : VK, t σ H Mid ∧ ∀ v H1, Mid v H1 → Q v H1
theorem pe_cut {X : Cx} {e : Expr} {t : TE} (h : PE X e t) : PE X e (tCutE t) := ⟨fun pins s σ H Q I hw => by
  obtain ⟨Mid, h1, q⟩ := hw
  exact thn (h.run pins s σ H _ I h1) fun u s1 ⟨v, H1, I1, r, m⟩ => ⟨v, H1, I1, r, q _ _ m⟩⟩

/-! ### data made by the law or the program: numbers, truths, texts, lists and tuples of these -/
mutual
inductive Tk (H : Hp) : V → PyData → Prop
  | bl (b : Bool) : Tk H (.bl b) (.bool b)
  | int (i : Int) : Tk H (.int i) (.int i)
  | str (x : Str) : Tk H (.str x) (.str x)
  | lst {a : Addr} {xs : List V} {ds : List PyData} : H a = some (.lst xs) → TkAll H xs ds → Tk H (.ref a) (.list ds)
  | tup {a : Addr} {xs : List V} {ds : List PyData} : H a = some (.tup xs) → TkAll H xs ds → Tk H (.ref a) (.tuple ds)
inductive TkAll (H : Hp) : List V → List PyData → Prop
  | nil : TkAll H [] []
  | cons {v : V} {vs : List V} {d : PyData} {ds : List PyData} : Tk H v d → TkAll H vs ds → TkAll H (v :: vs) (d :: ds)
end
theorem TkAll.length {H : Hp} : ∀ {vs : List V} {ds : List PyData}, TkAll H vs ds → vs.length = ds.length
  | _, _, .nil => rfl
  | _, _, .cons _ t => by rw [List.length_cons, List.length_cons, t.length]
mutual
theorem Tk.same {H H' : Hp} (s : Same H H') : ∀ {v : V} {d : PyData}, Tk H v d → Tk H' v d
  | _, _, .bl b => .bl b
  | _, _, .int i => .int i
  | _, _, .str x => .str x
  | _, _, .lst h t => .lst (s _ _ h) (t.same s)
  | _, _, .tup h t => .tup (s _ _ h) (t.same s)
theorem TkAll.same {H H' : Hp} (s : Same H H') : ∀ {vs : List V} {ds : List PyData}, TkAll H vs ds → TkAll H' vs ds
  | _, _, .nil => .nil
  | _, _, .cons h t => .cons (h.same s) (t.same s)
end
theorem TkAll.get {H : Hp} : ∀ {xs : List V} {ds : List PyData} {j : Nat} {x : V}, TkAll H xs ds → xs[j]? = some x → ∃ d, ds[j]? = some d ∧ Tk H x d
  | _, _, _, _, .nil, h => by simp at h
  | _, _, 0, _, .cons (d := d) a _, h => by
    cases (Option.some.inj h)
    exact ⟨d, rfl, a⟩
  | _, _, j + 1, _, .cons _ t, h => t.get h
theorem TkAll.append {H : Hp} : ∀ {xs ys : List V} {ds es : List PyData}, TkAll H xs ds → TkAll H ys es → TkAll H (xs ++ ys) (ds ++ es)
  | _, _, _, _, .nil, t => t
  | _, _, _, _, .cons a r, t => .cons a (r.append t)
theorem TkAll.ints {H : Hp} : ∀ ns : List Int, TkAll H (ns.map V.int) (ns.map PyData.int)
  | [] => .nil
  | n :: r => .cons (.int n) (TkAll.ints r)
theorem Tk.int_inv {H : Hp} {v : V} {i : Int} (h : Tk H v (.int i)) : v = .int i := by cases h; rfl
theorem Tk.tup_inv {H : Hp} {v : V} {ds : List PyData} (h : Tk H v (.tuple ds)) : ∃ a xs, v = .ref a ∧ H a = some (.tup xs) ∧ TkAll H xs ds := by
  cases h with
  | tup h t => exact ⟨_, _, rfl, h, t⟩
theorem Tk.lst_inv {H : Hp} {v : V} {ds : List PyData} (h : Tk H v (.list ds)) : ∃ a xs, v = .ref a ∧ H a = some (.lst xs) ∧ TkAll H xs ds := by
  cases h with
  | lst h t => exact ⟨_, _, rfl, h, t⟩
theorem TkAll.int_inv {H : Hp} : ∀ {vs : List V} {ns : List Int}, TkAll H vs (ns.map PyData.int) → vs = ns.map V.int
  | _, [], .nil => rfl
  | _, n :: r, .cons h t => by rw [List.map_cons, h.int_inv, t.int_inv]
/-- heaps without one place -/
def hd1 (p : Addr) (H : Hp) : Hp := fun b => if b = p then none else H b
theorem hd1_le {p : Addr} {H : Hp} : Same (hd1 p H) H := fun b o e => by
  unfold hd1 at e
  by_cases h : b = p
  · rw [if_pos h] at e; cases e
  · rw [if_neg h] at e; exact e
theorem hd1_same {p : Addr} {H H' : Hp} (s : Same H H') : Same (hd1 p H) (hd1 p H') := fun b o e => by
  unfold hd1 at e ⊢
  by_cases h : b = p
  · rw [if_pos h] at e; cases e
  · rw [if_neg h] at e ⊢; exact s _ _ e
theorem hd1_upd {p : Addr} {H : Hp} {o : HO} : Same (hd1 p H) (hd1 p (upd H p o)) := fun b x e => by
  unfold hd1 at e ⊢
  by_cases h : b = p
  · rw [if_pos h] at e; cases e
  · rw [if_neg h] at e ⊢; rw [upd_ne h]; exact e
theorem hd1_at {p b : Addr} {H : Hp} (h : b ≠ p) : hd1 p H b = H b := if_neg h
theorem hd1_of {p : Addr} {H H' : Hp} (s : Same H H') (n : H p = none) : Same H (hd1 p H') := fun b o e => by
  rw [hd1_at (ne_of_none e n)]
  exact s _ _ e
theorem same_of_hd1 {p : Addr} {H H' : Hp} {o : HO} (s : Same H (hd1 p H')) : Same H (upd H' p o) := fun b x e => by
  have z := s b x e
  unfold hd1 at z
  by_cases h : b = p
  · rw [if_pos h] at z; cases z
  · rw [if_neg h] at z; rw [upd_ne h]; exact z

/-! ### tables and gates -/
def tabOf (bs : List Bool) : Str := ⟨(bs.map fun b => if b = true then 49 else 48).toArray⟩
def plc (ws : List Int) : Int := ws.foldl (fun p w => 2 * p + w) 0
def gateM (bs : List Bool) (ws : List Int) : Int := if bs.getD (plc ws).toNat false = true then 1 else 0
theorem plc_snoc (ws : List Int) (w : Int) : plc (ws ++ [w]) = 2 * plc ws + w := by
  unfold plc
  rw [List.foldl_append]
  rfl
theorem plc_take {ws : List Int} {i : Nat} {u : Int} (h : ws[i]? = some u) : plc (ws.take (i + 1)) = 2 * plc (ws.take i) + u := by
  rw [List.take_add_one, h]
  exact plc_snoc _ _
theorem plc_bd : ∀ (n : Nat) (ws : List Int), ws.length = n → (∀ w ∈ ws, w = 0 ∨ w = 1) → 0 ≤ plc ws ∧ plc ws < 2 ^ n := by
  intro n
  induction n with
  | zero =>
    intro ws h _
    cases List.eq_nil_of_length_eq_zero h
    decide
  | succ n ih =>
    intro ws h hw
    have hne : ws ≠ [] := fun z => by rw [z] at h; cases h
    obtain ⟨r, x, rfl⟩ : ∃ r x, ws = r ++ [x] := ⟨ws.dropLast, ws.getLast hne, (List.dropLast_concat_getLast hne).symm⟩
    have hr := ih r (by rw [List.length_append] at h; simpa using h) fun w h' => hw w (List.mem_append_left _ h')
    have hx := hw x (by simp)
    rw [plc_snoc, Int.pow_succ]
    omega
theorem gate01 (bs : List Bool) (ws : List Int) : gateM bs ws = 0 ∨ gateM bs ws = 1 := by
  unfold gateM
  split
  · exact .inr rfl
  · exact .inl rfl
theorem int_sign (b : Bool) : PySem.intText? ⟨#[if b = true then 49 else 48]⟩ = some (if b = true then 1 else 0) := by
  cases b <;> decide +kernel
def spGate (K : PySem.W.Frag) : Sp := fun vs H Q _ => ∃ (bs : List Bool) (la : Addr) (ws : List Int), vs = [.str (tabOf bs), .ref la] ∧ SqL K H la (ws.map V.int) ∧ (∀ w ∈ ws, w = 0 ∨ w = 1) ∧ bs.length = 2 ^ ws.length ∧ ws.length ≤ 3 ∧ Q (.int (gateM bs ws)) H
theorem gate_read {bs : List Bool} {ws : List Int} (hw : ∀ w ∈ ws, w = 0 ∨ w = 1) (hb : bs.length = 2 ^ ws.length) (h3 : ws.length ≤ 3) : ∃ b : Bool, 0 ≤ plc ws ∧ plc ws < 2 ^ 63 ∧ plc ws < (tabOf bs).length ∧ (tabOf bs).cps[(plc ws).toNat]? = some (if b = true then 49 else 48) ∧ gateM bs ws = if b = true then 1 else 0 := by
  obtain ⟨p0, p1⟩ := plc_bd _ ws rfl hw
  have p8 : plc ws < 8 := by
    have : (2 : Int) ^ ws.length ≤ 8 := by
      have : ws.length = 0 ∨ ws.length = 1 ∨ ws.length = 2 ∨ ws.length = 3 := by omega
      rcases this with h | h | h | h <;> rw [h] <;> decide
    omega
  have hlt : (plc ws).toNat < bs.length := by
    have : ((2 ^ ws.length : Nat) : Int) = (2 : Int) ^ ws.length := by simp
    omega
  refine ⟨bs[(plc ws).toNat], p0, by omega, ?_, ?_, ?_⟩
  · have : (tabOf bs).length = bs.length := by simp [tabOf, Str.length]
    rw [this]
    omega
  · simp [tabOf, List.getElem?_eq_getElem hlt]
  · unfold gateM
    rw [List.getD_eq_getElem?_getD, List.getElem?_eq_getElem hlt]
    rfl

/-! ### walks -/
theorem gx_tup {α : Type} {K : PySem.W.Frag} {a : Addr} {xs : List V} {g : TG} {tt : TT} {te : TE} {vs : List Nat} {σ0 : L2.St} {End : α → Hp → Prop} {Yd : α → V → Hp → (α → Hp → Prop) → Prop} {a0 : α} {H0 : Hp} (Pv : Nat → α → Hp → Prop) (h0 : Pv 0 a0 H0)
    (hl : ∀ i c H, i ≤ xs.length → Pv i c H → SqT K H a xs)
    (hs : ∀ i x c H, xs[i]? = some x → Pv i c H → g x σ0 H fun σ2 H2 => wipe σ2 vs = σ0 ∧ tt σ2 H2 fun b H3 => if b = true then te σ2 H3 fun y H4 => Yd c y H4 (Pv (i + 1)) else Pv (i + 1) c H3) (hd : ∀ c H, Pv xs.length c H → End c H) :
    ∃ W : Nat → Nat → α → Hp → Prop, (∃ m, W 0 m a0 H0) ∧ tGx (Itt K a) g tt te σ0 vs End Yd W := by
  refine ⟨fun i m c H => m = xs.length - i ∧ i ≤ xs.length ∧ Pv i c H, ⟨xs.length, rfl, Nat.zero_le _, h0⟩, ?_⟩
  rintro i m c H ⟨rfl, hi, p⟩
  by_cases hlt : i < xs.length
  · have hx : xs[i]? = some xs[i] := List.getElem?_eq_getElem hlt
    refine .inr ⟨⟨xs, xs[i], hl i c H hi p, hx⟩, Pv (i + 1), fun c' H' p' => ⟨xs.length - (i + 1), by omega, rfl, hlt, p'⟩, fun x H' y => ?_⟩
    obtain ⟨rfl, y⟩ := y
    exact hs i x c _ (y xs (hl i c _ hi p)) p
  · have e : i = xs.length := by omega
    subst e
    exact .inl ⟨⟨xs, hl _ c H hi p, Nat.le_refl _⟩, hd c H p⟩
theorem lc_zipT {K : PySem.W.Frag} {a b : Addr} {xs ys : List V} {g : TG} {tt : TT} {te : TE} {vs : List Nat} {σ : L2.St} {H1 : Hp} {D : Addr} {Qd : Hp → Prop} (el : xs.length = ys.length) (Pv : Nat → Hp → Prop) (h0 : Pv 0 (upd H1 D (.lst []))) (hl : ∀ i H, i ≤ xs.length → Pv i H → SqT K H a xs ∧ SqT K H b ys)
    (hs : ∀ i x y T H, xs[i]? = some x → ys[i]? = some y → H T = none → Pv i H → g (.ref T) (wipe σ vs) (upd H T (.tup [x, y])) fun σ2 H2 => wipe σ2 vs = wipe σ vs ∧ tt σ2 H2 fun b H3 =>
      if b = true then te σ2 H3 fun y H4 => ∃ acc, H4 D = some (.lst acc) ∧ acc.length < sizeLine ∧ Pv (i + 1) (upd H4 D (.lst (acc ++ [y]))) else Pv (i + 1) H3) (hd : ∀ H, Pv xs.length H → Qd H) :
    ∃ W : Nat → Nat → Hp → Prop, (∃ m, W 0 m (upd H1 D (.lst []))) ∧ ∀ i m H, W i m H →
      ((RZ.ItzT K a b).stop i H ∧ Qd H) ∨ ((RZ.ItzT K a b).go i H ∧ ∃ Nx : Hp → Prop, (∀ H', Nx H' → ∃ m', m' < m ∧ W (i + 1) m' H') ∧ ∀ x H', (RZ.ItzT K a b).yld i H x H' → g x (wipe σ vs) H' fun σ2 H2 => wipe σ2 vs = wipe σ vs ∧ tt σ2 H2 fun b H3 =>
        if b = true then te σ2 H3 fun y H4 => ∃ acc, H4 D = some (.lst acc) ∧ acc.length < sizeLine ∧ Nx (upd H4 D (.lst (acc ++ [y]))) else Nx H3) := by
  refine ⟨fun i m H => m = xs.length - i ∧ i ≤ xs.length ∧ Pv i H, ⟨xs.length, by simp, Nat.zero_le _, h0⟩, ?_⟩
  rintro i m H ⟨rfl, hi, p⟩
  obtain ⟨qx, qy⟩ := hl i H hi p
  by_cases hlt : i < xs.length
  · have hx : xs[i]? = some xs[i] := List.getElem?_eq_getElem hlt
    have hy : ys[i]? = some (ys[i]'(by omega)) := List.getElem?_eq_getElem _
    refine .inr ⟨⟨xs, ys, _, _, qx, qy, hx, hy⟩, Pv (i + 1), fun H' p' => ⟨xs.length - (i + 1), by omega, rfl, hlt, p'⟩, fun x H' y => ?_⟩
    obtain ⟨T, x1, y1, rfl, nT, rfl, e1, e2⟩ := y
    exact hs i x1 y1 T H (e1 xs qx) (e2 ys qy) nT p
  · have e : i = xs.length := by omega
    subst e
    exact .inl ⟨⟨xs, ys, qx, qy, .inl (Nat.le_refl _)⟩, hd H p⟩

/-! ### enumerate(tuple) -/
theorem draws_tuple {P : Program} {w : World} {A : Around} (hA : A.handled = none) (it a : Addr) (items : Array Value) (hne : a ≠ it) : Draws P w A it [it, a] items.size (fun i v => items[i]? = some v) (fun i h => h.IsTupleIter it a i ∧ h.IsTuple a items) where
  live := fun _ _ st => let ⟨o, ho, _⟩ := st.1; ⟨o, ho⟩
  frame := fun _ _ _ st hk => ⟨st.1.at fun o e => hk it (by simp) o e, by
    obtain ⟨o, ho, r⟩ := st.2
    exact ⟨o, hk a (by simp) o ho, r⟩⟩
  item := fun i s Q E hi st hQ => by
    refine RZ.nextOf_tuple_item st.1 st.2 (x := items[i]) (by simp [hi]) fun h' hit' hs' => ?_
    refine hQ _ h' s.toks (by simp [hi]) ⟨hit', ?_⟩ hs'
    obtain ⟨o, ho, r⟩ := st.2
    exact ⟨o, hs'.extBut a o hne ho, r⟩
  done := fun s Q E st hE => RZ.nextOf_tuple_end hA st.1 st.2 (by simp) hE
open PySem.AutoSeq1 in
set_option maxHeartbeats 1000000 in
theorem meets_enumerate_newT (l : Addr) (items : Array Value) (o : Obj) (hc : o.cls = .type "tuple") (n : Nat) (hd : o.data = .seq items n) :
    Meets (Builtin.«enumerate.__new__» ⟨[.type "enumerate", .ref l], []⟩) (fun _ R s => s.heap.get? l = some o ∧
      R (.ok (.ret (.ref (s.heap.push { cls := .type "tuple_iterator", data := .fields #[.ref l, .int 0 0] }).objs.size)))
        { s with heap := (s.heap.push { cls := .type "tuple_iterator", data := .fields #[.ref l, .int 0 0] }).push { cls := .type "enumerate", data := .fields #[.none, .bool false, .ref s.heap.objs.size, rawInt 0, .none, .none] } }) :=
  .of_wp fun prog w A R s h => by
    obtain ⟨hp, g, d, tk, os⟩ := s; obtain ⟨hl, h⟩ := h
    have hsub := sub_enumerate
    have hL : Heap.IsTuple (Shared.heap ⟨hp, g, d, tk, os⟩) l items := ⟨_, hl, hc, n, hd⟩
    wp_walk using wpAny_loadPart' hl
    refine wpAny_stack_any fun st => wpAny_pure ?_
    split
    · rename_i c _ _ _ _ _
      cases (c == Value.type "enumerate")
      · wp_walk using wpAny_loadPart' hl, wpAny_pyIter_tuple hL
        exact ⟨_, rfl, h⟩
      · wp_walk using wpAny_loadPart' hl, wpAny_pyIter_tuple hL
        exact ⟨_, rfl, h⟩
    · wp_walk using wpAny_loadPart' hl, wpAny_pyIter_tuple hL
      exact ⟨_, rfl, h⟩
theorem call_enumerate_tuple {prog : Program} {w : World} {A : Around} {E : Value → Shared → Prop} {s : Shared} {l : Addr} {items : Array Value} {Q : Value → Shared → Prop} (hL : s.heap.IsTuple l items)
    (h : ∀ h', IsEnum h' (s.heap.objs.size + 1) s.heap.objs.size 0 .none → h'.IsTupleIter s.heap.objs.size l 0 → h'.objs.size = s.heap.objs.size + 2 →
      (∀ b o, s.heap.get? b = some o → h'.get? b = some o) → Q (.ref (s.heap.objs.size + 1)) { s with heap := h' }) :
    wpAny (model prog w) A (call (.type "enumerate") [.ref l]) Q E s := by
  obtain ⟨o, hl, hc, n, hd⟩ := hL
  refine callType_new F.called_enumerate (by decide) (F.typeCall_enumerate_1 _) (F.newCall_enumerate_1 _) (fun obj => F.args_object_init_2 obj _) F.entry_enumerate_new
    (meets_enumerate_newT l items o hc n hd) ⟨hl, ?_⟩
  have hz : (s.heap.push { cls := .type "tuple_iterator", data := .fields #[.ref l, .int 0 0] }).objs.size = s.heap.objs.size + 1 := Heap.size_push ..
  show _ ∧ _
  rw [hz]
  have he : IsEnum ((s.heap.push { cls := .type "tuple_iterator", data := .fields #[.ref l, .int 0 0] }).push
      { cls := .type "enumerate", data := .fields #[.none, .bool false, .ref s.heap.objs.size, rawInt 0, .none, .none] }) (s.heap.objs.size + 1) s.heap.objs.size 0 .none := by
    have := Heap.get?_push_size (s.heap.push { cls := .type "tuple_iterator", data := .fields #[.ref l, .int 0 0] })
      (o := { cls := .type "enumerate", data := .fields #[.none, .bool false, .ref s.heap.objs.size, rawInt 0, .none, .none] }) rfl
    rw [hz] at this; exact this
  refine ⟨⟨_, he, rfl⟩, h _ he ⟨_, Heap.get?_push_of_some _ (Heap.get?_push_size _ rfl), rfl, rfl⟩ (by rw [Heap.size_push, hz]) fun b o x => Heap.get?_push_of_some _ (Heap.get?_push_of_some _ x)⟩
/-- the tuple at a, each item in a new pair -/
def IteT (K : PySem.W.Frag) (a : Addr) : It :=
  ⟨fun i H => ∃ (xs : List V) (x : V), SqT K H a xs ∧ xs[i]? = some x, fun i H v H' => ∃ T x, v = .ref T ∧ H T = none ∧ H' = upd H T (.tup [.int (i : Nat), x]) ∧ ∀ xs, SqT K H a xs → xs[i]? = some x, fun i H => ∃ xs : List V, SqT K H a xs ∧ xs.length = i⟩
theorem turn_enumT {P : Program} {w : World} {K : PySem.W.Frag} {elts : List Expr} {kk : Nat} {tpos : Pos} (a e it : Addr) :
    Turn P w K (.Tuple elts kk tpos) (IteT K a) [e, it] e (fun i h => (∃ old, IsEnum h e it ((i : Nat) : Int) old) ∧ h.IsTupleIter it a i ∧ e ≠ it) where
  mem := by simp
  obj := fun i h st b hb => by
    obtain ⟨⟨old, he⟩, ⟨o, ho, hc, hd⟩, _⟩ := st
    have e' : b = e ∨ b = it := by simpa using hb
    rcases e' with z | z
    · rw [z]; exact ⟨_, he, fun v q => nomatch q⟩
    · rw [z]; exact ⟨o, ho, fun v q => by rw [hd] at q; cases q⟩
  keep := fun i h h' st k => let ⟨⟨old, he⟩, hi, hne⟩ := st; ⟨⟨old, k e (by simp) _ he⟩, hi.at fun o q => k it (by simp) o q, hne⟩
  item := by
    intro X hP hw hK hc i pins s σ H E I hf st hg
    subst hP hw hK
    obtain ⟨⟨old, he⟩, hit, hne⟩ := st
    obtain ⟨xs, x, hq, hx⟩ := hg
    obtain ⟨its, rv, p, hz⟩ := I.tuple hq
    obtain ⟨u, hu, ru⟩ := rv.get hx
    have hel : e < s.heap.objs.size := Heap.lt_size he
    have hil : it < s.heap.objs.size := by obtain ⟨_, q, _⟩ := hit; exact Heap.lt_size q
    have hpt : s.heap.IsTuple a its.toArray := p
    have hai : a ≠ it := fun z => by
      obtain ⟨o1, h1, c1, _⟩ := hpt
      obtain ⟨o2, h2, c2, _⟩ := hit
      rw [z, h2] at h1
      cases h1
      rw [c2] at c1
      exact absurd (Value.type.inj c1) (by decide)
    have hae : e ≠ a := fun z => by
      obtain ⟨o1, h1, c1, _⟩ := hpt
      rw [← z, he] at h1
      cases h1
      exact absurd (Value.type.inj c1) (by decide)
    have hil2 : i < its.toArray.size := by
      rw [List.size_toArray]
      exact (List.getElem?_eq_some_iff.mp hu).1
    refine wpAny_pyNext_enum_itemD (draws_tuple (A := X.A.in1) (I.ok.hd hc) it a its.toArray hai) he ⟨hit, hpt⟩ hil2 hne (by simp only [List.mem_cons, List.not_mem_nil, or_false, not_or]; exact ⟨hne, hae⟩) fun y h' tk hy ho hst hT hsz hk => ?_
    have hyu : y = u := by
      have : its[i]? = some y := by simpa using hy
      rw [hu] at this
      exact (Option.some.inj this).symm
    subst hyu
    have hit' := hst.1
    refine ⟨_, rfl, wpAny_letOwnedTupleGo_enum (s := { s with heap := h', toks := tk + 1 }) ho fun h'' he' sb => ?_⟩
    have hT2 : h''.get? s.heap.objs.size = some { cls := .type "tuple", data := .seq #[.int i tk, y] } := (sb.2 _ (Nat.ne_of_gt hel)).trans hT
    have new : ObjOk X.prog X.w (upd H s.heap.objs.size (.tup [.int (i : Nat), x])) h'' s.heap.objs.size (.tup [.int (i : Nat), x]) :=
      ⟨by show 2 ≤ sizeLine; decide, [.int i tk, y], .cons ⟨_, rfl⟩ (.cons ru .nil), ⟨_, hT2, rfl, _, rfl⟩⟩
    have I1 : Inv X pins σ (upd H s.heap.objs.size (.tup [.int (i : Nat), x])) { s with heap := h'', toks := tk + 1 } :=
      I.turnedNew (ch := [e, it]) (fun b ob hb q => (sb.2 b (fun z => hb (by simp [z]))).trans (hk b ob (fun z => hb (by simp [z])) (fun z => hb (by simp [z])) q)) hf (Nat.le_refl _) new
    refine ⟨.ref s.heap.objs.size, _, I1, rfl, ⟨_, x, rfl, I.hok.fresh (Nat.le_refl _), rfl, fun ys hy => by rw [I.tuple_inj hy hq]; exact hx⟩, ⟨⟨y, ?_⟩, hit'.at fun o q => (sb.2 it (Ne.symm hne)).trans q, hne⟩, fun b hb => ?_⟩
    · have e1 : ((i + 1 : Nat) : Int) = (i : Int) + 1 := by omega
      rw [e1]; exact he'
    · have hb' : b < s.heap.objs.size := by
        have e' : b = e ∨ b = it := by simpa using hb
        rcases e' with z | z
        · rw [z]; exact hel
        · rw [z]; exact hil
      rw [upd_ne (Nat.ne_of_lt hb')]
      exact (hf b hb).1
  done := by
    intro X hP hw hK hc i pins s σ H E I hf st hg
    subst hP hw hK
    obtain ⟨⟨old, he⟩, hit, hne⟩ := st
    obtain ⟨xs, hq, hx⟩ := hg
    obtain ⟨its, rv, p, hz⟩ := I.tuple hq
    obtain ⟨f0, f1, f2, f3, f4, f5⟩ := hf it (by simp)
    have hl := rv.length
    have hpt : s.heap.IsTuple a its.toArray := p
    have hai : a ≠ it := fun z => by
      obtain ⟨o1, h1, c1, _⟩ := hpt
      obtain ⟨o2, h2, c2, _⟩ := hit
      rw [z, h2] at h1
      cases h1
      rw [c2] at c1
      exact absurd (Value.type.inj c1) (by decide)
    have hn : i = its.toArray.size := by rw [List.size_toArray]; omega
    exact wpAny_pyNext_enum_endD (draws_tuple (A := X.A.in1) (I.ok.hd hc) it a its.toArray hai) he (by rw [← hn]; exact ⟨hit, hpt⟩) fun h' eb => ⟨rfl, I.turned (t' := s.toks) (fun b o hb q => eb b o hb q) f0 f1 f3 f4 f5⟩
  self := fun A i s Q E st h => let ⟨⟨_, he⟩, _⟩ := st; wpAny_pyIter_enum he h
def iEnumT (K : PySem.W.Frag) (ta : TA) : TI := fun σ H R => ta σ H fun vs H1 => ∃ a xs, vs = [.ref a] ∧ SqT K H1 a xs ∧ R (IteT K a) H1
theorem pi_enumT {X : Cx} {e : Expr} {ta : TA} {p pos tpos : Pos} {elts : List Expr} {kk : Nat} (hg : Gl X "enumerate") (hm : X.mg "enumerate" = none) (ha : PA X [e] ta) (hs : starEach [e] X.env = [(false, eval e X.env)] := by rfl) :
    PI X (.Tuple elts kk tpos) (.Call (.Name "enumerate" p) [e] [] pos) (iEnumT X.K ta) := by
  refine ⟨fun pins s σ H R I h => ?_⟩
  refine Call_ (ld_blt I hg hm boot_enumerate (PyProof.Rows.callWith_type1 (thn (ha.run pos pins s σ H _ I h) fun us s1 ⟨vs, H1, I1, r1, q1⟩ => ?_) hs rfl))
  obtain ⟨a, xs, ex, hq, q⟩ := q1
  subst ex
  cases r1 with
  | cons r rr =>
    cases rr
    cases r
    obtain ⟨its, rv, p', hz⟩ := I1.tuple hq
    refine call_enumerate_tuple p' fun h' he hit hsz hk => wpAny_pyIter_enum he ?_
    have I2 : Inv X pins σ H1 { s1 with heap := h' } := I1.kept (t' := s1.toks) hk
    refine ⟨s1.heap.objs.size + 1, [s1.heap.objs.size + 1, s1.heap.objs.size], _, _, H1, rfl, I2, turn_enumT a (s1.heap.objs.size + 1) s1.heap.objs.size, ⟨⟨.none, he⟩, hit, Nat.succ_ne_self _⟩, fun b hb => ?_, q⟩
    have e' : b = s1.heap.objs.size + 1 ∨ b = s1.heap.objs.size := by simpa using hb
    have hle : s1.heap.objs.size ≤ b := by
      rcases e' with z | z
      · rw [z]; exact Nat.le_add_right _ _
      · rw [z]; exact Nat.le_refl _
    exact I1.fpOk hle (I1.hok.fresh hle)
theorem gx_enum {α : Type} {K : PySem.W.Frag} {a : Addr} {xs : List V} {g : TG} {tt : TT} {te : TE} {vs : List Nat} {σ0 : L2.St} {End : α → Hp → Prop} {Yd : α → V → Hp → (α → Hp → Prop) → Prop} {a0 : α} {H0 : Hp} (Pv : Nat → α → Hp → Prop) (h0 : Pv 0 a0 H0)
    (hl : ∀ i c H, i ≤ xs.length → Pv i c H → SqT K H a xs)
    (hs : ∀ i x T c H, xs[i]? = some x → H T = none → Pv i c H → g (.ref T) σ0 (upd H T (.tup [.int (i : Nat), x])) fun σ2 H2 => wipe σ2 vs = σ0 ∧ tt σ2 H2 fun b H3 => if b = true then te σ2 H3 fun y H4 => Yd c y H4 (Pv (i + 1)) else Pv (i + 1) c H3) (hd : ∀ c H, Pv xs.length c H → End c H) :
    ∃ W : Nat → Nat → α → Hp → Prop, (∃ m, W 0 m a0 H0) ∧ tGx (IteT K a) g tt te σ0 vs End Yd W := by
  refine ⟨fun i m c H => m = xs.length - i ∧ i ≤ xs.length ∧ Pv i c H, ⟨xs.length, rfl, Nat.zero_le _, h0⟩, ?_⟩
  rintro i m c H ⟨rfl, hi, p⟩
  by_cases hlt : i < xs.length
  · have hx : xs[i]? = some xs[i] := List.getElem?_eq_getElem hlt
    refine .inr ⟨⟨xs, xs[i], hl i c H hi p, hx⟩, Pv (i + 1), fun c' H' p' => ⟨xs.length - (i + 1), by omega, rfl, hlt, p'⟩, fun x H' y => ?_⟩
    obtain ⟨T, x1, rfl, nT, rfl, e1⟩ := y
    exact hs i x1 T c H (e1 xs (hl i c _ hi p)) nT p
  · have e : i = xs.length := by omega
    subst e
    exact .inl ⟨⟨xs, hl _ c H hi p, rfl⟩, hd c H p⟩
theorem gx_str {α : Type} {z : Str} {g : TG} {tt : TT} {te : TE} {vs : List Nat} {σ0 : L2.St} {End : α → Hp → Prop} {Yd : α → V → Hp → (α → Hp → Prop) → Prop} {a0 : α} {H0 : Hp} (Pv : Nat → α → Hp → Prop) (h0 : Pv 0 a0 H0)
    (hs : ∀ i x c H, z.cps[i]? = some x → Pv i c H → g (.str ⟨#[x]⟩) σ0 H fun σ2 H2 => wipe σ2 vs = σ0 ∧ tt σ2 H2 fun b H3 => if b = true then te σ2 H3 fun y H4 => Yd c y H4 (Pv (i + 1)) else Pv (i + 1) c H3) (hd : ∀ c H, Pv z.cps.size c H → End c H) :
    ∃ W : Nat → Nat → α → Hp → Prop, (∃ m, W 0 m a0 H0) ∧ tGx (Its z) g tt te σ0 vs End Yd W := by
  refine ⟨fun i m c H => m = z.cps.size - i ∧ i ≤ z.cps.size ∧ Pv i c H, ⟨z.cps.size, rfl, Nat.zero_le _, h0⟩, ?_⟩
  rintro i m c H ⟨rfl, hi, p⟩
  by_cases hlt : i < z.cps.size
  · refine .inr ⟨hlt, Pv (i + 1), fun c' H' p' => ⟨z.cps.size - (i + 1), by omega, rfl, hlt, p'⟩, fun x H' y => ?_⟩
    obtain ⟨rfl, ch, hc, rfl⟩ := y
    exact hs i ch c _ hc p
  · have e : i = z.cps.size := by omega
    subst e
    exact .inl ⟨Nat.le_refl _, hd c H p⟩

/-! ### nets, and the words of nets -/
abbrev Gt := List Bool × List Nat
def gD (g : Gt) : PyData := .tuple [.str (tabOf g.1), .tuple ((g.2.map Int.ofNat).map PyData.int)]
def netD (many : Int) (gs : List Gt) : PyData := .tuple [.int many, .tuple (gs.map gD)]
def rowD (r : List Int) : PyData := .tuple (r.map PyData.int)
def chD (a b : List Int) : PyData := .tuple [rowD a, rowD b]
def GtOk (n : Nat) (g : Gt) : Prop := g.1.length = 2 ^ g.2.length ∧ 1 ≤ g.2.length ∧ g.2.length ≤ 3 ∧ ∀ i ∈ g.2, i < n
def NetOk (n : Nat) (gs : List Gt) : Prop := ∀ k g, gs[k]? = some g → GtOk (n + k) g
def Row01 (r : List Int) : Prop := ∀ x ∈ r, x = 0 ∨ x = 1
mutual
theorem Tk.gr {H H' : Hp} (s : Gr H H') : ∀ {v : V} {d : PyData}, Tk H v d → Tk H' v d
  | _, _, .bl b => .bl b
  | _, _, .int i => .int i
  | _, _, .str x => .str x
  | _, _, .lst h t => .lst (s.lst h) (t.gr s)
  | _, _, .tup h t => .tup (s.tup h) (t.gr s)
theorem TkAll.gr {H H' : Hp} (s : Gr H H') : ∀ {vs : List V} {ds : List PyData}, TkAll H vs ds → TkAll H' vs ds
  | _, _, .nil => .nil
  | _, _, .cons h t => .cons (h.gr s) (t.gr s)
end
theorem Tk.row_inv {H : Hp} {v : V} {r : List Int} (h : Tk H v (rowD r)) : ∃ a, v = .ref a ∧ H a = some (.tup (r.map V.int)) := by
  obtain ⟨a, xs, rfl, ha, t⟩ := h.tup_inv
  rw [t.int_inv] at ha
  exact ⟨a, rfl, ha⟩
theorem Tk.ch_inv {H : Hp} {v : V} {a b : List Int} (h : Tk H v (chD a b)) : ∃ c ra rb, v = .ref c ∧ H c = some (.tup [.ref ra, .ref rb]) ∧ H ra = some (.tup (a.map V.int)) ∧ H rb = some (.tup (b.map V.int)) := by
  obtain ⟨c, xs, rfl, hc, t⟩ := h.tup_inv
  cases t with
  | cons h1 t => cases t with
    | cons h2 t =>
      cases t
      obtain ⟨ra, rfl, ha⟩ := h1.row_inv
      obtain ⟨rb, rfl, hb⟩ := h2.row_inv
      exact ⟨c, ra, rb, rfl, hc, ha, hb⟩
theorem Tk.net_inv {H : Hp} {v : V} {m : Int} {gs : List Gt} (h : Tk H v (netD m gs)) : ∃ n g xs, v = .ref n ∧ H n = some (.tup [.int m, .ref g]) ∧ H g = some (.tup xs) ∧ TkAll H xs (gs.map gD) := by
  obtain ⟨n, xs, rfl, hn, t⟩ := h.tup_inv
  cases t with
  | cons h1 t => cases t with
    | cons h2 t =>
      cases t
      cases h1
      obtain ⟨g, ys, rfl, hg, t2⟩ := h2.tup_inv
      exact ⟨n, g, ys, rfl, hn, hg, t2⟩
theorem Tk.gt_inv {H : Hp} {v : V} {g : Gt} (h : Tk H v (gD g)) : ∃ a i, v = .ref a ∧ H a = some (.tup [.str (tabOf g.1), .ref i]) ∧ H i = some (.tup ((g.2.map Int.ofNat).map V.int)) := by
  obtain ⟨a, xs, rfl, ha, t⟩ := h.tup_inv
  cases t with
  | cons h1 t => cases t with
    | cons h2 t =>
      cases t
      cases h1
      obtain ⟨i, rfl, hi⟩ := (show Tk H _ (rowD (g.2.map Int.ofNat)) from h2).row_inv
      exact ⟨a, i, rfl, ha, hi⟩
theorem TkAll.at {H : Hp} {α : Type} {f : α → PyData} {xs : List V} {ds : List α} (t : TkAll H xs (ds.map f)) {j : Nat} {v : V} (h : xs[j]? = some v) : ∃ x, ds[j]? = some x ∧ Tk H v (f x) := by
  obtain ⟨dx, hdx, tx⟩ := t.get h
  rw [List.getElem?_map] at hdx
  cases hz : ds[j]? with
  | none => rw [hz] at hdx; cases hdx
  | some x =>
    rw [hz] at hdx
    cases Option.some.inj hdx
    exact ⟨x, rfl, tx⟩
theorem TkAll.at' {H : Hp} {α : Type} {f : α → PyData} {xs : List V} {ds : List α} (t : TkAll H xs (ds.map f)) {j : Nat} {x : α} (h : ds[j]? = some x) : ∃ v, xs[j]? = some v ∧ Tk H v (f x) := by
  have hl := t.length
  rw [List.length_map] at hl
  have hj := (List.getElem?_eq_some_iff.mp h).1
  obtain ⟨y, hy, ty⟩ := t.at (List.getElem?_eq_getElem (l := xs) (i := j) (by omega))
  cases Option.some.inj (h.symm.trans hy)
  exact ⟨_, List.getElem?_eq_getElem _, ty⟩
theorem grow_upd {H H' : Hp} {p : Addr} {o : HO} (g : Gr H H') (n : H' p = none) : Gr H (upd H' p o) := g.trans (Gr.none n)
/-- no table, no older list: only the list at D is written -/
def GrD (D : Addr) (H H' : Hp) : Prop := Gr H (hd1 D H')
theorem GrD.gr {D : Addr} {H H' : Hp} (g : GrD D H H') : Gr H H' := g.trans (Gr.of hd1_le)
theorem TabG_hd1 {D P : Addr} {H : Hp} (h : GxR.TabG H P) (n : D ≠ P) : GxR.TabG (hd1 D H) P := by
  obtain ⟨ps, e, t⟩ := h
  exact ⟨ps, by rw [hd1_at (Ne.symm n)]; exact e, t⟩
theorem GrD.new {D : Addr} {H : Hp} {o : HO} (n : H D = none) : GrD D H (upd H D o) := Gr.of (hd1_of (same_upd n) n)
theorem hd1_gr {D : Addr} {H H' : Hp} (g : Gr H H') (hD : ∀ P, GxR.TabG H P → D ≠ P) : Gr (hd1 D H) (hd1 D H') := by
  refine ⟨fun b o n e => ?_, fun b t => ?_⟩
  · have hb : b ≠ D := fun z => by
      unfold hd1 at e
      rw [if_pos z] at e; cases e
    rw [hd1_at hb] at e ⊢
    exact g.1 b o n e
  · obtain ⟨ps, e, t⟩ := t
    have e' := hd1_le _ _ e
    exact TabG_hd1 (g.2 b ⟨ps, e', t⟩) (hD b ⟨ps, e', t⟩)
theorem GrD.then {D : Addr} {H H1 H2 : Hp} {xs : List V} (a : GrD D H H1) (hD : H1 D = some (.lst xs)) (b : Gr H1 H2) : GrD D H H2 := a.trans (hd1_gr b fun P ⟨ps, e, _⟩ z => by
  rw [← z, hD] at e
  cases e)
theorem GrD.set {D : Addr} {H H1 : Hp} {o : HO} (a : GrD D H H1) : GrD D H (upd H1 D o) := a.trans (Gr.of hd1_upd)

end Gk

set_option Elab.async false
set_option linter.all false
set_option maxRecDepth 100000
set_option maxHeartbeats 1000000
namespace Gk
open PySem PySem.Spec PyProof.Rows L2
section
variable {P : Program} {w : World} {K : PySem.W.Frag} {mg : Str → Option Value} {base : Heap}
/-! ### what is a net: of nets -/
theorem kII : kitB "int" "int" = some true := by decide +kernel
theorem kIB : kitB "int" "bool" = some false := by decide +kernel
theorem kTT : kitB "tuple" "tuple" = some true := by decide +kernel
theorem kSS : kitB "str" "str" = some true := by decide +kernel
theorem kBB : kitB "bool" "bool" = some true := by decide +kernel
def sp_is_whole (K : PySem.W.Frag) : Sp := fun vs H Q _ => ∃ i : Int, vs = [.int i] ∧ Q (.bl true) H
theorem ok_is_whole (T : Tx K mg) : FnOk P w K mg base CX0 1 T.f_is_whole T.fd_is_whole ["thing"] (sp_is_whole K) := by
  refine T.F_is_whole.ok sc_is_whole (fun vs H Q E h => ?_) (fun cdv A outer s H vs Q E hr h => ?_)
  · obtain ⟨i, rfl, _⟩ := h
    rfl
  · obtain ⟨i, rfl, q⟩ := h
    refine ⟨_, (pss_one (ps_ret (pe_and (pe_callB call_isi (by rfl) T.m_isinstance (by decide +kernel) (pa_cons (pv 0) (pa_cons (pe_bltn (v := .ty "int") (u := .type "int") (by rfl) T.m_int (by decide +kernel) rfl) pa_nil))) (pe_one (pe_not (pe_callB call_isi (by rfl) T.m_isinstance (by decide +kernel) (pa_cons (pv 0) (pa_cons (pe_bltn (v := .ty "bool") (u := .type "bool") (by rfl) T.m_bool (by decide +kernel) rfl) pa_nil)))))))), ?_⟩
    refine ⟨.int i, rfl, _, _, _, _, _, rfl, .ty _, .base (.int i), kit_ty kII, _, rfl, iteT ?_⟩
    exact ⟨.int i, rfl, _, _, _, _, _, rfl, .ty _, .base (.int i), kit_ty kIB, _, rfl, q⟩
def sp_is_signs (K : PySem.W.Frag) (Pt : Addr) : Sp := fun vs H Q _ => ∃ (k : Nat) (bs : List Bool), vs = [.int k, .str (tabOf bs)] ∧ bs.length = k ∧ k ≤ 64 ∧ GxR.TabG H Pt ∧ ∀ H', Gr H H' → Q (.bl true) H'
theorem ok_is_signs (T : Tx K mg) (B : Tb base T) : FnOk P w K mg base CX0 2 T.f_is_signs T.fd_is_signs ["many", "thing"] (sp_is_signs K T.P_is_signs) := by
  refine okC T.F_is_signs sc_is_signs (fun vs H Q E h => ?_) (fun A outer s H vs Q E hr h => ?_)
  · obtain ⟨k, bs, rfl, _⟩ := h
    rfl
  · obtain ⟨k, bs, rfl, lb, h64, tab, q⟩ := h
    refine ⟨_, (pss_one (ps_ret (pe_and (pe_callB call_isi (by rfl) T.m_isinstance (by decide +kernel) (pa_cons (pv 1) (pa_cons (pe_bltn (v := .ty "str") (u := .type "str") (by rfl) T.m_str (by decide +kernel) rfl) pa_nil))) (pe_and (pe_cmpR op_eq (pe_callB call_len_str (by rfl) T.m_len PySem.boot_len (pa_cons (pv 1) pa_nil)) (pv 0) (nomark _)) (pe_one (pe_allX (own := [("sign", 2)]) (k := 0) (hr.mono (by decide)) rfl sc_is_signs.nd (by rfl) T.m_all (by decide +kernel) B.TB_is_signs T.cd_is_signs rfl rfl (by decide +kernel) (blkOk_by (own := [("sign", 2)]) (N := ["many", "thing", "sign"]) (sc := defScope s_is_signs) (by decide +kernel)) (pi_str (pv 1)) (fun _ _ _ _ _ _ _ hr gd => (pg_name (i := 2) sc_is_signs.nd rfl (by first | exact .inl rfl | exact .inr rfl))) (fun _ _ _ _ _ _ _ hr gd => pts_nil) (fun _ _ _ _ _ _ _ hr gd => (pe_cmpR op_in_sign (pv 2) pe_str rfl)) (fun _ => rfl))))))), ?_⟩
    have tl : (tabOf bs).length = k := by rw [← lb]; simp [tabOf, Str.length]
    refine ⟨.str (tabOf bs), rfl, _, _, _, _, _, rfl, .ty _, .base (.str _), kit_ty kSS, _, rfl, iteT ?_⟩
    refine ⟨.str (tabOf bs), rfl, _, rfl, by rw [tl]; exact Nat.le_trans h64 (by decide), ?_⟩
    rw [tl]
    refine ⟨.int k, rfl, rfl, _, rfl, ?_⟩
    rw [decide_eq_true rfl]
    refine iteT ?_
    refine ⟨.str (tabOf bs), rfl, tabOf bs, rfl, tab, fun H2 tb => ?_⟩
    have g2 := Gr.tab tab tb
    refine gx_str (z := tabOf bs) (fun j _ H' => H' = H2) rfl ?_ ?_
    · rintro j x _ H' hx rfl
      refine ⟨rfl, .str ⟨#[x]⟩, rfl, x, _, rfl, rfl, true, ?_, rfl⟩
      have hm : x = 48 ∨ x = 49 := by
        have hx' : (bs.map fun b => if b = true then 49 else 48)[j]? = some x := by
          have : (tabOf bs).cps[j]? = some x := hx
          simpa [tabOf] using this
        rw [List.getElem?_map] at hx'
        cases hb : bs[j]? with
        | none => rw [hb] at hx'; cases hx'
        | some b =>
          rw [hb] at hx'
          cases Option.some.inj hx'
          cases b
          · exact .inl rfl
          · exact .inr rfl
      rcases hm with rfl | rfl <;> rfl
    · rintro _ H' rfl
      exact q H' g2
def Tabs2 (T : Tx K mg) (H : Hp) : Prop := GxR.TabG H T.P_is_signs ∧ GxR.TabG H T.P_is_gate ∧ GxR.TabG H T.P_is_net
theorem Tabs2.gr {T : Tx K mg} {H H' : Hp} (t : Tabs2 T H) (g : Gr H H') : Tabs2 T H' := ⟨g.2 _ t.1, g.2 _ t.2.1, g.2 _ t.2.2⟩
def sp_is_gate (T : Tx K mg) : Sp := fun vs H Q _ => ∃ (n : Nat) (gv : V) (g : Gt), vs = [.int n, gv] ∧ Tk H gv (gD g) ∧ GtOk n g ∧ Tabs2 T H ∧ ∀ H', Gr H H' → Q (.bl true) H'
theorem ok_is_gate (T : Tx K mg) (B : Tb base T) : FnOk P w K mg base CX0 3 T.f_is_gate T.fd_is_gate ["wires", "thing"] (sp_is_gate T) := by
  refine okC T.F_is_gate sc_is_gate (fun vs H Q E h => ?_) (fun A outer s H vs Q E hr h => ?_)
  · obtain ⟨n, gv, g, rfl, _⟩ := h
    rfl
  · obtain ⟨n, gv, g, rfl, tg, ⟨o1, o2, o3, o4⟩, tabs, q⟩ := h
    refine ⟨_, (pss_cons (ps_if (pw_or (pt_not (pt_val (pe_callB call_isi (by rfl) T.m_isinstance (by decide +kernel) (pa_cons (pv 1) (pa_cons (pe_bltn (v := .ty "tuple") (u := .type "tuple") (by rfl) T.m_tuple (by decide +kernel) rfl) pa_nil))))) (pw_or1 (pt_cmpR op_ne (pe_callB call_len_seq (by rfl) T.m_len PySem.boot_len (pa_cons (pv 1) pa_nil)) pe_int (nomark _)))).pt (pss_one (ps_ret pe_bl)) pss_nil) (pss_cons (ps_asg (pv 1) (pg_tup rfl (pgs_cons (pg_name (i := 2) sc_is_gate.nd rfl (by first | exact .inl rfl | exact .inr rfl)) (pgs_cons (pg_name (i := 3) sc_is_gate.nd rfl (by first | exact .inl rfl | exact .inr rfl)) pgs_nil)))) (pss_cons (ps_if (pw_or (pt_not (pt_val (pe_callB call_isi (by rfl) T.m_isinstance (by decide +kernel) (pa_cons (pv 3) (pa_cons (pe_bltn (v := .ty "tuple") (u := .type "tuple") (by rfl) T.m_tuple (by decide +kernel) rfl) pa_nil))))) (pw_or1 (pt_not (pt_chain op_le op_le pe_int (pe_callB call_len_seq (by rfl) T.m_len PySem.boot_len (pa_cons (pv 3) pa_nil)) (pe_glob (v := .int 3) (by rfl) T.k_MOST_INS.choose_spec ⟨_, rfl⟩))))).pt (pss_one (ps_ret pe_bl)) pss_nil) (pss_one (ps_ret (pe_and (pe_call (ok_is_signs T B) (hr.mono (by decide)) (by rfl) T.g_is_signs T.F_is_signs.kp T.b_is_signs .nil pass0 (pa_cons (pe_op op_shl pe_int (pe_callB call_len_seq (by rfl) T.m_len PySem.boot_len (pa_cons (pv 3) pa_nil))) (pa_cons (pv 2) pa_nil))) (pe_one (pe_allX (own := [("wire", 4)]) (k := 1) (hr.mono (by decide)) rfl sc_is_gate.nd (by rfl) T.m_all (by decide +kernel) B.TB_is_gate T.cd_is_gate rfl rfl (by decide +kernel) (blkOk_by (own := [("wire", 4)]) (N := ["wires", "thing", "table", "ins", "wire"]) (sc := defScope s_is_gate) (by decide +kernel)) (pi_tup (pv 3)) (fun _ _ _ _ _ _ _ hr gd => (pg_name (i := 4) sc_is_gate.nd rfl (by first | exact .inl rfl | exact .inr rfl))) (fun _ _ _ _ _ _ _ hr gd => pts_nil) (fun _ _ _ _ _ _ _ hr gd => (pe_and (pe_call (ok_is_whole T) (hr.mono (by decide)) (by rfl) T.g_is_whole T.F_is_whole.kp T.b_is_whole .nil pass0 (pa_cons (pv 4) pa_nil)) (pe_one (pe_chain op_le op_lt pe_int (pv 4) (pv 0))))) (fun _ => rfl))))))))), ?_⟩
    obtain ⟨a, i, rfl, ha, hi⟩ := tg.gt_inv
    refine ⟨.ref a, rfl, _, _, _, _, _, rfl, .ty _, .base (.tup ha), kit_ty kTT, _, rfl, iteF ⟨.ref a, rfl, a, _, rfl, .inr (SqT.of ha), rfl, _, rfl, iteF ?_⟩⟩
    refine ⟨.ref a, rfl, a, _, rfl, SqT.of ha, rfl, _, _, rfl, _, _, rfl, rfl, ?_⟩
    have li : (List.map V.int (List.map Int.ofNat g.2)).length = g.2.length := by rw [List.length_map, List.length_map]
    refine ⟨.ref i, rfl, _, _, _, _, _, rfl, .ty _, .base (.tup hi), kit_ty kTT, _, rfl, iteF ⟨.ref i, rfl, i, _, rfl, .inr (SqT.of hi), ?_⟩⟩
    rw [li]
    refine ⟨1, _, rfl, rfl, _, rfl, ?_⟩
    rw [decide_eq_true (show (1 : Int) ≤ (g.2.length : Int) by omega)]
    refine iteT ⟨_, 3, rfl, rfl, _, rfl, ?_⟩
    rw [decide_eq_true (show (g.2.length : Int) ≤ 3 by omega)]
    refine iteF ?_
    refine ⟨.ref i, rfl, i, _, rfl, .inr (SqT.of hi), ?_⟩
    rw [li]
    refine ⟨1, _, rfl, rfl, ⟨by omega, by omega, by decide⟩, .str (tabOf g.1), rfl, g.1.length, g.1, ?_, rfl, ?_, tabs.1, fun H2 g2 => ⟨_, rfl, iteT ?_⟩⟩
    · have : (1 : Int) * 2 ^ ((g.2.length : Int)).toNat = (g.1.length : Int) := by
        rw [o1]
        simp
      show [V.int ((1 : Int) * 2 ^ ((g.2.length : Int)).toNat), V.str (tabOf g.1)] = _
      rw [this]
    · rw [o1]
      have : g.2.length = 1 ∨ g.2.length = 2 ∨ g.2.length = 3 := by omega
      rcases this with h | h | h <;> rw [h] <;> decide
    have hi2 := g2.tup hi
    have tabs2 := tabs.gr g2
    refine ⟨.ref i, rfl, i, rfl, ⟨_, SqT.of hi2⟩, tabs2.2.1, fun H3 tb3 => ?_⟩
    have g3 := Gr.tab tabs2.2.1 tb3
    refine gx_tup (K := K) (a := i) (xs := (g.2.map Int.ofNat).map V.int) (fun j _ H' => H' = H3) rfl (fun j _ H' _ e => by rw [e]; exact SqT.of (g3.tup hi2)) ?_ ?_
    · rintro j x _ H' hx rfl
      rw [List.getElem?_map, List.getElem?_map] at hx
      cases hj : g.2[j]? with
      | none => rw [hj] at hx; cases hx
      | some k =>
        rw [hj] at hx
        cases Option.some.inj hx
        have hk := o4 k (List.mem_of_getElem? hj)
        refine ⟨rfl, .int (Int.ofNat k), rfl, _, rfl, _, rfl, iteT ?_⟩
        refine ⟨.int (Int.ofNat k), rfl, 0, _, rfl, rfl, _, rfl, ?_⟩
        rw [decide_eq_true (show (0 : Int) ≤ Int.ofNat k from Int.natCast_nonneg k)]
        refine iteT ⟨.int n, rfl, _, _, rfl, rfl, true, ?_, rfl⟩
        dsimp only
        rw [decide_eq_true (show Int.ofNat k < (n : Int) from Int.ofNat_lt.mpr hk)]
    · rintro _ H' rfl
      exact q H' (g2.trans g3)
def sp_is_net (T : Tx K mg) : Sp := fun vs H Q _ => ∃ (nv : V) (m : Nat) (gs : List Gt), vs = [nv] ∧ Tk H nv (netD m gs) ∧ 1 ≤ m ∧ m ≤ 6 ∧ 1 ≤ gs.length ∧ NetOk m gs ∧ Tabs2 T H ∧ ∀ H', Gr H H' → Q (.bl true) H'
theorem ok_is_net (T : Tx K mg) (B : Tb base T) : FnOk P w K mg base CX0 5 T.f_is_net T.fd_is_net ["thing"] (sp_is_net T) := by
  refine okC T.F_is_net sc_is_net (fun vs H Q E h => ?_) (fun A outer s H vs Q E hr h => ?_)
  · obtain ⟨nv, m, gs, rfl, _⟩ := h
    rfl
  · obtain ⟨nv, m, gs, rfl, tn, m1, m6, g1, ok, tabs, q⟩ := h
    refine ⟨_, (pss_cons (ps_if (pw_or (pt_not (pt_val (pe_callB call_isi (by rfl) T.m_isinstance (by decide +kernel) (pa_cons (pv 0) (pa_cons (pe_bltn (v := .ty "tuple") (u := .type "tuple") (by rfl) T.m_tuple (by decide +kernel) rfl) pa_nil))))) (pw_or1 (pt_cmpR op_ne (pe_callB call_len_seq (by rfl) T.m_len PySem.boot_len (pa_cons (pv 0) pa_nil)) pe_int (nomark _)))).pt (pss_one (ps_ret pe_bl)) pss_nil) (pss_cons (ps_asg (pv 0) (pg_tup rfl (pgs_cons (pg_name (i := 1) sc_is_net.nd rfl (by first | exact .inl rfl | exact .inr rfl)) (pgs_cons (pg_name (i := 2) sc_is_net.nd rfl (by first | exact .inl rfl | exact .inr rfl)) pgs_nil)))) (pss_cons (ps_if (pw_or (pt_not (pt_val (pe_call (ok_is_whole T) (hr.mono (by decide)) (by rfl) T.g_is_whole T.F_is_whole.kp T.b_is_whole .nil pass0 (pa_cons (pv 1) pa_nil)))) (pw_or1 (pt_not (pt_chain op_le op_le pe_int (pv 1) (pe_glob (v := .int 6) (by rfl) T.k_MOST_INPUTS.choose_spec ⟨_, rfl⟩))))).pt (pss_one (ps_ret pe_bl)) pss_nil) (pss_cons (ps_if (pw_or (pt_not (pt_val (pe_callB call_isi (by rfl) T.m_isinstance (by decide +kernel) (pa_cons (pv 2) (pa_cons (pe_bltn (v := .ty "tuple") (u := .type "tuple") (by rfl) T.m_tuple (by decide +kernel) rfl) pa_nil))))) (pw_or1 (pt_cmpR op_eq (pe_callB call_len_seq (by rfl) T.m_len PySem.boot_len (pa_cons (pv 2) pa_nil)) pe_int (nomark _)))).pt (pss_one (ps_ret pe_bl)) pss_nil) (pss_one (ps_ret (pe_allX (own := [("number", 3), ("gate", 4)]) (k := 3) (hr.mono (by decide)) rfl sc_is_net.nd (by rfl) T.m_all (by decide +kernel) B.TB_is_net T.cd_is_net rfl rfl (by decide +kernel) (blkOk_by (own := [("number", 3), ("gate", 4)]) (N := ["thing", "many", "gates", "number", "gate"]) (sc := defScope s_is_net) (by decide +kernel)) (pi_enumT (by rfl) T.m_enumerate (pa_cons (pv 2) pa_nil)) (fun _ _ _ _ _ _ _ hr gd => (show PG _ _ (gTup K 2 _) from pg_tup rfl (pgs_cons (pg_name (i := 3) sc_is_net.nd rfl (by first | exact .inl rfl | exact .inr rfl)) (pgs_cons (pg_name (i := 4) sc_is_net.nd rfl (by first | exact .inl rfl | exact .inr rfl)) pgs_nil)))) (fun _ _ _ _ _ _ _ hr gd => pts_nil) (fun _ _ _ _ _ _ _ hr gd => (pe_call (ok_is_gate T B) (hr.mono (by decide)) (by rfl) T.g_is_gate T.F_is_gate.kp T.b_is_gate .nil pass0 (pa_cons (pe_op op_add (pv 1) (pv 3)) (pa_cons (pv 4) pa_nil)))) (fun _ => rfl)))))))), ?_⟩
    obtain ⟨a, g, xs, rfl, ha, hg, tg⟩ := tn.net_inv
    have xl : xs.length = gs.length := by rw [tg.length, List.length_map]
    refine ⟨.ref a, rfl, _, _, _, _, _, rfl, .ty _, .base (.tup ha), kit_ty kTT, _, rfl, iteF ⟨.ref a, rfl, a, _, rfl, .inr (SqT.of ha), rfl, _, rfl, iteF ?_⟩⟩
    refine ⟨.ref a, rfl, a, _, rfl, SqT.of ha, rfl, _, _, rfl, _, _, rfl, rfl, ?_⟩
    refine ⟨.int m, rfl, _, rfl, _, rfl, iteF ⟨.int m, rfl, 1, _, rfl, rfl, _, rfl, ?_⟩⟩
    rw [decide_eq_true (show (1 : Int) ≤ (m : Int) by omega)]
    refine iteT ⟨_, 6, rfl, rfl, _, rfl, ?_⟩
    rw [decide_eq_true (show (m : Int) ≤ 6 by omega)]
    refine iteF ?_
    refine ⟨.ref g, rfl, _, _, _, _, _, rfl, .ty _, .base (.tup hg), kit_ty kTT, _, rfl, iteF ⟨.ref g, rfl, g, _, rfl, .inr (SqT.of hg), rfl, _, rfl, ?_⟩⟩
    have e0 : decide (V.int (xs.length : Int) = V.int 0) = false := decide_eq_false fun z => by
      have := V.int.inj z
      omega
    rw [e0]
    refine iteF ?_
    refine ⟨.ref g, rfl, g, _, rfl, SqT.of hg, tabs.2.2, fun H2 tb2 => ?_⟩
    have g2 := Gr.tab tabs.2.2 tb2
    refine gx_enum (K := K) (a := g) (xs := xs) (fun j _ H' => Gr H H') g2 (fun j _ H' _ e => SqT.of (e.tup hg)) ?_ ?_
    · rintro j x Tq _ H' hx nT gr
      obtain ⟨gt, hgt, tgt⟩ := tg.at hx
      have g3 : Gr H (upd H' Tq (.tup [.int (j : Nat), x])) := gr.trans (Gr.none nT)
      refine ⟨Tq, _, rfl, SqT.of upd_same, rfl, _, _, rfl, _, _, rfl, rfl, rfl, ?_⟩
      refine ⟨.int m, rfl, .int (j : Nat), rfl, _, _, rfl, rfl, x, rfl, m + j, x, gt, ?_, tgt.gr g3, ok j gt hgt, tabs.gr g3, fun H4 g4 => ⟨true, rfl, g3.trans g4⟩⟩
      show [V.int ((m : Int) + (j : Int)), x] = [V.int ((m + j : Nat) : Int), x]
      rw [Int.natCast_add]
    · rintro _ H' gr
      exact q H' gr

/-! ### data of tuples alone: no list that is written can harm it -/
mutual
def noL : PyData → Bool
  | .list _ => false
  | .tuple ds => noLs ds
  | _ => true
def noLs : List PyData → Bool
  | [] => true
  | d :: r => noL d && noLs r
end
def Ts (H H' : Hp) : Prop := ∀ b xs, H b = some (HO.tup xs) → H' b = some (.tup xs)
theorem Ts.refl {H : Hp} : Ts H H := fun _ _ e => e
theorem Ts.trans {H H1 H2 : Hp} (a : Ts H H1) (b : Ts H1 H2) : Ts H H2 := fun c xs e => b c xs (a c xs e)
theorem Ts.same {H H' : Hp} (s : Same H H') : Ts H H' := fun b xs e => s _ _ e
theorem Ts.gr {H H' : Hp} (s : Gr H H') : Ts H H' := fun b xs e => s.tup e
theorem Ts.new {H : Hp} {p : Addr} {o : HO} (h : H p = none) : Ts H (upd H p o) := Ts.same (same_upd h)
theorem Ts.set {H : Hp} {p : Addr} {xs ys : List V} (h : H p = some (.lst xs)) : Ts H (upd H p (.lst ys)) := fun b zs e => by
  rw [upd_ne (ne_of e h (by intro z; cases z))]
  exact e
mutual
theorem Tk.ts {H H' : Hp} (s : Ts H H') : ∀ {v : V} {d : PyData}, Tk H v d → noL d = true → Tk H' v d
  | _, _, .bl b, _ => .bl b
  | _, _, .int i, _ => .int i
  | _, _, .str x, _ => .str x
  | _, _, .lst h t, n => by cases n
  | _, _, .tup h t, n => .tup (s _ _ h) (t.ts s n)
theorem TkAll.ts {H H' : Hp} (s : Ts H H') : ∀ {vs : List V} {ds : List PyData}, TkAll H vs ds → noLs ds = true → TkAll H' vs ds
  | _, _, .nil, _ => .nil
  | _, _, .cons (d := d) (ds := ds) h t, n => by
    have n' : noL d = true ∧ noLs ds = true := Bool.and_eq_true_iff.mp n
    exact .cons (h.ts s n'.1) (t.ts s n'.2)
end
theorem noLs_map {α : Type} {f : α → PyData} (h : ∀ x, noL (f x) = true) : ∀ l : List α, noLs (l.map f) = true
  | [] => rfl
  | x :: r => by
    show (noL (f x) && noLs (r.map f)) = true
    rw [h x, noLs_map h r]
    rfl
theorem noL_row (r : List Int) : noL (rowD r) = true := noLs_map (fun _ => rfl) r
theorem noL_gate (g : Gt) : noL (gD g) = true := by
  show (true && (noLs ((g.2.map Int.ofNat).map PyData.int) && true)) = true
  rw [noLs_map (fun _ => rfl)]
  rfl
theorem noL_gates (gs : List Gt) : noLs (gs.map gD) = true := noLs_map noL_gate gs
theorem noL_net (m : Int) (gs : List Gt) : noL (netD m gs) = true := by
  show (true && (noLs (gs.map gD) && true)) = true
  rw [noL_gates]
  rfl
theorem noL_ch (a b : List Int) : noL (chD a b) = true := by
  show (noL (rowD a) && (noL (rowD b) && true)) = true
  rw [noL_row, noL_row]
  rfl

def flatG (gs : List Gt) : List Nat := gs.flatMap (·.2)
def high (m : Nat) (l : List Nat) : List Nat := l.filter fun x => decide (m ≤ x)
def formB (m : Nat) (gs : List Gt) : Bool := decide (high m (flatG gs)).Nodup
theorem flatG_take {gs : List Gt} {i : Nat} {g : Gt} (h : gs[i]? = some g) : flatG (gs.take (i + 1)) = flatG (gs.take i) ++ g.2 := by
  rw [List.take_add_one, h]
  unfold flatG
  show ((gs.take i) ++ [g]).flatMap _ = _
  rw [List.flatMap_append]
  simp
theorem high_app (m : Nat) (a b : List Nat) : high m (a ++ b) = high m a ++ high m b := List.filter_append ..
theorem flatG_split {gs : List Gt} {i j : Nat} {g : Gt} {k : Nat} (h : gs[i]? = some g) (hj : g.2[j]? = some k) : ∃ t, flatG gs = (flatG (gs.take i) ++ g.2.take j) ++ k :: t := by
  have e1 : gs = gs.take i ++ g :: gs.drop (i + 1) := by
    have hi := (List.getElem?_eq_some_iff.mp h)
    obtain ⟨hl, e⟩ := hi
    rw [← e, List.getElem_cons_drop, List.take_append_drop]
  have e2 : g.2 = g.2.take j ++ k :: g.2.drop (j + 1) := by
    have hj' := (List.getElem?_eq_some_iff.mp hj)
    obtain ⟨hl, e⟩ := hj'
    rw [← e, List.getElem_cons_drop, List.take_append_drop]
  refine ⟨g.2.drop (j + 1) ++ flatG (gs.drop (i + 1)), ?_⟩
  have e3 : flatG gs = flatG (gs.take i) ++ (g.2 ++ flatG (gs.drop (i + 1))) := by
    conv => lhs; rw [e1]
    unfold flatG
    rw [List.flatMap_append, List.flatMap_cons]
  rw [e3]
  conv => lhs; rw [e2]
  simp
theorem high_len (m : Nat) (l : List Nat) : (high m l).length ≤ l.length := List.length_filter_le ..
theorem flatG_len {gs : List Gt} (h : ∀ g ∈ gs, g.2.length ≤ 3) : (flatG gs).length ≤ 3 * gs.length := by
  induction gs with
  | nil => exact Nat.zero_le _
  | cons g r ih =>
    have e : flatG (g :: r) = g.2 ++ flatG r := by simp [flatG]
    have := ih fun x hx => h x (List.mem_cons_of_mem _ hx)
    have := h g (List.mem_cons_self ..)
    rw [e, List.length_append, List.length_cons]
    omega
/-- the set R holds the read gates of pre -/
def Reads (w : World) (m : Nat) (R : Addr) (H : Hp) (pre : List Nat) : Prop := ∃ (S : Int → Bool) (n : Nat), H R = some (SetO w R S n) ∧ (∀ k : Nat, S (k : Int) = decide (k ∈ high m pre)) ∧ n ≤ pre.length ∧ (high m pre).Nodup
def sp_is_formula (T : Tx K mg) : Sp := fun vs H Q _ => ∃ (nv : V) (m : Nat) (gs : List Gt), vs = [nv] ∧ Tk H nv (netD m gs) ∧ 1 ≤ m ∧ m ≤ 6 ∧ 1 ≤ gs.length ∧ gs.length ≤ 64 ∧ NetOk m gs ∧ Tabs2 T H ∧ ∀ H', Gr H H' → Q (.bl (formB m gs)) H'
theorem ok_is_formula (T : Tx K mg) (B : Tb base T) : FnOk P w K mg base CX0 6 T.f_is_formula T.fd_is_formula ["net"] (sp_is_formula T) := by
  refine T.F_is_formula.ok sc_is_formula (fun vs H Q E h => ?_) (fun cdv A outer s H vs Q E hr h => ?_)
  · obtain ⟨nv, m, gs, rfl, _⟩ := h
    rfl
  · obtain ⟨nv, m, gs, rfl, tn, m1, m6, g1, g64, ok, tabs, q⟩ := h
    refine ⟨_, (pss_cons (ps_if (pt_not (pt_val (pe_call (ok_is_net T B) (hr.mono (by decide)) (by rfl) T.g_is_net T.F_is_net.kp T.b_is_net .nil pass0 (pa_cons (pv 0) pa_nil)))) (pss_one (ps_ret pe_bl)) pss_nil) (pss_cons (ps_asg (pv 0) (pg_tup rfl (pgs_cons (pg_name (i := 1) sc_is_formula.nd rfl (by first | exact .inl rfl | exact .inr rfl)) (pgs_cons (pg_name (i := 2) sc_is_formula.nd rfl (by first | exact .inl rfl | exact .inr rfl)) pgs_nil)))) (pss_cons (ps_set (i := 3) sc_is_formula.nd rfl (by first | exact .inl rfl | exact .inr rfl) (pe_callTy0 cr_set0 (by rfl) T.m_set (by decide +kernel))) (pss_cons (ps_for PassesOwn.never rfl (pi_tup (pv 2)) (pg_tup rfl (pgs_cons (pg_name (i := 4) sc_is_formula.nd rfl (by first | exact .inl rfl | exact .inr rfl)) (pgs_cons (pg_name (i := 5) sc_is_formula.nd rfl (by first | exact .inl rfl | exact .inr rfl)) pgs_nil))) (pss_one (ps_for PassesOwn.never rfl (pi_tup (pv 5)) (pg_name (i := 6) sc_is_formula.nd rfl (by first | exact .inl rfl | exact .inr rfl)) (pss_cons (ps_if (pt_cmpR or_sin (pv 6) (pv 3) rfl) (pss_one (ps_ret pe_bl)) pss_nil) (pss_one (ps_if (pt_cmpR op_ge (pv 6) (pv 1) (nomark _)) (pss_one (ps_expr (pe_sadd (pv 3) (pa_cons (pv 6) pa_nil)))) pss_nil)))))) (pss_one (ps_ret pe_bl)))))), ?_⟩
    refine ⟨nv, rfl, nv, m, gs, rfl, tn, m1, m6, g1, ok, tabs, fun H1 gr1 => ⟨_, rfl, iteF ?_⟩⟩
    obtain ⟨a, g, xs, rfl, ha, hg, tg⟩ := (tn.gr gr1).net_inv
    have xl : xs.length = gs.length := by rw [tg.length, List.length_map]
    have ins3 : ∀ gg ∈ gs, gg.2.length ≤ 3 := fun gg hgg => by
      obtain ⟨i, hi⟩ := List.getElem?_of_mem hgg
      exact (ok i gg hi).2.2.1
    refine ⟨.ref a, rfl, a, _, rfl, SqT.of ha, rfl, _, _, rfl, _, _, rfl, rfl, ?_⟩
    refine ⟨rfl, fun R nR => ?_⟩
    refine ⟨.ref g, rfl, g, rfl, ⟨_, SqT.of ((Gr.none nR).tup hg)⟩, ?_⟩
    refine for_tup (K := K) (a := g) (xs := xs) (fun i σ H' => ∃ y4 y5 y6, σ = [some (.ref a), some (.int m), some (.ref g), some (.ref R), y4, y5, y6] ∧ GrD R H1 H' ∧ Reads w m R H' (flatG (gs.take i)))
      ⟨_, _, _, rfl, GrD.new nR, _, 0, upd_same, fun k => rfl, Nat.zero_le _, List.nodup_nil⟩ (fun i σ H' _ ⟨_, _, _, _, hP, _⟩ => SqT.of (hP.gr.tup hg)) ?_ ?_
    · rintro i v σ H2 hv ⟨y4, y5, y6, rfl, gr2, rd2⟩
      obtain ⟨gt, hgt, tgt⟩ := tg.at hv
      obtain ⟨ga, ii, rfl, hga, hii⟩ := (tgt.gr gr2.gr).gt_inv
      have g3 := ins3 gt (List.mem_of_getElem? hgt)
      have fl : (flatG (gs.take i)).length ≤ 192 := by
        have := flatG_len (gs := gs.take i) fun x hx => ins3 x (List.mem_of_mem_take hx)
        rw [List.length_take] at this
        omega
      refine ⟨ga, _, rfl, SqT.of hga, rfl, _, _, rfl, _, _, rfl, rfl, ?_⟩
      refine ⟨.ref ii, rfl, ii, rfl, ⟨_, SqT.of hii⟩, for_tup (K := K) (a := ii) (xs := (gt.2.map Int.ofNat).map V.int) (fun j σ H' => ∃ y6, σ = [some (.ref a), some (.int m), some (.ref g), some (.ref R), some (.str (tabOf gt.1)), some (.ref ii), y6] ∧ GrD R H1 H' ∧ Ts H2 H' ∧ Reads w m R H' (flatG (gs.take i) ++ gt.2.take j))
        ⟨_, rfl, gr2, Ts.refl, by rw [List.take_zero, List.append_nil]; exact rd2⟩ (fun j σ H' _ ⟨_, _, _, t, _⟩ => SqT.of (t _ _ hii)) ?_ ?_⟩
      · rintro j x σ H3 hx ⟨y6', rfl, gr3, t3, S, n, hR, hS, hn, nd⟩
        rw [List.getElem?_map, List.getElem?_map] at hx
        cases hj : gt.2[j]? with
        | none => rw [hj] at hx; cases hx
        | some k =>
          rw [hj] at hx
          cases Option.some.inj hx
          have hjl := (List.getElem?_eq_some_iff.mp hj).1
          have pl : (flatG (gs.take i) ++ gt.2.take j).length ≤ 195 := by
            rw [List.length_append, List.length_take]
            omega
          have tk1 : gt.2.take (j + 1) = gt.2.take j ++ [k] := by rw [List.take_add_one, hj]; rfl
          refine ⟨.int (Int.ofNat k), rfl, .ref R, rfl, _, R, S, n, rfl, rfl, hR, _, rfl, ite2 (fun z => ?_) (fun z => ?_)⟩
          · have hk : k ∈ high m (flatG (gs.take i) ++ gt.2.take j) := by
              have := hS k
              have z' : S (k : Int) = true := z
              rw [z'] at this
              exact of_decide_eq_true this.symm
            have : formB m gs = false := by
              unfold formB
              refine decide_eq_false fun nd2 => ?_
              obtain ⟨t, e⟩ := flatG_split hgt hj
              rw [e, high_app] at nd2
              have hkm : decide (m ≤ k) = true := (List.mem_filter.mp hk).2
              have e2 : high m (k :: t) = k :: high m t := List.filter_cons_of_pos hkm
              rw [e2] at nd2
              exact (List.nodup_append.mp nd2).2.2 k hk k (List.mem_cons_self ..) rfl
            have q' := q H3 (gr1.trans gr3.gr)
            rw [this] at q'
            exact q'
          · have hk : k ∉ high m (flatG (gs.take i) ++ gt.2.take j) := fun y => by
              have := hS k
              rw [decide_eq_true y] at this
              exact z this
            refine ⟨.int (Int.ofNat k), rfl, .int m, rfl, _, _, rfl, rfl, _, rfl, ite2 (fun c => ?_) (fun c => ?_)⟩
            · have hm : m ≤ k := by
                have : (m : Int) ≤ Int.ofNat k := of_decide_eq_true c
                exact Int.ofNat_le.mp this
              have e1 : high m (flatG (gs.take i) ++ gt.2.take (j + 1)) = high m (flatG (gs.take i) ++ gt.2.take j) ++ [k] := by
                rw [tk1, ← List.append_assoc, high_app]
                congr 1
                exact List.filter_cons_of_pos (decide_eq_true hm)
              refine ⟨.ref R, rfl, ⟨R, S, n, rfl, hR⟩, .int (Int.ofNat k), rfl, R, _, S, n, rfl, rfl, hR, Nat.lt_of_le_of_lt (show n + 1 ≤ 200 by omega) (by decide), ?_⟩
              refine ⟨_, rfl, gr3.set, t3.trans fun b zs e => ?_, _, _, upd_same, fun x => ?_, ?_, ?_⟩
              · rw [upd_ne (ne_of e hR (by intro z; cases z))]
                exact e
              · rw [e1]
                show (S (x : Int) || decide ((x : Int) = Int.ofNat k)) = _
                rw [hS x]
                have : decide ((x : Int) = Int.ofNat k) = decide (x = k) := decide_eq_decide.mpr ⟨fun y => Int.ofNat.inj y, fun y => congrArg Int.ofNat y⟩
                rw [this, ← Bool.decide_or]
                congr 1
                rw [List.mem_append, List.mem_singleton]
              · rw [tk1, ← List.append_assoc, List.length_append]
                show (if S (Int.ofNat k) = true then n else n + 1) ≤ _ + 1
                split <;> omega
              · rw [e1]
                exact List.nodup_append.mpr ⟨nd, List.nodup_cons.mpr ⟨List.not_mem_nil, List.nodup_nil⟩, fun x hx y hy e => hk (by rw [List.mem_singleton.mp hy] at e; rw [← e]; exact hx)⟩
            · have hm : ¬ m ≤ k := fun y => c (decide_eq_true (show (m : Int) ≤ Int.ofNat k from Int.ofNat_le.mpr y))
              have e1 : high m (flatG (gs.take i) ++ gt.2.take (j + 1)) = high m (flatG (gs.take i) ++ gt.2.take j) := by
                rw [tk1, ← List.append_assoc, high_app]
                have : high m [k] = [] := List.filter_cons_of_neg (by simpa using hm)
                rw [this, List.append_nil]
              refine ⟨_, rfl, gr3, t3, S, n, hR, fun x => by rw [e1]; exact hS x, ?_, by rw [e1]; exact nd⟩
              rw [tk1, ← List.append_assoc, List.length_append]
              omega
      · rintro σ H3 ⟨y6', rfl, gr3, t3, rd3⟩
        refine ⟨_, _, _, rfl, gr3, ?_⟩
        rw [flatG_take hgt]
        rw [List.length_map, List.length_map, List.take_length] at rd3
        exact rd3
    · rintro σ H2 ⟨y4, y5, y6, rfl, gr2, S, n, hR, hS, hn, nd⟩
      rw [xl, List.take_length] at nd
      have : formB m gs = true := decide_eq_true nd
      have q' := q H2 (gr1.trans gr2.gr)
      rw [this] at q'
      exact q'

end
end Gk

set_option Elab.async false
set_option linter.all false
set_option maxRecDepth 100000
set_option maxHeartbeats 1000000
namespace Gk
open PySem PySem.Spec PyProof.Rows L2
section
variable {P : Program} {w : World} {K : PySem.W.Frag} {mg : Str → Option Value} {base : Heap}
/-! ### the deck of three parts -/
theorem p03 : (0 : Int) < 1000003 := by decide
def DeckB (H : Hp) (d l : Addr) (n : Int) : Prop := d ≠ l ∧ ∃ (cs : List Int) (z y : Int), H d = some (.lst [.ref l, .int z, .int y]) ∧ H l = some (.lst (cs.map V.int)) ∧ cs.length ≤ 63 ∧ 0 ≤ z ∧ z ≤ n
theorem DeckB.mono {H : Hp} {d l : Addr} {n m : Int} (D : DeckB H d l n) (h : n ≤ m) : DeckB H d l m := by
  obtain ⟨ne, cs, z, y, h1, h2, h3, h4, h5⟩ := D
  exact ⟨ne, cs, z, y, h1, h2, h3, h4, Int.le_trans h5 h⟩
theorem DeckB.same {H H' : Hp} {d l : Addr} {n : Int} (D : DeckB H d l n) (s : Same H H') : DeckB H' d l n := by
  obtain ⟨ne, cs, z, y, hd, hl, r⟩ := D
  exact ⟨ne, cs, z, y, s _ _ hd, s _ _ hl, r⟩
theorem DeckB.gr {H H' : Hp} {d l : Addr} {n : Int} (D : DeckB H d l n) (s : Gr H H') : DeckB H' d l n := by
  obtain ⟨ne, cs, z, y, hd, hl, r⟩ := D
  exact ⟨ne, cs, z, y, s.lst hd, s.lst hl, r⟩
theorem lc_enum {K : PySem.W.Frag} {a : Addr} {xs : List V} {g : TG} {tt : TT} {te : TE} {vs : List Nat} {σ : L2.St} {H1 : Hp} {D : Addr} {Qd : Hp → Prop} (Pv : Nat → Hp → Prop) (h0 : Pv 0 (upd H1 D (.lst []))) (hl : ∀ i H, i ≤ xs.length → Pv i H → SqL K H a xs)
    (hs : ∀ i x T H, xs[i]? = some x → H T = none → Pv i H → g (.ref T) (wipe σ vs) (upd H T (.tup [.int (i : Nat), x])) fun σ2 H2 => wipe σ2 vs = wipe σ vs ∧ tt σ2 H2 fun b H3 =>
      if b = true then te σ2 H3 fun y H4 => ∃ acc, H4 D = some (.lst acc) ∧ acc.length < sizeLine ∧ Pv (i + 1) (upd H4 D (.lst (acc ++ [y]))) else Pv (i + 1) H3) (hd : ∀ H, Pv xs.length H → Qd H) :
    ∃ W : Nat → Nat → Hp → Prop, (∃ m, W 0 m (upd H1 D (.lst []))) ∧ ∀ i m H, W i m H →
      ((Ite K a).stop i H ∧ Qd H) ∨ ((Ite K a).go i H ∧ ∃ Nx : Hp → Prop, (∀ H', Nx H' → ∃ m', m' < m ∧ W (i + 1) m' H') ∧ ∀ x H', (Ite K a).yld i H x H' → g x (wipe σ vs) H' fun σ2 H2 => wipe σ2 vs = wipe σ vs ∧ tt σ2 H2 fun b H3 =>
        if b = true then te σ2 H3 fun y H4 => ∃ acc, H4 D = some (.lst acc) ∧ acc.length < sizeLine ∧ Nx (upd H4 D (.lst (acc ++ [y]))) else Nx H3) := by
  refine ⟨fun i m H => m = xs.length - i ∧ i ≤ xs.length ∧ Pv i H, ⟨xs.length, by simp, Nat.zero_le _, h0⟩, ?_⟩
  rintro i m H ⟨rfl, hi, p⟩
  have qx := hl i H hi p
  by_cases hlt : i < xs.length
  · have hx : xs[i]? = some xs[i] := List.getElem?_eq_getElem hlt
    refine .inr ⟨⟨xs, _, qx, hx⟩, Pv (i + 1), fun H' p' => ⟨xs.length - (i + 1), by omega, rfl, hlt, p'⟩, fun x H' y => ?_⟩
    obtain ⟨T, x1, rfl, nT, rfl, e1⟩ := y
    exact hs i x1 T H (e1 xs qx) nT p
  · have e : i = xs.length := by omega
    subst e
    exact .inl ⟨⟨xs, qx, Nat.le_refl _⟩, hd H p⟩
theorem cutB {ns : List Int} (h : ns.length ≤ 63) : cutV (ns.map V.int) none (some 63) = ns.map V.int := by
  unfold cutV
  have e : HT.sIx (ns.map V.int).length (ns.map V.int).length (some 63) = min 63 (ns.map V.int).length := HT.sIx_nat _ _ 63
  rw [HT.sIx_none, e, List.length_map, List.drop_zero]
  apply List.take_of_length_le
  rw [List.length_map]
  omega
def sp_deck (K : PySem.W.Frag) : Sp := fun vs H Q _ => ∃ (a : Addr) (ns : List Int), vs = [.ref a] ∧ SqL K H a (ns.map V.int) ∧ ns.length ≤ 63 ∧ ∀ H' d l, Same H H' → DeckB H' d l 0 → Q (.ref d) H'
theorem ok_deck (T : Tx K mg) : FnOk P w K mg base CX0 1 T.f_deck T.fd_deck ["_law_script"] (sp_deck K) := by
  refine T.F_deck.ok sc_deck (fun vs H Q E h => ?_) (fun cdv A outer s H vs Q E hr h => ?_)
  · obtain ⟨a, ns, rfl, _⟩ := h
    rfl
  · obtain ⟨a, ns, rfl, hS, hlen, q⟩ := h
    refine ⟨_, (pss_cons (ps_set (i := 1) sc_deck.nd rfl (by first | exact .inl rfl | exact .inr rfl) (pe_callTy call_list_of (by rfl) T.m_list (by decide +kernel) (pa_cons (pe_slice sl_list (pv 0) po_none (po_some pe_int)) pa_nil))) (pss_one (ps_ret (pe_lst (pa_cons (pv 1) (pa_cons pe_int (pa_cons (pe_callB (cr_sum rfl) (by rfl) T.m_sum (by decide +kernel) (pa_cons (pe_lc (own := [("_law_k", 2), ("_law_cell", 3)]) (by rfl) sc_deck.nd (pi_enum (by rfl) T.m_enumerate (pa_cons (pv 1) pa_nil)) (blkOk_by (own := [("_law_k", 2), ("_law_cell", 3)]) (N := ["_law_script", "_law_cells", "_law_k", "_law_cell"]) (sc := defScope s_deck) (by decide +kernel)) (fun _ _ _ _ _ => (show PG _ _ (gTup K 2 _) from pg_tup rfl (pgs_cons (pg_name (i := 2) sc_deck.nd rfl (by first | exact .inl rfl | exact .inr rfl)) (pgs_cons (pg_name (i := 3) sc_deck.nd rfl (by first | exact .inl rfl | exact .inr rfl)) pgs_nil)))) (fun _ _ _ _ _ => pts_nil) (fun _ _ _ _ _ => (pe_op op_mul (pe_op op_mod (pv 3) pe_int) (pe_op op_add (pv 2) pe_int)))) pa_nil)) pa_nil))))))), ?_⟩
    refine ⟨.ref a, rfl, 63, rfl, a, _, rfl, hS, fun c2 nc2 => ?_⟩
    rw [cutB hlen]
    refine ⟨c2, _, rfl, .inl (SqL.of upd_same), fun l nl => ?_⟩
    have s1 : Same H (upd (upd H c2 (.lst (ns.map V.int))) l (.lst (ns.map V.int))) := (same_upd nc2).trans (same_upd nl)
    have h1 : (upd (upd H c2 (.lst (ns.map V.int))) l (.lst (ns.map V.int))) l = some (.lst (ns.map V.int)) := upd_same
    revert s1 h1
    generalize upd (upd H c2 (.lst (ns.map V.int))) l (.lst (ns.map V.int)) = H1
    intro s1 h1
    refine ⟨.ref l, rfl, .ref l, rfl, l, _, rfl, SqL.of h1, fun D nD => ?_⟩
    refine lc_enum (K := K) (a := l) (xs := ns.map V.int) (fun i H' => Same H1 (hd1 D H') ∧ ∃ ms : List Int, H' D = some (.lst (ms.map V.int)) ∧ ms.length = i) ⟨hd1_of (same_upd nD) nD, [], upd_same, rfl⟩ (fun i H' _ hP => SqL.of (hd1_le _ _ (hP.1 _ _ h1))) ?_ ?_
    · rintro i x Tq H2 hx nT ⟨s2, ms, hD, lm⟩
      rw [List.getElem?_map] at hx
      cases hj : ns[i]? with
      | none => rw [hj] at hx; cases hx
      | some c =>
        rw [hj] at hx
        cases Option.some.inj hx
        have hi := (List.getElem?_eq_some_iff.mp hj).1
        refine ⟨Tq, _, rfl, SqT.of upd_same, rfl, _, _, rfl, _, _, rfl, rfl, rfl, ?_⟩
        refine ⟨.int c, rfl, _, _, rfl, rfl, p03, .int (i : Nat), rfl, _, _, rfl, rfl, c % 1000003, (i : Int) + 2, rfl, rfl, .inr ⟨by omega, by omega⟩, ?_⟩
        have hD2 : (upd H2 Tq (.tup [.int (i : Nat), .int c])) D = some (.lst (ms.map V.int)) := by
          rw [upd_ne (ne_of_none hD nT)]
          exact hD
        refine ⟨_, hD2, ?_, (s2.trans (hd1_same (same_upd nT))).trans hd1_upd, ms ++ [c % 1000003 * ((i : Int) + 2)], ?_, by rw [List.length_append, lm]; rfl⟩
        · rw [List.length_map, lm]
          exact Nat.lt_of_lt_of_le (show i < 64 by omega) (by decide)
        · rw [upd_same, List.map_append]
          rfl
    · rintro H2 ⟨s2, ms, hD, lm⟩
      have s12 : Same H1 H2 := fun b o e => hd1_le _ _ (s2 _ _ e)
      refine ⟨D, ms, rfl, SqL.of hD, sl3, fun d nd => ?_⟩
      have nld : l ≠ d := ne_of_none (s12 _ _ h1) nd
      exact q _ d l ((s1.trans s12).trans (same_upd nd)) ⟨nld.symm, ns, 0, ms.sum, upd_same, (by rw [upd_ne nld]; exact s12 _ _ h1), hlen, Int.le_refl _, Int.le_refl _⟩
/-! ### a draw -/
def sp_draw (K : PySem.W.Frag) : Sp := fun vs H Q _ => ∃ (d l : Addr) (m n : Int), vs = [.ref d, .int m] ∧ DeckB H d l n ∧ n < 1000000000 ∧ 0 < m ∧ m < 1073741824 ∧ ∀ H' v, DeckB H' d l (n + 1) → Fr d l H H' → 0 ≤ v → v < m → Q (.int v) H'
theorem ok_draw (T : Tx K mg) : FnOk P w K mg base CX0 1 T.f_draw T.fd_draw ["_law_deck_here", "_law_most"] (sp_draw K) := by
  refine T.F_draw.ok sc_draw (fun vs H Q E h => ?_) (fun cdv A outer s H vs Q E hr h => ?_)
  · obtain ⟨d, l, m, n, rfl, _⟩ := h
    rfl
  · obtain ⟨d, l, m, n, rfl, D, hn, hm0, hm1, q⟩ := h
    obtain ⟨ne, cs, z, y, hd, hl, hcs, hz0, hz1⟩ := D
    refine ⟨_, (pss_cons (ps_asg (pe_op op_add (pe_ix ix_list (pv 0) pe_int (fun _ _ => rfl)) pe_int) (pg_sub (pv 0) pe_int set_list)) (pss_cons (ps_set (i := 2) sc_draw.nd rfl (by first | exact .inl rfl | exact .inr rfl) (pe_op op_add (pe_ix ix_list (pv 0) pe_int (fun _ _ => rfl)) (pe_op op_mul pe_int (pe_ix ix_list (pv 0) pe_int (fun _ _ => rfl))))) (pss_cons (ps_if (pt_cmpR (op_neD hr.units) (pe_ix ix_list (pv 0) pe_int (fun _ _ => rfl)) (pe_lst pa_nil) (nomark _)) (pss_cons (ps_set (i := 2) sc_draw.nd rfl (by first | exact .inl rfl | exact .inr rfl) (pe_bm PySem.F.plainAttrs_list PySem.F.slot_list_pop PySem.F.type_list_pop mt_popAt (pe_ix ix_list (pv 0) pe_int (fun _ _ => rfl)) (pa_cons pe_int pa_nil))) (pss_one (ps_if (pt_cmpR op_ge (pv 2) (pe_op op_pow pe_int pe_int) (nomark _)) (pss_cons (ps_expr (pe_bm PySem.F.plainAttrs_list PySem.F.slot_list_insert PySem.F.type_list_insert mt_insert (pe_ix ix_list (pv 0) pe_int (fun _ _ => rfl)) (pa_cons pe_int (pa_cons (pe_op op_fdiv (pv 2) (pv 1)) pa_nil)))) (pss_one (ps_ret (pe_op op_mod (pv 2) (pv 1))))) pss_nil))) pss_nil) (pss_cons (ps_set (i := 3) sc_draw.nd rfl (by first | exact .inl rfl | exact .inr rfl) (pe_op op_mod (pe_op op_mul (pe_op op_add (pe_op op_add (pe_op op_mod (pv 2) pe_int) (pe_op op_mul (pe_op op_mul pe_int (pe_ix ix_list (pv 0) pe_int (fun _ _ => rfl))) (pe_ix ix_list (pv 0) pe_int (fun _ _ => rfl)))) pe_int) pe_int) pe_int)) (pss_cons (ps_set (i := 3) sc_draw.nd rfl (by first | exact .inl rfl | exact .inr rfl) (pe_op op_mod (pe_op op_add (pe_op op_add (pe_op op_mul (pv 3) (pv 3)) (pe_op op_mul pe_int (pv 3))) (pe_ix ix_list (pv 0) pe_int (fun _ _ => rfl))) pe_int)) (pss_one (ps_ret (pe_op op_mod (pe_op op_fdiv (pv 3) pe_int) (pv 1))))))))), ?_⟩
    -- deck[1] = deck[1] + 1
    refine ⟨.ref d, rfl, d, _, 1, .int z, rfl, rfl, SqL.of hd, rfl, z, 1, rfl, rfl, .ref d, rfl, d, _, 1, 1, rfl, rfl, hd, rfl, ?_⟩
    have hd1 : (upd H d (.lst [.ref l, .int (z + 1), .int y])) d = some (.lst [.ref l, .int (z + 1), .int y]) := upd_same
    have hl1 : (upd H d (.lst [.ref l, .int (z + 1), .int y])) l = some (.lst (cs.map V.int)) := by rw [upd_ne ne.symm]; exact hl
    have fr1 : Fr d l H (upd H d (.lst [.ref l, .int (z + 1), .int y])) := Fr.d
    have hz2 : 0 ≤ z + 1 := by omega
    have hz3 : z + 1 ≤ n + 1 := by omega
    have hz4 : z + 1 < 2000000000 := by omega
    show tSeq _ _ _ _ (upd H d (.lst [.ref l, .int (z + 1), .int y]))
    revert hd1 hl1 fr1 hz2 hz3 hz4
    generalize upd H d (.lst [.ref l, .int (z + 1), .int y]) = H1
    generalize z + 1 = z'
    intro hd1 hl1 fr1 hz2 hz3 hz4
    -- cell = deck[2] + 104729 * deck[1]
    refine ⟨.ref d, rfl, d, _, 2, .int y, rfl, rfl, SqL.of hd1, rfl, .ref d, rfl, d, _, 1, .int z', rfl, rfl, SqL.of hd1, rfl, 104729, z', rfl, rfl, .inl ⟨by decide, by decide⟩, _, _, rfl, rfl, ?_⟩
    -- if deck[0] != []
    refine ⟨.ref d, rfl, d, _, 0, .ref l, rfl, rfl, SqL.of hd1, rfl, Nat.zero_le _, fun p np => ?_⟩
    have fr2 : Fr d l H (upd H1 p (.lst [])) := fr1.trans (Fr.new np)
    have hd2 : (upd H1 p (.lst [])) d = some (.lst [.ref l, .int z', .int y]) := same_upd np _ _ hd1
    have hl2 : (upd H1 p (.lst [])) l = some (.lst (cs.map V.int)) := same_upd np _ _ hl1
    refine ⟨.list (cs.map .int), .list [], .lst (SqL.of hl2) (dpInts cs), .lst (SqL.of upd_same) .nil, shInts cs, rfl, _, rfl, ?_⟩
    revert fr2 hd2 hl2
    generalize upd H1 p (.lst []) = H2
    intro fr2 hd2 hl2
    cases cs with
    | nil =>
      refine iteF ?_
      refine ⟨.int (y + 104729 * z'), rfl, _, _, rfl, rfl, p29, .ref d, rfl, d, _, 1, .int z', rfl, rfl, SqL.of hd2, rfl, 7919, z', rfl, rfl, .inl ⟨by decide, by decide⟩, .ref d, rfl, d, _, 1, .int z', rfl, rfl, SqL.of hd2, rfl, 7919 * z', z', rfl, rfl, .inr ⟨by omega, by omega⟩, _, _, rfl, rfl, _, _, rfl, rfl, _, 48271, rfl, rfl, .inr ⟨by decide, by decide⟩, _, _, rfl, rfl, p47, ?_⟩
      dsimp only
      have v0 := Int.emod_nonneg (((y + 104729 * z') % 2147483629 + 7919 * z' * z' + 31) * 48271) (show (2147483647 : Int) ≠ 0 by decide)
      have v1 := Int.emod_lt_of_pos (((y + 104729 * z') % 2147483629 + 7919 * z' * z' + 31) * 48271) (show (0 : Int) < 2147483647 by decide)
      revert v0 v1
      generalize (((y + 104729 * z') % 2147483629 + 7919 * z' * z' + 31) * 48271) % 2147483647 = v
      intro v0 v1
      refine ⟨.int v, rfl, .int v, rfl, v, v, rfl, rfl, .inl ⟨by omega, by omega⟩, .int v, rfl, 69621, v, rfl, rfl, .inl ⟨by decide, by decide⟩, _, _, rfl, rfl, .ref d, rfl, d, _, 1, .int z', rfl, rfl, SqL.of hd2, rfl, _, _, rfl, rfl, _, _, rfl, rfl, p87, ?_⟩
      refine ⟨.int ((v * v + 69621 * v + z') % 2147483587), rfl, _, _, rfl, rfl, ⟨by decide, by decide⟩, .int m, rfl, _, _, rfl, rfl, hm0, ?_⟩
      exact q _ _ ⟨ne, [], z', y, hd2, hl2, hcs, hz2, hz3⟩ fr2 (Int.emod_nonneg _ (by omega)) (Int.emod_lt_of_pos _ hm0)
    | cons c r =>
      refine iteT ?_
      -- cell = deck[0].pop(0)
      refine ⟨.ref d, rfl, d, _, 0, .ref l, rfl, rfl, SqL.of hd2, rfl, .inl ⟨rfl, _, SqL.of hl2⟩, l, _, 0, 0, .int c, rfl, rfl, hl2, by decide, by decide, seqIx0 _ _, rfl, ?_⟩
      have hd3 : (upd H2 l (.lst (r.map V.int))) d = some (.lst [.ref l, .int z', .int y]) := by rw [upd_ne ne]; exact hd2
      have hl3 : (upd H2 l (.lst (r.map V.int))) l = some (.lst (r.map V.int)) := upd_same
      have fr3 : Fr d l H (upd H2 l (.lst (r.map V.int))) := fr2.trans Fr.l
      have hr63 : r.length + 1 ≤ 63 := hcs
      -- if cell >= 10 ** 18
      refine ⟨.int c, rfl, _, _, rfl, rfl, ⟨by decide, by decide, by decide⟩, _, _, rfl, rfl, _, rfl, ite2 (fun _ => ?_) (fun _ => ?_)⟩
      · refine ⟨.ref d, rfl, d, _, 0, .ref l, rfl, rfl, SqL.of hd3, rfl, .inl ⟨rfl, _, SqL.of hl3⟩, .int c, rfl, .int m, rfl, _, _, rfl, rfl, ⟨hm0, hm1⟩, l, _, 0, _, rfl, rfl, hl3, ?_, by decide, by decide, ?_⟩
        · rw [List.length_map]
          exact Nat.lt_of_lt_of_le (show r.length < 64 by omega) (by decide)
        · refine ⟨.int c, rfl, .int m, rfl, _, _, rfl, rfl, hm0, ?_⟩
          refine q _ _ ⟨ne, c / m :: r, z', y, (by rw [upd_ne ne]; exact hd3), ?_, hr63, hz2, hz3⟩ (fr3.trans Fr.l) (Int.emod_nonneg _ (by omega)) (Int.emod_lt_of_pos _ hm0)
          rw [upd_same]
          simp
      · refine ⟨.int c, rfl, _, _, rfl, rfl, p29, .ref d, rfl, d, _, 1, .int z', rfl, rfl, SqL.of hd3, rfl, 7919, z', rfl, rfl, .inl ⟨by decide, by decide⟩, .ref d, rfl, d, _, 1, .int z', rfl, rfl, SqL.of hd3, rfl, 7919 * z', z', rfl, rfl, .inr ⟨by omega, by omega⟩, _, _, rfl, rfl, _, _, rfl, rfl, _, 48271, rfl, rfl, .inr ⟨by decide, by decide⟩, _, _, rfl, rfl, p47, ?_⟩
        dsimp only
        have v0 := Int.emod_nonneg ((c % 2147483629 + 7919 * z' * z' + 31) * 48271) (show (2147483647 : Int) ≠ 0 by decide)
        have v1 := Int.emod_lt_of_pos ((c % 2147483629 + 7919 * z' * z' + 31) * 48271) (show (0 : Int) < 2147483647 by decide)
        revert v0 v1
        generalize ((c % 2147483629 + 7919 * z' * z' + 31) * 48271) % 2147483647 = v
        intro v0 v1
        refine ⟨.int v, rfl, .int v, rfl, v, v, rfl, rfl, .inl ⟨by omega, by omega⟩, .int v, rfl, 69621, v, rfl, rfl, .inl ⟨by decide, by decide⟩, _, _, rfl, rfl, .ref d, rfl, d, _, 1, .int z', rfl, rfl, SqL.of hd3, rfl, _, _, rfl, rfl, _, _, rfl, rfl, p87, ?_⟩
        refine ⟨.int ((v * v + 69621 * v + z') % 2147483587), rfl, _, _, rfl, rfl, ⟨by decide, by decide⟩, .int m, rfl, _, _, rfl, rfl, hm0, ?_⟩
        exact q _ _ ⟨ne, r, z', y, hd3, hl3, by omega, hz2, hz3⟩ fr3 (Int.emod_nonneg _ (by omega)) (Int.emod_lt_of_pos _ hm0)

/-! ### drawn tables, nets, changes -/
def TabsIn (k : Nat) (bss : List (List Bool)) : Prop := bss ≠ [] ∧ bss.length ≤ 8 ∧ ∀ bs ∈ bss, bs.length = 2 ^ k
def vT (bs : List Bool) : V := .str (tabOf bs)
theorem tab_pick {k : Nat} {bss : List (List Bool)} (h : TabsIn k bss) {v : Int} (v0 : 0 ≤ v) (v1 : v < bss.length) : ∃ bs, atI (bss.map vT) v = some (vT bs) ∧ bs.length = 2 ^ k := by
  obtain ⟨j, rfl⟩ := Int.eq_ofNat_of_zero_le v0
  have hj : j < bss.length := by omega
  refine ⟨bss[j], atI_nat ?_, h.2.2 _ (List.getElem_mem hj)⟩
  rw [List.getElem?_map, List.getElem?_eq_getElem hj]
  rfl
def tabs1 : List (List Bool) := [[true, false], [false, true], [true, false]]
def tabs2 : List (List Bool) := [[false, false, false, true], [false, true, true, true], [false, true, true, false], [true, true, true, false], [true, false, false, false], [true, false, false, true], [false, false, true, false], [true, true, false, true]]
def tabs3 : List (List Bool) := [[false, false, false, false, false, false, false, true], [false, true, true, true, true, true, true, true], [false, true, true, false, true, false, false, true], [false, false, false, true, false, true, true, true],
  [false, false, true, true, false, true, false, true], [true, true, true, false, true, false, false, false], [true, false, false, false, false, false, false, false], [false, true, false, false, false, false, true, false]]
theorem tabsIn1 : TabsIn 1 tabs1 := ⟨by decide, by decide, by decide⟩
theorem tabsIn2 : TabsIn 2 tabs2 := ⟨by decide, by decide, by decide⟩
theorem tabsIn3 : TabsIn 3 tabs3 := ⟨by decide, by decide, by decide⟩
def sg (b : Bool) : Str := SX.S [if b = true then 49 else 48]
theorem sg0 : Str.ofString (toString (0 : Int)) = sg false := by decide +kernel
theorem sg1 : Str.ofString (toString (1 : Int)) = sg true := by decide +kernel
theorem joinL_nil : ∀ l : List (List Nat), TL.joinL [] l = l.flatten
  | [] => rfl
  | [p] => by simp [TL.joinL]
  | p :: q :: r => by
    show p ++ ([] ++ TL.joinL [] (q :: r)) = _
    rw [joinL_nil (q :: r)]
    rfl
theorem join_sg (bs : List Bool) : Txt.join (Str.ofString "") (bs.map sg) = tabOf bs := by
  have e : bs.map sg = (bs.map fun b => [if b = true then 49 else 48]).map SX.S := by rw [List.map_map]; rfl
  have z : Str.ofString "" = SX.S [] := by decide +kernel
  rw [e, z, SX.join_S, joinL_nil]
  have : (bs.map fun b => [if b = true then 49 else 48]).flatten = bs.map fun b => if b = true then 49 else 48 := by
    clear e z
    induction bs with
    | nil => rfl
    | cons b r ih => rw [List.map_cons, List.flatten_cons, ih]; rfl
  rw [this]
  rfl
theorem Fr.inv {d l : Addr} {H H' : Hp} (f : Fr d l H H') {b : Addr} {o : HO} (h1 : b ≠ d) (h2 : b ≠ l) (e : H b = some o) : H' b = some o := f b o h1 h2 e
def sp_table (K : PySem.W.Frag) : Sp := fun vs H Q _ => ∃ (d l : Addr) (n : Int) (k : Nat), vs = [.ref d, .int k] ∧ DeckB H d l n ∧ n < 1000000 ∧ 1 ≤ k ∧ k ≤ 3 ∧ ∀ H' bs, DeckB H' d l (n + 10) → Fr d l H H' → bs.length = 2 ^ k → Q (.str (tabOf bs)) H'
theorem ok_table (T : Tx K mg) : FnOk P w K mg base CX0 2 T.f_table T.fd_table ["_law_deck_here", "_law_ins"] (sp_table K) := by
  refine T.F_table.ok sc_table (fun vs H Q E h => ?_) (fun cdv A outer s H vs Q E hr h => ?_)
  · obtain ⟨d, l, n, k, rfl, _⟩ := h
    rfl
  · obtain ⟨d, l, n, k, rfl, D, hn, k1, k3, q⟩ := h
    refine ⟨_, (pss_cons (ps_set (i := 2) sc_table.nd rfl (by first | exact .inl rfl | exact .inr rfl) (pe_call (ok_draw T) (hr.mono (by decide)) (by rfl) T.g_draw T.F_draw.kp T.b_draw .nil pass0 (pa_cons (pv 0) (pa_cons pe_int pa_nil)))) (pss_cons (ps_set (i := 3) sc_table.nd rfl (by first | exact .inl rfl | exact .inr rfl) (pe_lst (pa_cons (pe_lst (pa_cons pe_str (pa_cons pe_str (pa_cons pe_str pa_nil)))) (pa_cons (pe_lst (pa_cons pe_str (pa_cons pe_str (pa_cons pe_str (pa_cons pe_str (pa_cons pe_str (pa_cons pe_str (pa_cons pe_str (pa_cons pe_str pa_nil))))))))) pa_nil)))) (pss_cons (ps_expr (pe_bm PySem.F.plainAttrs_list PySem.F.slot_list_append PySem.F.type_list_append mt_append (pv 3) (pa_cons (pe_lst (pa_cons pe_str (pa_cons pe_str (pa_cons pe_str (pa_cons pe_str (pa_cons pe_str (pa_cons pe_str (pa_cons pe_str (pa_cons pe_str pa_nil))))))))) pa_nil))) (pss_cons (ps_if (pt_cmpR op_lt (pv 2) pe_int (nomark _)) (pss_one (ps_ret (pe_ix ix_list (pe_ix ix_list (pv 3) (pe_op op_sub (pv 1) pe_int) (fun _ _ => rfl)) (pe_call (ok_draw T) (hr.mono (by decide)) (by rfl) T.g_draw T.F_draw.kp T.b_draw .nil pass0 (pa_cons (pv 0) (pa_cons (pe_callB call_len_seq (by rfl) T.m_len PySem.boot_len (pa_cons (pe_ix ix_list (pv 3) (pe_op op_sub (pv 1) pe_int) (fun _ _ => rfl)) pa_nil)) pa_nil))) (fun _ _ => rfl)))) pss_nil) (pss_one (ps_ret (pe_join pe_str (pe_lc (own := [("_law_k", 4)]) (by rfl) sc_table.nd (pi_range1 (by rfl) T.m_range (pa_cons (pe_ix ix_list (pe_lst (pa_cons pe_int (pa_cons pe_int (pa_cons pe_int pa_nil)))) (pe_op op_sub (pv 1) pe_int) (fun _ _ => rfl)) pa_nil)) (blkOk_by (own := [("_law_k", 4)]) (N := ["_law_deck_here", "_law_ins", "_law_way", "_law_some", "_law_k"]) (sc := defScope s_table) (by decide +kernel)) (fun _ _ _ _ _ => (pg_name (i := 4) sc_table.nd rfl (by first | exact .inl rfl | exact .inr rfl))) (fun _ _ _ _ _ => pts_nil) (fun _ _ _ _ _ => (pe_callTy call_str_int (by rfl) T.m_str (by decide +kernel) (pa_cons (pe_call (ok_draw T) (hr.mono (by decide)) (by rfl) T.g_draw T.F_draw.kp T.b_draw .nil pass0 (pa_cons (pv 0) (pa_cons pe_int pa_nil))) pa_nil))))))))))), ?_⟩
    refine ⟨.ref d, rfl, d, l, 3, n, rfl, D, by omega, by decide, by decide, fun H1 way D1 fr1 w0 w1 => ?_⟩
    refine ⟨by decide, fun p1 n1 => ⟨by decide, fun p2 n2 => ⟨sl2, fun p3 n3 => ?_⟩⟩⟩
    have hA1 : ([V.str (Str.ofString "10"), V.str (Str.ofString "01"), V.str (Str.ofString "10")] : List V) = tabs1.map vT := by decide +kernel
    have hA2 : ([V.str (Str.ofString "0001"), V.str (Str.ofString "0111"), V.str (Str.ofString "0110"), V.str (Str.ofString "1110"), V.str (Str.ofString "1000"), V.str (Str.ofString "1001"), V.str (Str.ofString "0010"), V.str (Str.ofString "1101")] : List V) = tabs2.map vT := by decide +kernel
    have hA3 : ([V.str (Str.ofString "00000001"), V.str (Str.ofString "01111111"), V.str (Str.ofString "01101001"), V.str (Str.ofString "00010111"), V.str (Str.ofString "00110101"), V.str (Str.ofString "11101000"), V.str (Str.ofString "10000000"), V.str (Str.ofString "01000010")] : List V) = tabs3.map vT := by decide +kernel
    rw [hA1] at n2 n3
    rw [hA2] at n3
    rw [hA1, hA2]
    refine ⟨.ref p3, rfl, .inl ⟨rfl, _, SqL.of upd_same⟩, by decide, fun p4 n4 => ?_⟩
    rw [hA3]
    have e1 : (upd (upd (upd H1 p1 (.lst (tabs1.map vT))) p2 (.lst (tabs2.map vT))) p3 (.lst [.ref p1, .ref p2])) p3 = some (.lst [.ref p1, .ref p2]) := upd_same
    have sA : Same H1 (upd (upd (upd H1 p1 (.lst (tabs1.map vT))) p2 (.lst (tabs2.map vT))) p3 (.lst [.ref p1, .ref p2])) := ((same_upd n1).trans (same_upd n2)).trans (same_upd n3)
    have e2 : (upd (upd (upd H1 p1 (.lst (tabs1.map vT))) p2 (.lst (tabs2.map vT))) p3 (.lst [.ref p1, .ref p2])) p1 = some (.lst (tabs1.map vT)) := same_upd n3 _ _ (same_upd n2 _ _ upd_same)
    have e3 : (upd (upd (upd H1 p1 (.lst (tabs1.map vT))) p2 (.lst (tabs2.map vT))) p3 (.lst [.ref p1, .ref p2])) p2 = some (.lst (tabs2.map vT)) := same_upd n3 _ _ upd_same
    have n12 : p3 ≠ p1 ∧ p3 ≠ p2 := ⟨fun z => (by rw [z, upd_ne (fun y => by rw [← y, upd_same] at n2; cases n2), upd_same] at n3; cases n3), fun z => (by rw [z, upd_same] at n3; cases n3)⟩
    revert n4 e1 sA e2 e3
    generalize upd (upd (upd H1 p1 (.lst (tabs1.map vT))) p2 (.lst (tabs2.map vT))) p3 (.lst [.ref p1, .ref p2]) = H2
    intro n4 e1 sA e2 e3
    have f1 := same_upd (o := HO.lst (tabs3.map vT)) n4 _ _ e1
    have f2 := same_upd (o := HO.lst (tabs3.map vT)) n4 _ _ e2
    have f3 := same_upd (o := HO.lst (tabs3.map vT)) n4 _ _ e3
    have f4 : (upd H2 p4 (HO.lst (tabs3.map vT))) p4 = some (.lst (tabs3.map vT)) := upd_same
    have sB : Same H1 (upd H2 p4 (HO.lst (tabs3.map vT))) := sA.trans (same_upd n4)
    have n34 : p3 ≠ p4 := ne_of_none e1 n4
    refine ⟨p3, _, _, rfl, rfl, f1, (show 2 < sizeLine by decide), ?_⟩
    have g1 : (upd (upd H2 p4 (HO.lst (tabs3.map vT))) p3 (.lst ([.ref p1, .ref p2] ++ [.ref p4]))) p3 = some (.lst [.ref p1, .ref p2, .ref p4]) := upd_same
    have g2 : (upd (upd H2 p4 (HO.lst (tabs3.map vT))) p3 (.lst ([.ref p1, .ref p2] ++ [.ref p4]))) p1 = some (.lst (tabs1.map vT)) := by rw [upd_ne n12.1.symm]; exact f2
    have g3 : (upd (upd H2 p4 (HO.lst (tabs3.map vT))) p3 (.lst ([.ref p1, .ref p2] ++ [.ref p4]))) p2 = some (.lst (tabs2.map vT)) := by rw [upd_ne n12.2.symm]; exact f3
    have g4 : (upd (upd H2 p4 (HO.lst (tabs3.map vT))) p3 (.lst ([.ref p1, .ref p2] ++ [.ref p4]))) p4 = some (.lst (tabs3.map vT)) := by rw [upd_ne n34.symm]; exact f4
    have n3' : H1 p3 = none := by
      cases z : H1 p3 with
      | none => rfl
      | some o => rw [same_upd n2 _ _ (same_upd n1 _ _ z)] at n3; cases n3
    have sC : Same H1 (upd (upd H2 p4 (HO.lst (tabs3.map vT))) p3 (.lst ([.ref p1, .ref p2] ++ [.ref p4]))) := fun b o e => by
      rw [upd_ne (ne_of_none e n3')]
      exact sB _ _ e
    show tSeq _ _ _ _ (upd (upd H2 p4 (HO.lst (tabs3.map vT))) p3 (.lst ([.ref p1, .ref p2] ++ [.ref p4])))
    revert g1 g2 g3 g4 sC
    generalize upd (upd H2 p4 (HO.lst (tabs3.map vT))) p3 (.lst ([.ref p1, .ref p2] ++ [.ref p4])) = H3
    intro g1 g2 g3 g4 sC
    have D3 := D1.same sC
    have fr3 : Fr d l H H3 := fr1.trans (Fr.of sC)
    have sel : ∃ (pk : Addr) (bss : List (List Bool)), atI [V.ref p1, V.ref p2, V.ref p4] ((k : Int) - 1) = some (.ref pk) ∧ H3 pk = some (.lst (bss.map vT)) ∧ TabsIn k bss := by
      have : k = 1 ∨ k = 2 ∨ k = 3 := by omega
      rcases this with rfl | rfl | rfl
      · exact ⟨p1, tabs1, rfl, g2, tabsIn1⟩
      · exact ⟨p2, tabs2, rfl, g3, tabsIn2⟩
      · exact ⟨p4, tabs3, rfl, g4, tabsIn3⟩
    obtain ⟨pk, bss, a1, hk, tin⟩ := sel
    have bpos : 0 < bss.length := List.length_pos_iff.mpr tin.1
    have b8 := tin.2.1
    refine ⟨.int way, rfl, _, _, rfl, rfl, _, rfl, ite2 (fun _ => ?_) (fun _ => ?_)⟩
    · refine ⟨.ref p3, rfl, .int k, rfl, _, _, rfl, rfl, p3, _, (k : Int) - 1, .ref pk, rfl, rfl, SqL.of g1, a1, .ref d, rfl, .ref p3, rfl, .int k, rfl, _, _, rfl, rfl, p3, _, (k : Int) - 1, .ref pk, rfl, rfl, SqL.of g1, a1, pk, _, rfl, .inl (SqL.of hk), ?_⟩
      rw [List.length_map]
      refine ⟨d, l, _, n + 1, rfl, D3, by omega, by omega, by omega, fun H4 v D4 fr4 v0 v1 => ?_⟩
      obtain ⟨bs, hbs, lbs⟩ := tab_pick tin v0 v1
      obtain ⟨ne, cs, z, y, hd, hl, r⟩ := D3
      have hk4 : H4 pk = some (.lst (bss.map vT)) := fr4 _ _ (fun z => ?_) (fun z => ?_) hk
      · exact ⟨pk, _, v, _, rfl, rfl, SqL.of hk4, hbs, q H4 bs (D4.mono (by omega)) (fr3.trans fr4) lbs⟩
      · rw [z, hd] at hk
        cases bss with
        | nil => exact tin.1 rfl
        | cons b r => cases hk
      · rw [z, hl] at hk
        cases bss with
        | nil => exact tin.1 rfl
        | cons b r =>
          cases cs with
          | nil => cases hk
          | cons c r => cases hk
    · refine ⟨⟨_, rfl⟩, sl3, fun p5 n5 => ?_⟩
      obtain ⟨N, hN, a2, k8⟩ : ∃ N : Nat, 2 ^ k = N ∧ atI [V.int 2, V.int 4, V.int 8] ((k : Int) - 1) = some (.int (N : Int)) ∧ N ≤ 8 := by
        have : k = 1 ∨ k = 2 ∨ k = 3 := by omega
        rcases this with rfl | rfl | rfl
        · exact ⟨2, rfl, rfl, by decide⟩
        · exact ⟨4, rfl, rfl, by decide⟩
        · exact ⟨8, rfl, rfl, by decide⟩
      refine ⟨.int k, rfl, _, _, rfl, rfl, p5, _, (k : Int) - 1, _, rfl, rfl, SqL.of upd_same, a2, _, rfl, by omega, by omega, fun D nD => ?_⟩
      have D5 := D3.same (same_upd (o := HO.lst [V.int 2, V.int 4, V.int 8]) n5)
      have fr5 : Fr d l H (upd H3 p5 (.lst [.int 2, .int 4, .int 8])) := fr3.trans (Fr.new n5)
      revert nD D5 fr5
      generalize upd H3 p5 (.lst [.int 2, .int 4, .int 8]) = H5
      intro nD D5 fr5
      have nDd : D ≠ d ∧ D ≠ l := by
        obtain ⟨ne, cs, z, y, hd, hl, r⟩ := D5
        exact ⟨(ne_of_none hd nD).symm, (ne_of_none hl nD).symm⟩
      refine lc_range (lo := 0) (n := ((N : Nat) : Int).toNat) (fun i H' => DeckB H' d l (n + 1 + i) ∧ Fr d l H H' ∧ ∃ bs : List Bool, bs.length = i ∧ H' D = some (.lst (bs.map fun b => V.str (sg b)))) ⟨(D5.same (same_upd nD)).mono (by omega), fr5.trans (Fr.new nD), [], rfl, upd_same⟩ ?_ ?_
      · rintro i H' hi ⟨Di, fri, bs, lbs, hD⟩
        have hi' : i < N := by simpa using hi
        refine ⟨rfl, .ref d, rfl, d, l, 2, _, rfl, Di, by omega, by decide, by decide, fun H6 v D6 fr6 v0 v1 => ?_⟩
        have hD6 := fr6 _ _ nDd.1 nDd.2 hD
        refine ⟨v, rfl, ?_, _, hD6, ?_, ?_, ?_, bs ++ [decide (v = 1)], by rw [List.length_append, lbs]; rfl, ?_⟩
        · have : v = 0 ∨ v = 1 := by omega
          rcases this with rfl | rfl <;> decide
        · rw [List.length_map, lbs]
          exact Nat.lt_of_lt_of_le (show i < 64 by omega) (by decide)
        · obtain ⟨ne, cs, z, y, hd, hl, r⟩ := D6
          refine ⟨ne, cs, z, y, by rw [upd_ne nDd.1.symm]; exact hd, by rw [upd_ne nDd.2.symm]; exact hl, r.1, r.2.1, ?_⟩
          have := r.2.2
          push_cast
          omega
        · intro b o h1 h2 e
          have hb : b ≠ D := ne_of_none (fr5.inv h1 h2 e) nD
          rw [upd_ne hb]
          exact fr6 _ _ h1 h2 (fri _ _ h1 h2 e)
        · rw [upd_same, List.map_append]
          have : v = 0 ∨ v = 1 := by omega
          rcases this with rfl | rfl
          · rw [sg0]; rfl
          · rw [sg1]; rfl
      · rintro H' ⟨Di, fri, bs, lbs, hD⟩
        have lb : bs.length = 2 ^ k := by rw [lbs, hN]; simp
        refine ⟨Str.ofString "", D, bs.map sg, rfl, rfl, .inl (SqL.of (by rw [hD, List.map_map]; rfl)), ?_, ?_⟩
        · rw [List.map_map, List.length_map]
          have : (bs.map ((fun x => x.length) ∘ sg)).sum = bs.length := by
            clear hD lbs lb
            induction bs with
            | nil => rfl
            | cons b r ih =>
              rw [List.map_cons, List.sum_cons, ih, List.length_cons]
              cases b <;> (show 1 + _ = _; omega)
          rw [this]
          show bs.length + bs.length * 0 ≤ _
          omega
        · rw [join_sg]
          exact q H' bs (Di.mono (by
            have : (((N : Nat) : Int).toNat : Int) ≤ 8 := by omega
            omega)) fri lb
theorem Ts.fr {H H' : Hp} {d l : Addr} {n : Int} (D : DeckB H d l n) (f : Fr d l H H') : Ts H H' := fun b xs e => by
  obtain ⟨ne, cs, z, y, hd, hl, r⟩ := D
  exact f b _ (ne_of e hd (by intro z; cases z)) (ne_of e hl (by intro z; cases z)) e
theorem DeckB.upd {H : Hp} {d l p : Addr} {n : Int} {o : HO} (D : DeckB H d l n) (h1 : p ≠ d) (h2 : p ≠ l) : DeckB (upd H p o) d l n := by
  obtain ⟨ne, cs, z, y, hd, hl, r⟩ := D
  exact ⟨ne, cs, z, y, by rw [upd_ne h1.symm]; exact hd, by rw [upd_ne h2.symm]; exact hl, r⟩
theorem DeckB.off {H : Hp} {d l p : Addr} {n : Int} (D : DeckB H d l n) (h : H p = none) : p ≠ d ∧ p ≠ l := by
  obtain ⟨ne, cs, z, y, hd, hl, r⟩ := D
  exact ⟨(ne_of_none hd h).symm, (ne_of_none hl h).symm⟩
theorem Fr.upd {d l p : Addr} {H H' : Hp} {o : HO} (f : Fr d l H H') (h : H p = none) : Fr d l H (upd H' p o) := fun b u h1 h2 e => by
  rw [upd_ne (ne_of_none e h)]
  exact f b u h1 h2 e
theorem NetOk.snoc {n : Nat} {gs : List Gt} {g : Gt} (h : NetOk n gs) (hg : GtOk (n + gs.length) g) : NetOk n (gs ++ [g]) := fun k g' e => by
  by_cases hk : k < gs.length
  · rw [List.getElem?_append_left hk] at e
    exact h k g' e
  · rw [List.getElem?_append_right (by omega)] at e
    cases hz : k - gs.length with
    | zero =>
      rw [hz] at e
      cases Option.some.inj e
      rw [show k = gs.length by omega]
      exact hg
    | succ j => rw [hz] at e; cases e
def sp_shared (K : PySem.W.Frag) : Sp := fun vs H Q _ => ∃ (d l : Addr) (n : Int) (many count : Nat), vs = [.ref d, .int many, .int count] ∧ DeckB H d l n ∧ n < 100000 ∧ 1 ≤ many ∧ many ≤ 6 ∧ count ≤ 40 ∧
  ∀ r H' gs, DeckB H' d l (n + 20 * count) → Fr d l H H' → Tk H' (.ref r) (netD many gs) → gs.length = count → NetOk many gs → Q (.ref r) H'
theorem ok_shared (T : Tx K mg) : FnOk P w K mg base CX0 3 T.f_shared T.fd_shared ["_law_deck_here", "_law_many", "_law_count"] (sp_shared K) := by
  refine T.F_shared.ok sc_shared (fun vs H Q E h => ?_) (fun cdv A outer s H vs Q E hr h => ?_)
  · obtain ⟨d, l, n, many, count, rfl, _⟩ := h
    rfl
  · obtain ⟨d, l, n, many, count, rfl, D, hn, m1, m6, c40, q⟩ := h
    refine ⟨_, (pss_cons (ps_set (i := 3) sc_shared.nd rfl (by first | exact .inl rfl | exact .inr rfl) (pe_lst pa_nil)) (pss_cons (ps_for PassesOwn.never rfl (pi_range1 (by rfl) T.m_range (pa_cons (pv 2) pa_nil)) (pg_name (i := 4) sc_shared.nd rfl (by first | exact .inl rfl | exact .inr rfl)) (pss_cons (ps_set (i := 5) sc_shared.nd rfl (by first | exact .inl rfl | exact .inr rfl) (pe_lst pa_nil)) (pss_cons (ps_for PassesOwn.never rfl (pi_range1 (by rfl) T.m_range (pa_cons (pe_ix ix_list (pe_lst (pa_cons pe_int (pa_cons pe_int (pa_cons pe_int (pa_cons pe_int (pa_cons pe_int (pa_cons pe_int pa_nil))))))) (pe_call (ok_draw T) (hr.mono (by decide)) (by rfl) T.g_draw T.F_draw.kp T.b_draw .nil pass0 (pa_cons (pv 0) (pa_cons pe_int pa_nil))) (fun _ _ => rfl)) pa_nil)) (pg_name (i := 6) sc_shared.nd rfl (by first | exact .inl rfl | exact .inr rfl)) (pss_cons (ps_set (i := 7) sc_shared.nd rfl (by first | exact .inl rfl | exact .inr rfl) (pe_call (ok_draw T) (hr.mono (by decide)) (by rfl) T.g_draw T.F_draw.kp T.b_draw .nil pass0 (pa_cons (pv 0) (pa_cons pe_int pa_nil)))) (pss_one (ps_expr (pe_bm PySem.F.plainAttrs_list PySem.F.slot_list_append PySem.F.type_list_append mt_append (pv 5) (pa_cons (pe_ix ix_list (pe_lst (pa_cons (pe_call (ok_draw T) (hr.mono (by decide)) (by rfl) T.g_draw T.F_draw.kp T.b_draw .nil pass0 (pa_cons (pv 0) (pa_cons (pe_op op_add (pv 1) (pv 4)) pa_nil))) (pa_cons (pe_callB (call_max2 rfl) (by rfl) T.m_max (by decide +kernel) (pa_cons pe_int (pa_cons (pe_op op_sub (pe_op op_sub (pe_op op_add (pv 1) (pv 4)) pe_int) (pe_call (ok_draw T) (hr.mono (by decide)) (by rfl) T.g_draw T.F_draw.kp T.b_draw .nil pass0 (pa_cons (pv 0) (pa_cons pe_int pa_nil)))) pa_nil))) pa_nil))) (pe_callTy call_int1 (by rfl) T.m_int (by decide +kernel) (pa_cons (pe_cmpR op_gt (pv 7) pe_int (nomark _)) pa_nil)) (fun _ _ => rfl)) pa_nil)))))) (pss_one (ps_expr (pe_bm PySem.F.plainAttrs_list PySem.F.slot_list_append PySem.F.type_list_append mt_append (pv 3) (pa_cons (pe_tup (pa_cons (pe_call (ok_table T) (hr.mono (by decide)) (by rfl) T.g_table T.F_table.kp T.b_table .nil pass0 (pa_cons (pv 0) (pa_cons (pe_callB call_len_seq (by rfl) T.m_len PySem.boot_len (pa_cons (pv 5) pa_nil)) pa_nil))) (pa_cons (pe_callTy call_tuple_of (by rfl) T.m_tuple (by decide +kernel) (pa_cons (pv 5) pa_nil)) pa_nil))) pa_nil))))))) (pss_one (ps_ret (pe_tup (pa_cons (pv 1) (pa_cons (pe_callTy call_tuple_of (by rfl) T.m_tuple (by decide +kernel) (pa_cons (pv 3) pa_nil)) pa_nil))))))), ?_⟩
    refine ⟨Nat.zero_le _, fun G nG => ?_⟩
    have oG := D.off nG
    refine ⟨.int count, rfl, count, rfl, by omega, by omega, ?_⟩
    refine for_range (lo := 0) (n := (count : Int).toNat) (fun i σ H' => ∃ y4 y5 y6 y7, σ = [some (.ref d), some (.int many), some (.int count), some (.ref G), y4, y5, y6, y7] ∧ DeckB H' d l (n + 20 * i) ∧ Fr d l H H' ∧ ∃ acc gs, H' G = some (.lst acc) ∧ TkAll H' acc (gs.map gD) ∧ gs.length = i ∧ NetOk many gs)
      ⟨_, _, _, _, rfl, (D.same (same_upd nG)).mono (by omega), Fr.new nG, [], [], upd_same, .nil, rfl, fun k g e => by simp at e⟩ ?_ ?_
    · rintro i σ H1 hi ⟨y4, y5, y6, y7, rfl, D1, fr1, acc, gs, hG, tg, lg, ok⟩
      have hi' : i < count := by simpa using hi
      refine ⟨Nat.zero_le _, fun I nI => ?_⟩
      have oI := D1.off nI
      have D2 := D1.same (same_upd (o := HO.lst []) nI)
      have hG2 := same_upd (o := HO.lst []) nI _ _ hG
      have tg2 := tg.ts (Ts.new (o := HO.lst []) nI) (noL_gates gs)
      have fr2 : Fr d l H (upd H1 I (.lst [])) := fr1.trans (Fr.new nI)
      have hI2 : (upd H1 I (.lst [])) I = some (.lst []) := upd_same
      have nGI : G ≠ I := ne_of_none hG nI
      have nI0 : H I = none := by
        cases z : H I with
        | none => rfl
        | some o => rw [fr1 _ _ oI.1 oI.2 z] at nI; cases nI
      show tSeq _ _ _ _ (upd H1 I (.lst []))
      revert D2 hG2 tg2 fr2 hI2
      generalize upd H1 I (.lst []) = H2
      intro D2 hG2 tg2 fr2 hI2
      refine ⟨by decide, fun p6 n6 => ?_⟩
      have o6 := D2.off n6
      have D2' := D2.same (same_upd (o := HO.lst [V.int 2, V.int 2, V.int 1, V.int 3, V.int 2, V.int 3]) n6)
      refine ⟨.ref d, rfl, d, l, 6, _, rfl, D2', by omega, by decide, by decide, fun H3 v D3 fr3 v0 v1 => ?_⟩
      have h63 := fr3 _ _ o6.1 o6.2 upd_same
      have s26 := same_upd (o := HO.lst [V.int 2, V.int 2, V.int 1, V.int 3, V.int 2, V.int 3]) n6
      have hG3 := fr3 _ _ oG.1 oG.2 (s26 _ _ hG2)
      have hI3 := fr3 _ _ oI.1 oI.2 (s26 _ _ hI2)
      have tg3 := tg2.ts ((Ts.same s26).trans (Ts.fr D2' fr3)) (noL_gates gs)
      have frA : Fr d l H H3 := (fr2.trans (Fr.of s26)).trans fr3
      obtain ⟨c, hc, c1, c3⟩ : ∃ c : Nat, atI [V.int 2, V.int 2, V.int 1, V.int 3, V.int 2, V.int 3] v = some (.int (c : Int)) ∧ 1 ≤ c ∧ c ≤ 3 := by
        have : v = 0 ∨ v = 1 ∨ v = 2 ∨ v = 3 ∨ v = 4 ∨ v = 5 := by omega
        rcases this with rfl | rfl | rfl | rfl | rfl | rfl
        · exact ⟨2, rfl, by decide, by decide⟩
        · exact ⟨2, rfl, by decide, by decide⟩
        · exact ⟨1, rfl, by decide, by decide⟩
        · exact ⟨3, rfl, by decide, by decide⟩
        · exact ⟨2, rfl, by decide, by decide⟩
        · exact ⟨3, rfl, by decide, by decide⟩
      refine ⟨p6, _, v, _, rfl, rfl, SqL.of h63, hc, c, rfl, by omega, by omega, ?_⟩
      refine for_range (lo := 0) (n := (c : Int).toNat) (fun j σ H' => ∃ y6 y7, σ = [some (.ref d), some (.int many), some (.int count), some (.ref G), some (.int (0 + (i : Int))), some (.ref I), y6, y7] ∧ DeckB H' d l (n + 20 * i + 1 + 3 * j) ∧ Fr d l H H' ∧ H' G = some (.lst acc) ∧ TkAll H' acc (gs.map gD) ∧
          ∃ ws : List Nat, H' I = some (.lst ((ws.map Int.ofNat).map V.int)) ∧ ws.length = j ∧ ∀ w ∈ ws, w < many + i)
        ⟨_, _, rfl, D3.mono (by omega), frA, hG3, tg3, [], hI3, rfl, fun w hw => by cases hw⟩ ?_ ?_
      · rintro j σ H4 hj ⟨y6, y7, rfl, D4, fr4, hG4, tg4, ws, hI4, lw, okw⟩
        have hj' : j < c := by simpa using hj
        refine ⟨.ref d, rfl, d, l, 4, _, rfl, D4, by omega, by decide, by decide, fun H5 way D5 fr5 w0 w1 => ?_⟩
        have hI5 := fr5 _ _ oI.1 oI.2 hI4
        refine ⟨.ref I, rfl, .inl ⟨rfl, _, SqL.of hI5⟩, .ref d, rfl, .int many, rfl, .int (0 + (i : Int)), rfl, _, _, rfl, rfl, d, l, _, _, rfl, D5, by omega, by omega, by omega, fun H6 a D6 fr6 a0 a1 => ?_⟩
        refine ⟨.int many, rfl, .int (0 + (i : Int)), rfl, _, _, rfl, rfl, _, _, rfl, rfl, .ref d, rfl, d, l, 3, _, rfl, D6, by omega, by decide, by decide, fun H7 b D7 fr7 b0 b1 => ?_⟩
        refine ⟨_, _, rfl, rfl, 0, _, rfl, sl2, fun p7 n7 => ?_⟩
        have sel : ∃ w : Nat, atI [V.int a, V.int (if (many : Int) + (0 + (i : Int)) - 1 - b > 0 then (many : Int) + (0 + (i : Int)) - 1 - b else 0)] (if decide (1 < way) = true then 1 else 0) = some (.int (Int.ofNat w)) ∧ w < many + i := by
          by_cases hw : 1 < way
          · rw [decide_eq_true hw]
            by_cases hm : (many : Int) + (0 + (i : Int)) - 1 - b > 0
            · refine ⟨((many : Int) + (0 + (i : Int)) - 1 - b).toNat, ?_, by omega⟩
              rw [if_pos hm]
              show some (V.int ((many : Int) + (0 + (i : Int)) - 1 - b)) = _
              rw [show Int.ofNat ((many : Int) + (0 + (i : Int)) - 1 - b).toNat = (many : Int) + (0 + (i : Int)) - 1 - b from Int.toNat_of_nonneg (by omega)]
            · refine ⟨0, ?_, by omega⟩
              rw [if_neg hm]
              rfl
          · rw [decide_eq_false hw]
            refine ⟨a.toNat, ?_, by omega⟩
            show some (V.int a) = _
            rw [show Int.ofNat a.toNat = a from Int.toNat_of_nonneg a0]
        obtain ⟨x, hx, x1⟩ := sel
        have o7 := D7.off n7
        have s7 := same_upd (o := HO.lst [V.int a, V.int (if (many : Int) + (0 + (i : Int)) - 1 - b > 0 then (many : Int) + (0 + (i : Int)) - 1 - b else 0)]) n7
        have hI7 := s7 _ _ (fr7 _ _ oI.1 oI.2 (fr6 _ _ oI.1 oI.2 hI5))
        have hG7 := s7 _ _ (fr7 _ _ oG.1 oG.2 (fr6 _ _ oG.1 oG.2 (fr5 _ _ oG.1 oG.2 hG4)))
        refine ⟨.int way, rfl, _, _, rfl, rfl, .inr ⟨_, rfl, p7, _, _, _, rfl, rfl, SqL.of upd_same, hx, ?_⟩⟩
        refine ⟨I, _, _, rfl, rfl, hI7, ?_, ?_⟩
        · rw [List.length_map, List.length_map, lw]
          exact Nat.lt_of_lt_of_le (show j < 64 by omega) (by decide)
        · refine ⟨_, _, rfl, ((D7.same s7).upd oI.1 oI.2).mono (by push_cast; omega), ?_, ?_, ?_, ws ++ [x], ?_, by rw [List.length_append, lw]; rfl, ?_⟩
          · exact Fr.upd ((((fr4.trans fr5).trans fr6).trans fr7).trans (Fr.of s7)) nI0
          · rw [upd_ne nGI]; exact hG7
          · exact tg4.ts ((((Ts.fr D4 fr5).trans (Ts.fr D5 fr6)).trans (Ts.fr D6 fr7)).trans ((Ts.same s7).trans (Ts.set hI7))) (noL_gates gs)
          · rw [upd_same, List.map_append, List.map_append]
            rfl
          · intro w hw
            rcases List.mem_append.mp hw with z | z
            · exact okw w z
            · rw [List.mem_singleton.mp z]
              exact x1
      · rintro σ H4 ⟨y6, y7, rfl, D4, fr4, hG4, tg4, ws, hI4, lw, okw⟩
        have lw' : ws.length = c := by rw [lw]; simp
        refine ⟨.ref G, rfl, .inl ⟨rfl, _, SqL.of hG4⟩, .ref d, rfl, .ref I, rfl, I, _, rfl, .inl (SqL.of hI4), ?_⟩
        rw [List.length_map, List.length_map, lw']
        refine ⟨d, l, _, c, rfl, D4, by have : (((c : Int).toNat : Nat) : Int) = c := by simp
                                        omega, c1, c3, fun H5 bs D5 fr5 lb => ?_⟩
        have hI5 := fr5 _ _ oI.1 oI.2 hI4
        have hG5 := fr5 _ _ oG.1 oG.2 hG4
        have tg5 := tg4.ts (Ts.fr D4 fr5) (noL_gates gs)
        refine ⟨.ref I, rfl, I, _, rfl, .inl ⟨SqL.of hI5, fun ti nti => ⟨sl2, fun tt ntt => ?_⟩⟩⟩
        have s5 := (same_upd (o := HO.tup ((ws.map Int.ofNat).map V.int)) nti).trans (same_upd (o := HO.tup [V.str (tabOf bs), .ref ti]) ntt)
        have hG6 := s5 _ _ hG5
        refine ⟨G, _, _, rfl, rfl, hG6, ?_, ?_⟩
        · have := tg5.length
          rw [List.length_map, lg] at this
          exact Nat.lt_of_lt_of_le (show acc.length < 64 by omega) (by decide)
        · have hcc : (((c : Int).toNat : Nat) : Int) = c := by simp
          refine ⟨_, _, _, _, rfl, ((D5.same s5).upd oG.1 oG.2).mono (by push_cast; omega), Fr.upd ((fr4.trans fr5).trans (Fr.of s5)) nG, _, gs ++ [(bs, ws)], upd_same, ?_, by rw [List.length_append, lg]; rfl, ok.snoc ⟨?_, ?_, ?_, ?_⟩⟩
          · rw [List.map_append]
            have e1 : (upd (upd H5 ti (.tup ((ws.map Int.ofNat).map V.int))) tt (.tup [.str (tabOf bs), .ref ti])) ti = some (.tup ((ws.map Int.ofNat).map V.int)) := same_upd ntt _ _ upd_same
            have tgate : Tk (upd (upd H5 ti (.tup ((ws.map Int.ofNat).map V.int))) tt (.tup [.str (tabOf bs), .ref ti])) (.ref tt) (gD (bs, ws)) := .tup upd_same (.cons (.str _) (.cons (.tup e1 (TkAll.ints _)) .nil))
            refine (tg5.ts ((Ts.same s5).trans (Ts.set hG6)) (noL_gates gs)).append (.cons (tgate.ts (Ts.set hG6) (noL_gate _)) .nil)
          · show bs.length = 2 ^ ws.length
            rw [lb, lw']
          · show 1 ≤ ws.length
            omega
          · show ws.length ≤ 3
            omega
          · rw [lg]
            exact okw
    · rintro σ H1 ⟨y4, y5, y6, y7, rfl, D1, fr1, acc, gs, hG, tg, lg, ok⟩
      have lg' : gs.length = count := by rw [lg]; simp
      refine ⟨.int many, rfl, .ref G, rfl, G, _, rfl, .inl ⟨SqL.of hG, fun tq ntq => ⟨sl2, fun r nr => ?_⟩⟩⟩
      have s2 := (same_upd (o := HO.tup acc) ntq).trans (same_upd (o := HO.tup [V.int many, .ref tq]) nr)
      refine q r _ gs ((D1.same s2).mono (by
        have : (((count : Int).toNat : Nat) : Int) = count := by simp
        omega)) (fr1.trans (Fr.of s2)) ?_ lg' ok
      exact .tup upd_same (.cons (.int _) (.cons (.tup (same_upd nr _ _ upd_same) (tg.same s2)) .nil))

end
end Gk

set_option Elab.async false
set_option linter.all false
set_option maxRecDepth 100000
set_option maxHeartbeats 1000000
namespace Gk
open PySem PySem.Spec PyProof.Rows L2
section
variable {P : Program} {w : World} {K : PySem.W.Frag} {mg : Str → Option Value} {base : Heap}
theorem pick6 {v : Int} (v0 : 0 ≤ v) (v1 : v < 6) {a b c d e f : Nat} (ha : 1 ≤ a ∧ a ≤ 3) (hb : 1 ≤ b ∧ b ≤ 3) (hc : 1 ≤ c ∧ c ≤ 3) (hd : 1 ≤ d ∧ d ≤ 3) (he : 1 ≤ e ∧ e ≤ 3) (hf : 1 ≤ f ∧ f ≤ 3) :
    ∃ n : Nat, atI [V.int (a : Nat), V.int (b : Nat), V.int (c : Nat), V.int (d : Nat), V.int (e : Nat), V.int (f : Nat)] v = some (.int (n : Int)) ∧ 1 ≤ n ∧ n ≤ 3 := by
  have : v = 0 ∨ v = 1 ∨ v = 2 ∨ v = 3 ∨ v = 4 ∨ v = 5 := by omega
  rcases this with rfl | rfl | rfl | rfl | rfl | rfl
  · exact ⟨a, rfl, ha⟩
  · exact ⟨b, rfl, hb⟩
  · exact ⟨c, rfl, hc⟩
  · exact ⟨d, rfl, hd⟩
  · exact ⟨e, rfl, he⟩
  · exact ⟨f, rfl, hf⟩
def nV (ws : List Nat) : List V := (ws.map Int.ofNat).map V.int
theorem nV_len (ws : List Nat) : (nV ws).length = ws.length := by unfold nV; rw [List.length_map, List.length_map]
theorem nV_get {ws : List Nat} {j k : Nat} (h : ws[j]? = some k) : (nV ws)[j]? = some (.int (Int.ofNat k)) := by
  unfold nV
  rw [List.getElem?_map, List.getElem?_map, h]
  rfl
theorem nV_app (a b : List Nat) : nV (a ++ b) = nV a ++ nV b := by unfold nV; rw [List.map_append, List.map_append]
theorem nV_erase : ∀ (ws : List Nat) (t : Nat), (nV ws).eraseIdx t = nV (ws.eraseIdx t)
  | [], _ => rfl
  | _ :: _, 0 => rfl
  | w :: r, t + 1 => by
    show V.int (Int.ofNat w) :: (nV r).eraseIdx t = V.int (Int.ofNat w) :: nV (r.eraseIdx t)
    rw [nV_erase r t]
/-- a new gate behind the others -/
theorem gate_new {H : Hp} {bs : List Bool} {ws : List Nat} {ti tt : Addr} (nti : H ti = none) (ntt : (upd H ti (.tup (nV ws))) tt = none) : Tk (upd (upd H ti (.tup (nV ws))) tt (.tup [.str (tabOf bs), .ref ti])) (.ref tt) (gD (bs, ws)) :=
  .tup upd_same (.cons (.str _) (.cons (.tup (same_upd ntt _ _ upd_same) (TkAll.ints _)) .nil))
theorem none_of_fr {d l p : Addr} {H H' : Hp} {n : Int} (f : Fr d l H H') (D : DeckB H' d l n) (h : H' p = none) : H p = none := by
  have o := D.off h
  cases z : H p with
  | none => rfl
  | some x => rw [f _ _ o.1 o.2 z] at h; cases h
def sp_formula (K : PySem.W.Frag) : Sp := sp_shared K
theorem ok_formula (T : Tx K mg) : FnOk P w K mg base CX0 3 T.f_formula T.fd_formula ["_law_deck_here", "_law_many", "_law_count"] (sp_shared K) := by
  refine T.F_formula.ok sc_formula (fun vs H Q E h => ?_) (fun cdv A outer s H vs Q E hr h => ?_)
  · obtain ⟨d, l, n, many, count, rfl, _⟩ := h
    rfl
  · obtain ⟨d, l, n, many, count, rfl, D, hn, m1, m6, c40, q⟩ := h
    refine ⟨_, (pss_cons (ps_set (i := 3) sc_formula.nd rfl (by first | exact .inl rfl | exact .inr rfl) (pe_lst pa_nil)) (pss_cons (ps_set (i := 4) sc_formula.nd rfl (by first | exact .inl rfl | exact .inr rfl) (pe_lst pa_nil)) (pss_cons (ps_for PassesOwn.never rfl (pi_range1 (by rfl) T.m_range (pa_cons (pv 2) pa_nil)) (pg_name (i := 5) sc_formula.nd rfl (by first | exact .inl rfl | exact .inr rfl)) (pss_cons (ps_set (i := 6) sc_formula.nd rfl (by first | exact .inl rfl | exact .inr rfl) (pe_lst pa_nil)) (pss_cons (ps_for PassesOwn.never rfl (pi_range1 (by rfl) T.m_range (pa_cons (pe_ix ix_list (pe_lst (pa_cons pe_int (pa_cons pe_int (pa_cons pe_int (pa_cons pe_int (pa_cons pe_int (pa_cons pe_int pa_nil))))))) (pe_call (ok_draw T) (hr.mono (by decide)) (by rfl) T.g_draw T.F_draw.kp T.b_draw .nil pass0 (pa_cons (pv 0) (pa_cons pe_int pa_nil))) (fun _ _ => rfl)) pa_nil)) (pg_name (i := 7) sc_formula.nd rfl (by first | exact .inl rfl | exact .inr rfl)) (pss_cons (ps_set (i := 8) sc_formula.nd rfl (by first | exact .inl rfl | exact .inr rfl) (pe_call (ok_draw T) (hr.mono (by decide)) (by rfl) T.g_draw T.F_draw.kp T.b_draw .nil pass0 (pa_cons (pv 0) (pa_cons pe_int pa_nil)))) (pss_one (ps_if (pt_cut (pw_and (pt_cmpR op_gt (pv 8) pe_int (nomark _)) (pw_and1 (pt_cmpR (op_neD hr.units) (pv 4) (pe_lst pa_nil) (nomark _)))).pt) (pss_one (ps_expr (pe_bm PySem.F.plainAttrs_list PySem.F.slot_list_append PySem.F.type_list_append mt_append (pv 6) (pa_cons (pe_bm PySem.F.plainAttrs_list PySem.F.slot_list_pop PySem.F.type_list_pop mt_popAt (pv 4) (pa_cons (pe_call (ok_draw T) (hr.mono (by decide)) (by rfl) T.g_draw T.F_draw.kp T.b_draw .nil pass0 (pa_cons (pv 0) (pa_cons (pe_callB call_len_seq (by rfl) T.m_len PySem.boot_len (pa_cons (pv 4) pa_nil)) pa_nil))) pa_nil)) pa_nil)))) (pss_one (ps_expr (pe_bm PySem.F.plainAttrs_list PySem.F.slot_list_append PySem.F.type_list_append mt_append (pv 6) (pa_cons (pe_call (ok_draw T) (hr.mono (by decide)) (by rfl) T.g_draw T.F_draw.kp T.b_draw .nil pass0 (pa_cons (pv 0) (pa_cons (pv 1) pa_nil))) pa_nil)))))))) (pss_cons (ps_expr (pe_bm PySem.F.plainAttrs_list PySem.F.slot_list_append PySem.F.type_list_append mt_append (pv 3) (pa_cons (pe_tup (pa_cons (pe_call (ok_table T) (hr.mono (by decide)) (by rfl) T.g_table T.F_table.kp T.b_table .nil pass0 (pa_cons (pv 0) (pa_cons (pe_callB call_len_seq (by rfl) T.m_len PySem.boot_len (pa_cons (pv 6) pa_nil)) pa_nil))) (pa_cons (pe_callTy call_tuple_of (by rfl) T.m_tuple (by decide +kernel) (pa_cons (pv 6) pa_nil)) pa_nil))) pa_nil))) (pss_one (ps_expr (pe_bm PySem.F.plainAttrs_list PySem.F.slot_list_append PySem.F.type_list_append mt_append (pv 4) (pa_cons (pe_op op_add (pv 1) (pv 5)) pa_nil)))))))) (pss_one (ps_ret (pe_tup (pa_cons (pv 1) (pa_cons (pe_callTy call_tuple_of (by rfl) T.m_tuple (by decide +kernel) (pa_cons (pv 3) pa_nil)) pa_nil)))))))), ?_⟩
    have hcc : (((count : Int).toNat : Nat) : Int) = count := by simp
    refine ⟨Nat.zero_le _, fun G nG => ?_⟩
    have oG := D.off nG
    refine ⟨Nat.zero_le _, fun F nF => ?_⟩
    have DF := D.same (same_upd (o := HO.lst []) nG)
    have oF := DF.off nF
    have nF0 : H F = none := none_of_fr (Fr.new nG) DF nF
    have nGF : G ≠ F := fun z => by rw [← z, upd_same] at nF; cases nF
    refine ⟨.int count, rfl, count, rfl, by omega, by omega, ?_⟩
    refine for_range (lo := 0) (n := (count : Int).toNat) (fun i σ H' => ∃ y5 y6 y7 y8, σ = [some (.ref d), some (.int many), some (.int count), some (.ref G), some (.ref F), y5, y6, y7, y8] ∧ DeckB H' d l (n + 20 * i) ∧ Fr d l H H' ∧ (∃ acc gs, H' G = some (.lst acc) ∧ TkAll H' acc (gs.map gD) ∧ gs.length = i ∧ NetOk many gs) ∧ ∃ fr : List Nat, H' F = some (.lst (nV fr)) ∧ fr.length ≤ i ∧ ∀ x ∈ fr, x < many + i)
      ⟨_, _, _, _, rfl, (DF.same (same_upd nF)).mono (by omega), (Fr.new nG).trans (Fr.new nF), ⟨[], [], same_upd nF _ _ upd_same, .nil, rfl, fun k g e => by simp at e⟩, [], upd_same, Nat.zero_le _, fun x hx => by cases hx⟩ ?_ ?_
    · rintro i σ H1 hi ⟨y5, y6, y7, y8, rfl, D1, fr1, ⟨acc, gs, hG, tg, lg, ok⟩, fr, hF, lf, okf⟩
      have hi' : i < count := by simpa using hi
      refine ⟨Nat.zero_le _, fun I nI => ?_⟩
      have oI := D1.off nI
      have nI0 : H I = none := none_of_fr fr1 D1 nI
      have nGI : G ≠ I := ne_of_none hG nI
      have nFI : F ≠ I := ne_of_none hF nI
      have sI := same_upd (o := HO.lst []) nI
      have D2 := D1.same sI
      have hG2 := sI _ _ hG
      have hF2 := sI _ _ hF
      have tg2 := tg.ts (Ts.same sI) (noL_gates gs)
      have fr2 : Fr d l H (upd H1 I (.lst [])) := fr1.trans (Fr.of sI)
      have hI2 : (upd H1 I (.lst [])) I = some (.lst []) := upd_same
      show tSeq _ _ _ _ (upd H1 I (.lst []))
      revert D2 hG2 hF2 tg2 fr2 hI2
      generalize upd H1 I (.lst []) = H2
      intro D2 hG2 hF2 tg2 fr2 hI2
      refine ⟨by decide, fun p6 n6 => ?_⟩
      have o6 := D2.off n6
      have s26 := same_upd (o := HO.lst [V.int 2, V.int 2, V.int 1, V.int 3, V.int 2, V.int 3]) n6
      have D2' := D2.same s26
      refine ⟨.ref d, rfl, d, l, 6, _, rfl, D2', by omega, by decide, by decide, fun H3 v D3 fr3 v0 v1 => ?_⟩
      have h63 := fr3 _ _ o6.1 o6.2 upd_same
      have hG3 := fr3 _ _ oG.1 oG.2 (s26 _ _ hG2)
      have hF3 := fr3 _ _ oF.1 oF.2 (s26 _ _ hF2)
      have hI3 := fr3 _ _ oI.1 oI.2 (s26 _ _ hI2)
      have tg3 := tg2.ts ((Ts.same s26).trans (Ts.fr D2' fr3)) (noL_gates gs)
      have frA : Fr d l H H3 := (fr2.trans (Fr.of s26)).trans fr3
      obtain ⟨c, hc, c1, c3⟩ := pick6 (a := 2) (b := 2) (c := 1) (d := 3) (e := 2) (f := 3) v0 v1 (by omega) (by omega) (by omega) (by omega) (by omega) (by omega)
      refine ⟨p6, _, v, _, rfl, rfl, SqL.of h63, hc, c, rfl, by omega, by omega, ?_⟩
      have hc2 : (((c : Int).toNat : Nat) : Int) = c := by simp
      refine for_range (lo := 0) (n := (c : Int).toNat) (fun j σ H' => ∃ y7 y8, σ = [some (.ref d), some (.int many), some (.int count), some (.ref G), some (.ref F), some (.int (0 + (i : Int))), some (.ref I), y7, y8] ∧ DeckB H' d l (n + 20 * i + 1 + 3 * j) ∧ Fr d l H H' ∧ H' G = some (.lst acc) ∧ TkAll H' acc (gs.map gD) ∧ (∃ fr : List Nat, H' F = some (.lst (nV fr)) ∧ fr.length ≤ i ∧ ∀ x ∈ fr, x < many + i) ∧
          ∃ ws : List Nat, H' I = some (.lst (nV ws)) ∧ ws.length = j ∧ ∀ w ∈ ws, w < many + i)
        ⟨_, _, rfl, D3.mono (by omega), frA, hG3, tg3, ⟨fr, hF3, lf, okf⟩, [], hI3, rfl, fun w hw => by cases hw⟩ ?_ ?_
      · rintro j σ H4 hj ⟨y7, y8, rfl, D4, fr4, hG4, tg4, ⟨f4, hF4, lf4, okf4⟩, ws, hI4, lw, okw⟩
        have hj' : j < c := by simpa using hj
        refine ⟨.ref d, rfl, d, l, 3, _, rfl, D4, by omega, by decide, by decide, fun H5 way D5 fr5 w0 w1 => ?_⟩
        have hI5 := fr5 _ _ oI.1 oI.2 hI4
        have hF5 := fr5 _ _ oF.1 oF.2 hF4
        have hG5 := fr5 _ _ oG.1 oG.2 hG4
        have tg5 := tg4.ts (Ts.fr D4 fr5) (noL_gates gs)
        have frB := fr4.trans fr5
        -- the test
        refine ⟨fun b H' => Same H5 H' ∧ (b = true → f4 ≠ []), ?_, ?_⟩
        · refine ⟨.int way, rfl, _, _, rfl, rfl, _, rfl, ite2 (fun _ => ?_) (fun _ => ⟨Same.refl _, fun z => by cases z⟩)⟩
          refine ⟨.ref F, rfl, Nat.zero_le _, fun p np => ?_⟩
          have sp := same_upd (o := HO.lst []) np
          refine ⟨.list ((f4.map Int.ofNat).map .int), .list [], .lst (SqL.of (sp _ _ hF5)) (dpInts _), .lst (SqL.of upd_same) .nil, shInts _, rfl, _, rfl, sp, fun z e => ?_⟩
          rw [e] at z
          cases z
        · rintro b H6 ⟨s56, hb⟩
          have D6 := D5.same s56
          have hI6 := s56 _ _ hI5
          have hF6 := s56 _ _ hF5
          have hG6 := s56 _ _ hG5
          have tg6 := tg5.ts (Ts.same s56) (noL_gates gs)
          have frC := frB.trans (Fr.of s56)
          -- an in more
          have fin : ∀ {H' : Hp} {x : Nat}, DeckB H' d l (n + 20 * i + 1 + 3 * j + 2) → Fr d l H H' → H' G = some (.lst acc) → TkAll H' acc (gs.map gD) → (∃ fr : List Nat, H' F = some (.lst (nV fr)) ∧ fr.length ≤ i ∧ ∀ x ∈ fr, x < many + i) → H' I = some (.lst (nV ws)) → x < many + i →
              (nV ws).length < sizeLine ∧ DeckB (upd H' I (.lst (nV ws ++ [.int (Int.ofNat x)]))) d l (n + 20 * i + 1 + 3 * ((j + 1 : Nat) : Int)) ∧ Fr d l H (upd H' I (.lst (nV ws ++ [.int (Int.ofNat x)]))) ∧ (upd H' I (.lst (nV ws ++ [.int (Int.ofNat x)]))) G = some (.lst acc) ∧ TkAll (upd H' I (.lst (nV ws ++ [.int (Int.ofNat x)]))) acc (gs.map gD) ∧
              (∃ fr : List Nat, (upd H' I (.lst (nV ws ++ [.int (Int.ofNat x)]))) F = some (.lst (nV fr)) ∧ fr.length ≤ i ∧ ∀ x ∈ fr, x < many + i) ∧ ∃ ws' : List Nat, (upd H' I (.lst (nV ws ++ [.int (Int.ofNat x)]))) I = some (.lst (nV ws')) ∧ ws'.length = j + 1 ∧ ∀ w ∈ ws', w < many + i := by
            intro H' x D' fr' hG' tg' hF' hI' hx
            obtain ⟨f', hF', lf', okf'⟩ := hF'
            refine ⟨?_, (D'.upd oI.1 oI.2).mono (by push_cast; omega), Fr.upd fr' nI0, by rw [upd_ne nGI]; exact hG', tg'.ts (Ts.set hI') (noL_gates gs), ⟨f', by rw [upd_ne nFI]; exact hF', lf', okf'⟩, ws ++ [x], ?_, by rw [List.length_append, lw]; rfl, fun w hw => ?_⟩
            · rw [nV_len, lw]
              exact Nat.lt_of_lt_of_le (show j < 64 by omega) (by decide)
            · rw [upd_same, nV_app]
              rfl
            · rcases List.mem_append.mp hw with z | z
              · exact okw w z
              · rw [List.mem_singleton.mp z]; exact hx
          cases b with
          | true =>
            have fne := hb rfl
            have fpos : 0 < f4.length := List.length_pos_iff.mpr fne
            refine ⟨.ref I, rfl, .inl ⟨rfl, _, SqL.of hI6⟩, .ref F, rfl, .inl ⟨rfl, _, SqL.of hF6⟩, .ref d, rfl, .ref F, rfl, F, _, rfl, .inl (SqL.of hF6), ?_⟩
            rw [nV_len]
            refine ⟨d, l, _, _, rfl, D6, by omega, by omega, by omega, fun H7 at_ D7 fr7 a0 a1 => ?_⟩
            obtain ⟨t, rfl⟩ := Int.eq_ofNat_of_zero_le a0
            have ht : t < f4.length := by omega
            have hF7 := fr7 _ _ oF.1 oF.2 hF6
            have hI7 := fr7 _ _ oI.1 oI.2 hI6
            have hG7 := fr7 _ _ oG.1 oG.2 hG6
            have tg7 := tg6.ts (Ts.fr D6 fr7) (noL_gates gs)
            refine ⟨F, _, (t : Int), t, .int (Int.ofNat f4[t]), rfl, rfl, hF7, by omega, by omega, ?_, nV_get (List.getElem?_eq_getElem ht), ?_⟩
            · rw [nV_len]
              rw [seqIndex_of (by omega) (by omega), Int.toNat_natCast]
            have hI8 : (upd H7 F (.lst ((nV f4).eraseIdx t))) I = some (.lst (nV ws)) := by rw [upd_ne nFI.symm]; exact hI7
            obtain ⟨z1, z2, z3, z4, z5, z6, z7⟩ := fin (H' := upd H7 F (.lst ((nV f4).eraseIdx t))) (x := f4[t]) ((D7.upd oF.1 oF.2).mono (by omega)) (Fr.upd (frC.trans fr7) nF0) (by rw [upd_ne nGF]; exact hG7) (tg7.ts (Ts.set hF7) (noL_gates gs))
              ⟨f4.eraseIdx t, by rw [upd_same, nV_erase], by rw [List.length_eraseIdx]; split <;> omega, fun x hx => okf4 x (List.mem_of_mem_eraseIdx hx)⟩ hI8 (okf4 _ (List.getElem_mem ht))
            exact ⟨I, _, _, rfl, rfl, hI8, z1, _, _, rfl, z2, z3, z4, z5, z6, z7⟩
          | false =>
            refine ⟨.ref I, rfl, .inl ⟨rfl, _, SqL.of hI6⟩, .ref d, rfl, .int many, rfl, d, l, _, _, rfl, D6, by omega, by omega, by omega, fun H7 x D7 fr7 a0 a1 => ?_⟩
            obtain ⟨t, rfl⟩ := Int.eq_ofNat_of_zero_le a0
            have hI7 := fr7 _ _ oI.1 oI.2 hI6
            obtain ⟨z1, z2, z3, z4, z5, z6, z7⟩ := fin (H' := H7) (x := t) (D7.mono (by omega)) (frC.trans fr7) (fr7 _ _ oG.1 oG.2 hG6) (tg6.ts (Ts.fr D6 fr7) (noL_gates gs)) ⟨f4, fr7 _ _ oF.1 oF.2 hF6, lf4, okf4⟩ hI7 (by omega)
            exact ⟨I, _, _, rfl, rfl, hI7, z1, _, _, rfl, z2, z3, z4, z5, z6, z7⟩
      · rintro σ H4 ⟨y7, y8, rfl, D4, fr4, hG4, tg4, ⟨f4, hF4, lf4, okf4⟩, ws, hI4, lw, okw⟩
        have lw' : ws.length = c := by rw [lw]; simp
        refine ⟨.ref G, rfl, .inl ⟨rfl, _, SqL.of hG4⟩, .ref d, rfl, .ref I, rfl, I, _, rfl, .inl (SqL.of hI4), ?_⟩
        rw [nV_len, lw']
        refine ⟨d, l, _, c, rfl, D4, by omega, c1, c3, fun H5 bs D5 fr5 lb => ?_⟩
        have hI5 := fr5 _ _ oI.1 oI.2 hI4
        have hG5 := fr5 _ _ oG.1 oG.2 hG4
        have hF5 := fr5 _ _ oF.1 oF.2 hF4
        have tg5 := tg4.ts (Ts.fr D4 fr5) (noL_gates gs)
        refine ⟨.ref I, rfl, I, _, rfl, .inl ⟨SqL.of hI5, fun ti nti => ⟨sl2, fun tt ntt => ?_⟩⟩⟩
        have s5 := (same_upd (o := HO.tup (nV ws)) nti).trans (same_upd (o := HO.tup [V.str (tabOf bs), .ref ti]) ntt)
        have hG6 := s5 _ _ hG5
        have hF6 := s5 _ _ hF5
        refine ⟨G, _, _, rfl, rfl, hG6, ?_, ?_⟩
        · have := tg5.length
          rw [List.length_map, lg] at this
          exact Nat.lt_of_lt_of_le (show acc.length < 64 by omega) (by decide)
        have D6 := (D5.same s5).upd (o := HO.lst (acc ++ [.ref tt])) oG.1 oG.2
        have frD := Fr.upd (o := HO.lst (acc ++ [.ref tt])) ((fr4.trans fr5).trans (Fr.of s5)) nG
        have tgN : TkAll (upd (upd (upd H5 ti (.tup (nV ws))) tt (.tup [.str (tabOf bs), .ref ti])) G (.lst (acc ++ [.ref tt]))) (acc ++ [.ref tt]) ((gs ++ [(bs, ws)]).map gD) := by
          rw [List.map_append]
          exact (tg5.ts ((Ts.same s5).trans (Ts.set hG6)) (noL_gates gs)).append (.cons ((gate_new nti ntt).ts (Ts.set hG6) (noL_gate _)) .nil)
        have hGN : (upd (upd (upd H5 ti (.tup (nV ws))) tt (.tup [.str (tabOf bs), .ref ti])) G (.lst (acc ++ [.ref tt]))) G = some (.lst (acc ++ [.ref tt])) := upd_same
        have hFN : (upd (upd (upd H5 ti (.tup (nV ws))) tt (.tup [.str (tabOf bs), .ref ti])) G (.lst (acc ++ [.ref tt]))) F = some (.lst (nV f4)) := by rw [upd_ne nGF.symm]; exact hF6
        refine ⟨.ref F, rfl, .inl ⟨rfl, _, SqL.of hFN⟩, .int many, rfl, .int (0 + (i : Int)), rfl, _, _, rfl, rfl, F, _, _, rfl, rfl, hFN, ?_, ?_⟩
        · rw [nV_len]
          exact Nat.lt_of_lt_of_le (show f4.length < 64 by omega) (by decide)
        · refine ⟨_, _, _, _, rfl, (D6.upd oF.1 oF.2).mono (by push_cast; omega), Fr.upd frD nF0, ⟨_, gs ++ [(bs, ws)], by rw [upd_ne nGF]; exact hGN, tgN.ts (Ts.set hFN) (noL_gates _), by rw [List.length_append, lg]; rfl, ok.snoc ⟨?_, ?_, ?_, ?_⟩⟩, f4 ++ [many + i], ?_, by rw [List.length_append]; show f4.length + 1 ≤ i + 1; omega, fun x hx => ?_⟩
          · show bs.length = 2 ^ ws.length
            rw [lb, lw']
          · show 1 ≤ ws.length
            omega
          · show ws.length ≤ 3
            omega
          · rw [lg]
            exact okw
          · rw [upd_same, nV_app]
            have : V.int ((many : Int) + (0 + (i : Int))) = V.int (Int.ofNat (many + i)) := by
              congr 1
              show (many : Int) + (0 + (i : Int)) = ((many + i : Nat) : Int)
              push_cast
              omega
            show some (HO.lst (nV f4 ++ [V.int ((many : Int) + (0 + (i : Int)))])) = _
            rw [this]
            rfl
          · rcases List.mem_append.mp hx with z | z
            · have := okf4 x z
              omega
            · rw [List.mem_singleton.mp z]
              omega
    · rintro σ H1 ⟨y5, y6, y7, y8, rfl, D1, fr1, ⟨acc, gs, hG, tg, lg, ok⟩, _⟩
      have lg' : gs.length = count := by rw [lg]; simp
      refine ⟨.int many, rfl, .ref G, rfl, G, _, rfl, .inl ⟨SqL.of hG, fun tq ntq => ⟨sl2, fun r nr => ?_⟩⟩⟩
      have s2 := (same_upd (o := HO.tup acc) ntq).trans (same_upd (o := HO.tup [V.int many, .ref tq]) nr)
      refine q r _ gs ((D1.same s2).mono (by omega)) (fr1.trans (Fr.of s2)) ?_ lg' ok
      exact .tup upd_same (.cons (.int _) (.cons (.tup (same_upd nr _ _ upd_same) (tg.same s2)) .nil))
/-! ### chains -/
theorem nV_set : ∀ (ws : List Nat) (t x : Nat), (nV ws).set t (.int (Int.ofNat x)) = nV (ws.set t x)
  | [], _, _ => rfl
  | _ :: _, 0, _ => rfl
  | w :: r, t + 1, x => by
    show V.int (Int.ofNat w) :: (nV r).set t _ = V.int (Int.ofNat w) :: nV (r.set t x)
    rw [nV_set r t x]
theorem ok_chain (T : Tx K mg) : FnOk P w K mg base CX0 3 T.f_chain T.fd_chain ["_law_deck_here", "_law_many", "_law_count"] (sp_shared K) := by
  refine T.F_chain.ok sc_chain (fun vs H Q E h => ?_) (fun cdv A outer s H vs Q E hr h => ?_)
  · obtain ⟨d, l, n, many, count, rfl, _⟩ := h
    rfl
  · obtain ⟨d, l, n, many, count, rfl, D, hn, m1, m6, c40, q⟩ := h
    refine ⟨_, (pss_cons (ps_set (i := 3) sc_chain.nd rfl (by first | exact .inl rfl | exact .inr rfl) (pe_lst pa_nil)) (pss_cons (ps_for PassesOwn.never rfl (pi_range1 (by rfl) T.m_range (pa_cons (pv 2) pa_nil)) (pg_name (i := 4) sc_chain.nd rfl (by first | exact .inl rfl | exact .inr rfl)) (pss_cons (ps_setLc (i := 5) (own := [("_law_place", 6)]) (by rfl) sc_chain.nd rfl rfl (sw_true rfl rfl rfl (by decide +kernel)) (pi_range1 (by rfl) T.m_range (pa_cons (pe_ix ix_list (pe_lst (pa_cons pe_int (pa_cons pe_int (pa_cons pe_int (pa_cons pe_int (pa_cons pe_int (pa_cons pe_int pa_nil))))))) (pe_call (ok_draw T) (hr.mono (by decide)) (by rfl) T.g_draw T.F_draw.kp T.b_draw .nil pass0 (pa_cons (pv 0) (pa_cons pe_int pa_nil))) (fun _ _ => rfl)) pa_nil)) (blkOk_by (own := [("_law_place", 6)]) (N := ["_law_deck_here", "_law_many", "_law_count", "_law_gates", "_law_k", "_law_ins", "_law_place"]) (sc := defScope s_chain) (by decide +kernel)) (fun _ _ _ _ _ => (pg_name (i := 6) sc_chain.nd rfl (by first | exact .inl rfl | exact .inr rfl))) (fun _ _ _ _ _ => pts_nil) (fun _ _ _ _ _ => (pe_call (ok_draw T) (hr.mono (by decide)) (by rfl) T.g_draw T.F_draw.kp T.b_draw .nil pass0 (pa_cons (pv 0) (pa_cons (pv 1) pa_nil))))) (C8.pss_cut (ps_if (pt_cmpR op_gt (pv 4) pe_int (nomark _)) (pss_one (ps_asg (pe_op op_sub (pe_op op_add (pv 1) (pv 4)) pe_int) (pg_sub (pv 5) (pe_call (ok_draw T) (hr.mono (by decide)) (by rfl) T.g_draw T.F_draw.kp T.b_draw .nil pass0 (pa_cons (pv 0) (pa_cons (pe_callB call_len_seq (by rfl) T.m_len PySem.boot_len (pa_cons (pv 5) pa_nil)) pa_nil))) set_list))) pss_nil) (pss_one (ps_expr (pe_bm PySem.F.plainAttrs_list PySem.F.slot_list_append PySem.F.type_list_append mt_append (pv 3) (pa_cons (pe_tup (pa_cons (pe_call (ok_table T) (hr.mono (by decide)) (by rfl) T.g_table T.F_table.kp T.b_table .nil pass0 (pa_cons (pv 0) (pa_cons (pe_callB call_len_seq (by rfl) T.m_len PySem.boot_len (pa_cons (pv 5) pa_nil)) pa_nil))) (pa_cons (pe_callTy call_tuple_of (by rfl) T.m_tuple (by decide +kernel) (pa_cons (pv 5) pa_nil)) pa_nil))) pa_nil))))))) (pss_one (ps_ret (pe_tup (pa_cons (pv 1) (pa_cons (pe_callTy call_tuple_of (by rfl) T.m_tuple (by decide +kernel) (pa_cons (pv 3) pa_nil)) pa_nil))))))), ?_⟩
    have hcc : (((count : Int).toNat : Nat) : Int) = count := by simp
    refine ⟨Nat.zero_le _, fun G nG => ?_⟩
    have oG := D.off nG
    refine ⟨.int count, rfl, count, rfl, by omega, by omega, ?_⟩
    refine for_range (lo := 0) (n := (count : Int).toNat) (fun i σ H' => ∃ y4 y5, σ = [some (.ref d), some (.int many), some (.int count), some (.ref G), y4, y5, none] ∧ DeckB H' d l (n + 20 * i) ∧ Fr d l H H' ∧ (∃ acc gs, H' G = some (.lst acc) ∧ TkAll H' acc (gs.map gD) ∧ gs.length = i ∧ NetOk many gs))
      ⟨_, _, rfl, (D.same (same_upd nG)).mono (by omega), Fr.new nG, [], [], upd_same, .nil, rfl, fun k g e => by simp at e⟩ ?_ ?_
    · rintro i σ H1 hi ⟨y4, y5, rfl, D1, fr1, acc, gs, hG, tg, lg, ok⟩
      have hi' : i < count := by simpa using hi
      refine ⟨by decide, fun p6 n6 => ?_⟩
      have o6 := D1.off n6
      have s26 := same_upd (o := HO.lst [V.int 2, V.int 2, V.int 1, V.int 3, V.int 2, V.int 2]) n6
      have D2' := D1.same s26
      refine ⟨.ref d, rfl, d, l, 6, _, rfl, D2', by omega, by decide, by decide, fun H3 v D3 fr3 v0 v1 => ?_⟩
      have h63 := fr3 _ _ o6.1 o6.2 upd_same
      have hG3 := fr3 _ _ oG.1 oG.2 (s26 _ _ hG)
      have tg3 := tg.ts ((Ts.same s26).trans (Ts.fr D2' fr3)) (noL_gates gs)
      have frA : Fr d l H H3 := (fr1.trans (Fr.of s26)).trans fr3
      obtain ⟨c, hc, c1, c3⟩ := pick6 (a := 2) (b := 2) (c := 1) (d := 3) (e := 2) (f := 2) v0 v1 (by omega) (by omega) (by omega) (by omega) (by omega) (by omega)
      have hc2 : (((c : Int).toNat : Nat) : Int) = c := by simp
      refine ⟨p6, _, v, _, rfl, rfl, SqL.of h63, hc, c, rfl, by omega, by omega, fun I nI => ?_⟩
      have oI := D3.off nI
      have nI0 : H I = none := none_of_fr frA D3 nI
      have nGI : G ≠ I := ne_of_none hG3 nI
      refine lc_range (lo := 0) (n := (c : Int).toNat) (fun j H' => DeckB H' d l (n + 20 * i + 1 + j) ∧ Fr d l H H' ∧ H' G = some (.lst acc) ∧ TkAll H' acc (gs.map gD) ∧ ∃ ws : List Nat, H' I = some (.lst (nV ws)) ∧ ws.length = j ∧ ∀ w ∈ ws, w < many)
        ⟨(D3.same (same_upd nI)).mono (by omega), frA.trans (Fr.new nI), same_upd nI _ _ hG3, tg3.ts (Ts.new nI) (noL_gates gs), [], upd_same, rfl, fun w hw => by cases hw⟩ ?_ ?_
      · rintro j H4 hj ⟨D4, fr4, hG4, tg4, ws, hI4, lw, okw⟩
        have hj' : j < c := by simpa using hj
        refine ⟨rfl, .ref d, rfl, .int many, rfl, d, l, _, _, rfl, D4, by omega, by omega, by omega, fun H5 x D5 fr5 x0 x1 => ?_⟩
        obtain ⟨t, rfl⟩ := Int.eq_ofNat_of_zero_le x0
        have hI5 := fr5 _ _ oI.1 oI.2 hI4
        have hG5 := fr5 _ _ oG.1 oG.2 hG4
        refine ⟨_, hI5, ?_, (D5.upd oI.1 oI.2).mono (by push_cast; omega), Fr.upd (fr4.trans fr5) nI0, by rw [upd_ne nGI]; exact hG5, tg4.ts ((Ts.fr D4 fr5).trans (Ts.set hI5)) (noL_gates gs), ws ++ [t], ?_, by rw [List.length_append, lw]; rfl, fun w hw => ?_⟩
        · rw [nV_len, lw]
          exact Nat.lt_of_lt_of_le (show j < 64 by omega) (by decide)
        · rw [upd_same, nV_app]
          rfl
        · rcases List.mem_append.mp hw with z | z
          · exact okw w z
          · rw [List.mem_singleton.mp z]; omega
      · rintro H4 ⟨D4, fr4, hG4, tg4, ws, hI4, lw, okw⟩
        have lw' : ws.length = c := by rw [lw]; simp
        -- if k > 0
        refine ⟨fun σ H' => σ = [some (.ref d), some (.int many), some (.int count), some (.ref G), some (.int (0 + (i : Int))), some (.ref I), none] ∧ DeckB H' d l (n + 20 * i + 6) ∧ Fr d l H H' ∧ H' G = some (.lst acc) ∧ TkAll H' acc (gs.map gD) ∧ ∃ ws : List Nat, H' I = some (.lst (nV ws)) ∧ ws.length = c ∧ ∀ w ∈ ws, w < many + i, ?_, ?_⟩
        · refine ⟨.int (0 + (i : Int)), rfl, _, _, rfl, rfl, _, rfl, ite2 (fun z => ?_) (fun z => ?_)⟩
          · have ip : 0 < i := by
              have : (0 : Int) < 0 + (i : Int) := of_decide_eq_true z
              omega
            refine ⟨.int many, rfl, .int (0 + (i : Int)), rfl, _, _, rfl, rfl, _, _, rfl, rfl, .ref I, rfl, .ref d, rfl, .ref I, rfl, I, _, rfl, .inl (SqL.of hI4), ?_⟩
            rw [nV_len, lw']
            refine ⟨d, l, _, _, rfl, D4, by omega, by omega, by omega, fun H5 x D5 fr5 x0 x1 => ?_⟩
            obtain ⟨t, rfl⟩ := Int.eq_ofNat_of_zero_le x0
            have ht : t < ws.length := by omega
            have hI5 := fr5 _ _ oI.1 oI.2 hI4
            have hG5 := fr5 _ _ oG.1 oG.2 hG4
            refine ⟨I, _, (t : Int), t, rfl, rfl, hI5, ?_, ?_⟩
            · unfold ixN
              rw [if_pos (by omega), nV_len, if_pos (by omega)]
              simp
            · have ev : V.int ((many : Int) + (0 + (i : Int)) - 1) = .int (Int.ofNat (many + i - 1)) := by
                congr 1
                show (many : Int) + (0 + (i : Int)) - 1 = ((many + i - 1 : Nat) : Int)
                omega
              refine ⟨rfl, (D5.upd oI.1 oI.2).mono (by omega), Fr.upd (fr4.trans fr5) nI0, by rw [upd_ne nGI]; exact hG5, tg4.ts ((Ts.fr D4 fr5).trans (Ts.set hI5)) (noL_gates gs), ws.set t (many + i - 1), ?_, by rw [List.length_set]; exact lw', fun w hw => ?_⟩
              · rw [upd_same]
                show some (HO.lst ((nV ws).set t (V.int ((many : Int) + (0 + (i : Int)) - 1)))) = _
                rw [ev, nV_set]
              · rcases List.mem_or_eq_of_mem_set hw with z | z
                · have := okw w z
                  omega
                · omega
          · exact ⟨rfl, D4.mono (by omega), fr4, hG4, tg4, ws, hI4, lw', fun w hw => by have := okw w hw; omega⟩
        rintro σ H5 ⟨rfl, D5, fr5, hG5, tg5, ws2, hI5, lw2, okw2⟩
        refine ⟨.ref G, rfl, .inl ⟨rfl, _, SqL.of hG5⟩, .ref d, rfl, .ref I, rfl, I, _, rfl, .inl (SqL.of hI5), ?_⟩
        rw [nV_len, lw2]
        refine ⟨d, l, _, c, rfl, D5, by omega, c1, c3, fun H6 bs D6 fr6 lb => ?_⟩
        have hI6 := fr6 _ _ oI.1 oI.2 hI5
        have hG6 := fr6 _ _ oG.1 oG.2 hG5
        have tg6 := tg5.ts (Ts.fr D5 fr6) (noL_gates gs)
        refine ⟨.ref I, rfl, I, _, rfl, .inl ⟨SqL.of hI6, fun ti nti => ⟨sl2, fun tt ntt => ?_⟩⟩⟩
        have s5 := (same_upd (o := HO.tup (nV ws2)) nti).trans (same_upd (o := HO.tup [V.str (tabOf bs), .ref ti]) ntt)
        have hG7 := s5 _ _ hG6
        refine ⟨G, _, _, rfl, rfl, hG7, ?_, ?_⟩
        · have := tg6.length
          rw [List.length_map, lg] at this
          exact Nat.lt_of_lt_of_le (show acc.length < 64 by omega) (by decide)
        · refine ⟨_, _, rfl, ((D6.same s5).upd oG.1 oG.2).mono (by push_cast; omega), Fr.upd ((fr5.trans fr6).trans (Fr.of s5)) nG, _, gs ++ [(bs, ws2)], upd_same, ?_, by rw [List.length_append, lg]; rfl, ok.snoc ⟨?_, ?_, ?_, ?_⟩⟩
          · rw [List.map_append]
            exact (tg6.ts ((Ts.same s5).trans (Ts.set hG7)) (noL_gates gs)).append (.cons ((gate_new nti ntt).ts (Ts.set hG7) (noL_gate _)) .nil)
          · show bs.length = 2 ^ ws2.length
            rw [lb, lw2]
          · show 1 ≤ ws2.length
            omega
          · show ws2.length ≤ 3
            omega
          · rw [lg]
            exact okw2
    · rintro σ H1 ⟨y4, y5, rfl, D1, fr1, acc, gs, hG, tg, lg, ok⟩
      have lg' : gs.length = count := by rw [lg]; simp
      refine ⟨.int many, rfl, .ref G, rfl, G, _, rfl, .inl ⟨SqL.of hG, fun tq ntq => ⟨sl2, fun r nr => ?_⟩⟩⟩
      have s2 := (same_upd (o := HO.tup acc) ntq).trans (same_upd (o := HO.tup [V.int many, .ref tq]) nr)
      refine q r _ gs ((D1.same s2).mono (by omega)) (fr1.trans (Fr.of s2)) ?_ lg' ok
      exact .tup upd_same (.cons (.int _) (.cons (.tup (same_upd nr _ _ upd_same) (tg.same s2)) .nil))
def sp_net (K : PySem.W.Frag) : Sp := fun vs H Q E => ∃ (d l : Addr) (n way : Int) (many count : Nat), vs = [.ref d, .int way, .int many, .int count] ∧ sp_shared K [.ref d, .int many, .int count] H Q E
theorem ok_net (T : Tx K mg) : FnOk P w K mg base CX0 4 T.f_net T.fd_net ["_law_deck_here", "_law_way", "_law_many", "_law_count"] (sp_net K) := by
  refine T.F_net.ok sc_net (fun vs H Q E h => ?_) (fun cdv A outer s H vs Q E hr h => ?_)
  · obtain ⟨d, l, n, way, many, count, rfl, _⟩ := h
    rfl
  · obtain ⟨d, l, n, way, many, count, rfl, h⟩ := h
    refine ⟨_, (pss_cons (ps_if (pt_cmpR op_eq (pv 1) pe_int (nomark _)) (pss_one (ps_ret (pe_call (ok_formula T) (hr.mono (by decide)) (by rfl) T.g_formula T.F_formula.kp T.b_formula .nil pass0 (pa_cons (pv 0) (pa_cons (pv 2) (pa_cons (pv 3) pa_nil)))))) pss_nil) (pss_cons (ps_if (pt_cmpR op_eq (pv 1) pe_int (nomark _)) (pss_one (ps_ret (pe_call (ok_chain T) (hr.mono (by decide)) (by rfl) T.g_chain T.F_chain.kp T.b_chain .nil pass0 (pa_cons (pv 0) (pa_cons (pv 2) (pa_cons (pv 3) pa_nil)))))) pss_nil) (pss_one (ps_ret (pe_call (ok_shared T) (hr.mono (by decide)) (by rfl) T.g_shared T.F_shared.kp T.b_shared .nil pass0 (pa_cons (pv 0) (pa_cons (pv 2) (pa_cons (pv 3) pa_nil)))))))), ?_⟩
    refine ⟨.int way, rfl, rfl, _, rfl, ite2 (fun _ => ⟨.ref d, rfl, .int many, rfl, .int count, rfl, h⟩) (fun _ => ?_)⟩
    refine ⟨.int way, rfl, rfl, _, rfl, ite2 (fun _ => ⟨.ref d, rfl, .int many, rfl, .int count, rfl, h⟩) (fun _ => ⟨.ref d, rfl, .int many, rfl, .int count, rfl, h⟩)⟩

end
end Gk

set_option Elab.async false
set_option linter.all false
set_option maxRecDepth 100000
set_option maxHeartbeats 1000000
namespace Gk
open PySem PySem.Spec PyProof.Rows L2
section
variable {P : Program} {w : World} {K : PySem.W.Frag} {mg : Str → Option Value} {base : Heap}
/-! ### slices and sums of tuples: what is told stands in a heap that has grown -/
theorem cut_all {xs : List V} {lo hi : Option Int} (h : HT.sIx xs.length 0 lo = 0 ∧ HT.sIx xs.length xs.length hi = xs.length) : cutV xs lo hi = xs := by
  unfold cutV
  rw [h.1, h.2, List.drop_zero, Nat.sub_zero, List.take_length]
theorem same_refl {H : Hp} : Same H H := fun _ _ e => e
theorem slA {K : PySem.W.Frag} {a : Addr} {xs : List V} {lo hi : Option Int} {H : Hp} {Q : VK} (h : H a = some (.tup xs)) (q : ∀ p H', Same H H' → H' p = some (.tup (cutV xs lo hi)) → Q (.ref p) H') : rSlA K (.ref a) lo hi H Q :=
  ⟨a, xs, rfl, SqT.of h, fun w => q a H same_refl (by rw [cut_all w]; exact h), fun _ p np => q p _ (same_upd np) upd_same⟩
theorem slAn {K : PySem.W.Frag} {a : Addr} {xs : List V} {lo : Option Int} {H : Hp} {Q : VK} {σ : L2.St} (h : H a = some (.tup xs)) (q : ∀ p H', Same H H' → H' p = some (.tup (cutV xs lo none)) → Q (.ref p) H') : tNoPart σ H (fun u H3 => rSlA K (.ref a) lo u H3 Q) := slA h q
theorem catA {K : PySem.W.Frag} {a b : Addr} {xs ys : List V} {H : Hp} {Q : VK} (ha : H a = some (.tup xs)) (hb : H b = some (.tup ys)) (hl : xs.length + ys.length ≤ sizeLine) (q : ∀ p H', Same H H' → H' p = some (.tup (xs ++ ys)) → Q (.ref p) H') : rCatA K (.ref a) (.ref b) H Q :=
  ⟨a, b, xs, ys, rfl, rfl, SqT.of ha, SqT.of hb, hl, fun e => q b H same_refl (by rw [e]; exact hb), fun _ e => q a H same_refl (by rw [e, List.append_nil]; exact ha), fun _ _ p np => q p _ (same_upd np) upd_same⟩
theorem cut_to {xs : List V} {k : Nat} : cutV xs none (some (k : Int)) = xs.take k := by
  unfold cutV
  rw [HT.sIx_none, HT.sIx_nat, List.drop_zero, Nat.sub_zero]
  apply List.ext_getElem?
  intro i
  rw [List.getElem?_take, List.getElem?_take]
  by_cases h : i < k
  · rw [if_pos h]
    by_cases h2 : i < xs.length
    · rw [if_pos (by omega)]
    · rw [List.getElem?_eq_none (by omega)]
      split <;> rfl
  · rw [if_neg h, if_neg (by omega)]
theorem cut_from {xs : List V} {k : Nat} : cutV xs (some (k : Int)) none = xs.drop k := by
  unfold cutV
  rw [HT.sIx_none, HT.sIx_nat]
  by_cases h : k ≤ xs.length
  · rw [Nat.min_eq_left h]
    exact List.take_of_length_le (by rw [List.length_drop]; exact Nat.le_refl _)
  · rw [Nat.min_eq_right (by omega), Nat.sub_self, List.take_zero, List.drop_eq_nil_of_le (by omega)]
theorem TkAll.take {H : Hp} : ∀ {xs : List V} {ds : List PyData} (k : Nat), TkAll H xs ds → TkAll H (xs.take k) (ds.take k)
  | _, _, 0, _ => by rw [List.take_zero, List.take_zero]; exact .nil
  | _, _, _ + 1, .nil => .nil
  | _, _, k + 1, .cons a t => .cons a (t.take k)
theorem TkAll.drop {H : Hp} : ∀ {xs : List V} {ds : List PyData} (k : Nat), TkAll H xs ds → TkAll H (xs.drop k) (ds.drop k)
  | _, _, 0, t => t
  | _, _, _ + 1, .nil => .nil
  | _, _, k + 1, .cons _ t => t.drop k
theorem set_put {α : Type} {l : List α} {i : Nat} {x : α} (h : i < l.length) : (l.take i ++ [x]) ++ l.drop (i + 1) = l.set i x := by
  rw [List.set_eq_take_append_cons_drop, if_pos h, List.append_assoc]
  rfl

/-! ### how often each wire is read -/
def cntI (len : Nat) (pre : List Nat) : List Int := (List.range len).map fun x => (pre.count x : Int)
theorem cnt_len (len : Nat) (pre : List Nat) : (cntI len pre).length = len := by simp [cntI]
theorem cnt_get {len : Nat} {pre : List Nat} {x : Nat} (h : x < len) : (cntI len pre)[x]? = some (pre.count x : Int) := by
  unfold cntI
  rw [List.getElem?_map, List.getElem?_range h]
  rfl
theorem cnt_snoc {len : Nat} {pre : List Nat} {k : Nat} (h : k < len) : (cntI len pre).set k ((pre.count k : Int) + 1) = cntI len (pre ++ [k]) := by
  apply List.ext_getElem?
  intro x
  by_cases hx : x < len
  · rw [cnt_get hx, List.getElem?_set]
    by_cases e : k = x
    · subst e
      rw [if_pos rfl, if_pos (by rw [cnt_len]; exact h), List.count_append]
      simp
    · rw [if_neg e, cnt_get hx, List.count_append]
      have : List.count x [k] = 0 := List.count_eq_zero.mpr fun z => e (List.mem_singleton.mp z).symm
      rw [this, Nat.add_zero]
  · rw [List.getElem?_eq_none (by rw [List.length_set, cnt_len]; omega), List.getElem?_eq_none (by rw [cnt_len]; omega)]
theorem form_cnt {m len : Nat} {l : List Nat} (hl : ∀ x ∈ l, x < len) : (high m l).Nodup ↔ ∀ y ∈ (cntI len l).drop m, y < 2 := by
  rw [List.nodup_iff_count]
  constructor
  · intro h y hy
    obtain ⟨i, hi⟩ := List.getElem?_of_mem hy
    rw [List.getElem?_drop] at hi
    have hlt : m + i < len := by
      have := (List.getElem?_eq_some_iff.mp hi).1
      rw [cnt_len] at this
      exact this
    rw [cnt_get hlt] at hi
    cases Option.some.inj hi
    have := h (m + i)
    unfold high at this
    rw [List.count_filter (p := fun z => decide (m ≤ z)) (show decide (m ≤ m + i) = true from decide_eq_true (Nat.le_add_right m i))] at this
    omega
  · intro h x
    by_cases hx : x ∈ high m l
    · obtain ⟨h1, h2⟩ := List.mem_filter.mp hx
      have h2 : m ≤ x := of_decide_eq_true h2
      unfold high
      rw [List.count_filter (p := fun z => decide (m ≤ z)) (show decide (m ≤ x) = true from decide_eq_true h2)]
      have hxl := hl x h1
      have : ((cntI len l).drop m)[x - m]? = some (l.count x : Int) := by
        rw [List.getElem?_drop, show m + (x - m) = x by omega]
        exact cnt_get hxl
      have := h _ (List.mem_of_getElem? this)
      omega
    · rw [List.count_eq_zero.mpr hx]
      exact Nat.zero_le _
theorem rep_flat {α : Type} (x : α) : ∀ k : Nat, (List.replicate k [x]).flatten = List.replicate k x
  | 0 => rfl
  | k + 1 => by rw [List.replicate_succ, List.flatten_cons, rep_flat x k]; rfl
theorem flatG_lt {n : Nat} {gs : List Gt} (ok : NetOk n gs) : ∀ x ∈ flatG gs, x < n + gs.length := fun x hx => by
  obtain ⟨g, hg, hx⟩ := List.mem_flatMap.mp hx
  obtain ⟨i, hi⟩ := List.getElem?_of_mem hg
  have := (ok i g hi).2.2.2 x hx
  have := (List.getElem?_eq_some_iff.mp hi).1
  omega
theorem exists_max : ∀ (l : List Int), l ≠ [] → ∃ m ∈ l, ∀ y ∈ l, y ≤ m
  | [x], _ => ⟨x, List.mem_singleton.mpr rfl, fun y hy => by rw [List.mem_singleton.mp hy]; exact Int.le_refl _⟩
  | x :: y :: r, _ => by
    obtain ⟨m, hm, h⟩ := exists_max (y :: r) (by simp)
    by_cases c : x ≤ m
    · exact ⟨m, List.mem_cons_of_mem _ hm, fun z hz => by
        rcases List.mem_cons.mp hz with e | e
        · rw [e]; exact c
        · exact h z e⟩
    · exact ⟨x, List.mem_cons_self .., fun z hz => by
        rcases List.mem_cons.mp hz with e | e
        · rw [e]; exact Int.le_refl _
        · have := h z e
          omega⟩
def sp_due (K : PySem.W.Frag) : Sp := fun vs H Q _ => ∃ (nv : V) (m : Nat) (gs : List Gt), vs = [nv] ∧ Tk H nv (netD m gs) ∧ m ≤ 6 ∧ 1 ≤ gs.length ∧ gs.length ≤ 64 ∧ NetOk m gs ∧ ∀ H', Same H H' → Q (.bl (formB m gs)) H'
theorem ok_due (T : Tx K mg) : FnOk P w K mg base CX0 1 T.f_due T.fd_due ["_law_net_here"] (sp_due K) := by
  refine T.F_due.ok sc_due (fun vs H Q E h => ?_) (fun cdv A outer s H vs Q E hr h => ?_)
  · obtain ⟨nv, m, gs, rfl, _⟩ := h
    rfl
  · obtain ⟨nv, m, gs, rfl, tn, m6, g1, g64, ok, q⟩ := h
    refine ⟨_, (pss_cons (ps_set (i := 1) sc_due.nd rfl (by first | exact .inl rfl | exact .inr rfl) (pe_op op_rep (pe_lst (pa_cons pe_int pa_nil)) (pe_op op_add (pe_ix ix_tup (pv 0) pe_int (fun _ _ => rfl)) (pe_callB call_len_seq (by rfl) T.m_len PySem.boot_len (pa_cons (pe_ix ix_tup (pv 0) pe_int (fun _ _ => rfl)) pa_nil))))) (pss_cons (ps_for PassesOwn.never rfl (pi_tup (pe_ix ix_tup (pv 0) pe_int (fun _ _ => rfl))) (pg_tup rfl (pgs_cons (pg_name (i := 2) sc_due.nd rfl (by first | exact .inl rfl | exact .inr rfl)) (pgs_cons (pg_name (i := 3) sc_due.nd rfl (by first | exact .inl rfl | exact .inr rfl)) pgs_nil))) (pss_one (ps_for PassesOwn.never rfl (pi_tup (pv 3)) (pg_name (i := 4) sc_due.nd rfl (by first | exact .inl rfl | exact .inr rfl)) (pss_one (ps_asg (pe_op op_add (pe_ix ix_list (pv 1) (pv 4) (fun _ _ => rfl)) pe_int) (pg_sub (pv 1) (pv 4) set_list)))))) (pss_one (ps_ret (pe_cmpR op_lt (pe_callB (cr_max rfl) (by rfl) T.m_max (by decide +kernel) (pa_cons (pe_slice sl_list (pv 1) (po_some (pe_ix ix_tup (pv 0) pe_int (fun _ _ => rfl))) po_none) pa_nil)) pe_int (nomark _)))))), ?_⟩
    obtain ⟨a, g, xs, rfl, ha, hg, tg⟩ := tn.net_inv
    have xl : xs.length = gs.length := by rw [tg.length, List.length_map]
    refine ⟨sl1, fun p0 n0 => ?_⟩
    have s0 := same_upd (o := HO.lst [V.int 0]) n0
    refine ⟨.ref a, rfl, a, _, 0, .int m, rfl, rfl, SqT.of (s0 _ _ ha), rfl, .ref a, rfl, a, _, 1, .ref g, rfl, rfl, SqT.of (s0 _ _ ha), rfl, g, _, rfl, .inr (SqT.of (s0 _ _ hg)), _, _, rfl, rfl, ?_⟩
    refine ⟨p0, _, [V.int 0], rfl, rfl, upd_same, by omega, by omega, ?_, fun R nR => ?_⟩
    · show 1 * ((m : Int) + (xs.length : Int)).toNat ≤ sizeLine
      exact Nat.le_trans (show _ ≤ 100 by omega) (by decide)
    have len0 : ((List.replicate ((m : Int) + (xs.length : Int)).toNat [V.int 0]).flatten) = (cntI (m + gs.length) []).map V.int := by
      rw [show ((m : Int) + (xs.length : Int)).toNat = m + gs.length by omega]
      unfold cntI
      apply List.ext_getElem?
      intro i
      rw [rep_flat, List.getElem?_replicate, List.map_map, List.getElem?_map]
      by_cases hi : i < m + gs.length
      · rw [if_pos hi, List.getElem?_range hi]
        rfl
      · rw [if_neg hi, List.getElem?_eq_none (by rw [List.length_range]; omega)]
        rfl
    show tSeq _ _ _ _ (upd (upd H p0 (.lst [V.int 0])) R (.lst ((List.replicate ((m : Int) + (xs.length : Int)).toNat [V.int 0]).flatten)))
    rw [len0]
    have s1 : Same H (hd1 R (upd (upd H p0 (.lst [V.int 0])) R (.lst ((cntI (m + gs.length) []).map V.int)))) := fun b o e => hd1_upd _ _ (hd1_of s0 (by
      cases z : H R with
      | none => rfl
      | some o => rw [s0 _ _ z] at nR; cases nR) _ _ e)
    have hR0 : (upd (upd H p0 (.lst [V.int 0])) R (.lst ((cntI (m + gs.length) []).map V.int))) R = some (.lst ((cntI (m + gs.length) []).map V.int)) := upd_same
    revert s1 hR0
    generalize upd (upd H p0 (.lst [V.int 0])) R (.lst ((cntI (m + gs.length) []).map V.int)) = H1
    intro s1 hR0
    refine ⟨.ref a, rfl, a, _, 1, .ref g, rfl, rfl, SqT.of (hd1_le _ _ (s1 _ _ ha)), rfl, g, rfl, ⟨_, SqT.of (hd1_le _ _ (s1 _ _ hg))⟩, ?_⟩
    refine for_tup (K := K) (a := g) (xs := xs) (fun i σ H' => ∃ y2 y3 y4, σ = [some (.ref a), some (.ref R), y2, y3, y4] ∧ Same H (hd1 R H') ∧ H' R = some (.lst ((cntI (m + gs.length) (flatG (gs.take i))).map V.int)))
      ⟨_, _, _, rfl, s1, hR0⟩ (fun i σ H' _ ⟨_, _, _, _, hP, _⟩ => SqT.of (hd1_le _ _ (hP _ _ hg))) ?_ ?_
    · rintro i v σ H2 hv ⟨y2, y3, y4, rfl, s2, hR2⟩
      obtain ⟨gt, hgt, tgt⟩ := tg.at hv
      obtain ⟨ga, ii, rfl, hga, hii⟩ := tgt.gt_inv
      refine ⟨ga, _, rfl, SqT.of (hd1_le _ _ (s2 _ _ hga)), rfl, _, _, rfl, _, _, rfl, rfl, ?_⟩
      refine ⟨.ref ii, rfl, ii, rfl, ⟨_, SqT.of (hd1_le _ _ (s2 _ _ hii))⟩, for_tup (K := K) (a := ii) (xs := (gt.2.map Int.ofNat).map V.int) (fun j σ H' => ∃ y4, σ = [some (.ref a), some (.ref R), some (.str (tabOf gt.1)), some (.ref ii), y4] ∧ Same H (hd1 R H') ∧ H' R = some (.lst ((cntI (m + gs.length) (flatG (gs.take i) ++ gt.2.take j)).map V.int)))
        ⟨_, rfl, s2, by rw [List.take_zero, List.append_nil]; exact hR2⟩ (fun j σ H' _ ⟨_, _, hP, _⟩ => SqT.of (hd1_le _ _ (hP _ _ hii))) ?_ ?_⟩
      · rintro j x σ H3 hx ⟨y4', rfl, s3, hR3⟩
        rw [List.getElem?_map, List.getElem?_map] at hx
        cases hj : gt.2[j]? with
        | none => rw [hj] at hx; cases hx
        | some k =>
          rw [hj] at hx
          cases Option.some.inj hx
          have hk : k < m + gs.length := by
            have := (ok i gt hgt).2.2.2 k (List.mem_of_getElem? hj)
            have := (List.getElem?_eq_some_iff.mp hgt).1
            omega
          have hat : ((cntI (m + gs.length) (flatG (gs.take i) ++ gt.2.take j)).map V.int)[k]? = some (.int (((flatG (gs.take i) ++ gt.2.take j).count k : Nat) : Int)) := by
            rw [List.getElem?_map, cnt_get hk]
            rfl
          refine ⟨.ref R, rfl, .int (Int.ofNat k), rfl, R, _, (k : Int), _, rfl, rfl, SqL.of hR3, atI_nat hat, _, _, rfl, rfl, .ref R, rfl, .int (Int.ofNat k), rfl, R, _, (k : Int), k, rfl, rfl, hR3, ?_, ?_⟩
          · unfold ixN
            rw [if_pos (by omega), List.length_map, cnt_len, if_pos (by omega)]
            simp
          · refine ⟨_, rfl, fun b o e => hd1_upd _ _ (s3 _ _ e), ?_⟩
            rw [upd_same, ← List.map_set, cnt_snoc hk, List.append_assoc]
            have : gt.2.take (j + 1) = gt.2.take j ++ [k] := by rw [List.take_add_one, hj]; rfl
            rw [this]
      · rintro σ H3 ⟨y4', rfl, s3, hR3⟩
        refine ⟨_, _, _, rfl, s3, ?_⟩
        rw [List.length_map, List.length_map, List.take_length] at hR3
        rw [flatG_take hgt]
        exact hR3
    · rintro σ H2 ⟨y2, y3, y4, rfl, s2, hR2⟩
      rw [xl, List.take_length] at hR2
      have s2' : Same H H2 := fun b o e => hd1_le _ _ (s2 _ _ e)
      have hcut : cutV ((cntI (m + gs.length) (flatG gs)).map V.int) (some (m : Int)) none = ((cntI (m + gs.length) (flatG gs)).drop m).map V.int := by
        rw [cut_from, List.map_drop]
      refine ⟨.ref R, rfl, .ref a, rfl, a, _, 0, .int m, rfl, rfl, SqT.of (s2' _ _ ha), rfl, (m : Int), rfl, R, _, rfl, SqL.of hR2, fun c nc => ?_⟩
      rw [hcut]
      refine ⟨c, _, rfl, SqL.of upd_same, by rw [List.length_drop, cnt_len]; omega, fun mx h1 h2 => ⟨_, _, rfl, rfl, ?_⟩⟩
      have e : decide (mx < 2) = formB m gs := by
        unfold formB
        refine decide_eq_decide.mpr ?_
        rw [form_cnt (flatG_lt ok)]
        exact ⟨fun z y hy => Int.lt_of_le_of_lt (h2 y hy) z, fun z => z mx h1⟩
      show Q (.bl (decide (mx < 2))) _
      rw [e]
      exact q _ (s2'.trans (same_upd nc))

end
end Gk

set_option Elab.async false
set_option linter.all false
set_option maxRecDepth 100000
set_option maxHeartbeats 1000000
namespace Gk
open PySem PySem.Spec PyProof.Rows L2
section
variable {P : Program} {w : World} {K : PySem.W.Frag} {mg : Str → Option Value} {base : Heap}
/-! ### nets with one in put otherwise -/
theorem NetOk.put {m : Nat} {gs : List Gt} {i : Nat} {g : Gt} (ok : NetOk m gs) (hg : GtOk (m + i) g) : NetOk m (gs.set i g) := fun k g' e => by
  rw [List.getElem?_set] at e
  by_cases h : i = k
  · subst h
    rw [if_pos rfl] at e
    split at e
    · cases Option.some.inj e
      exact hg
    · cases e
  · rw [if_neg h] at e
    exact ok k g' e
theorem atI_in {xs : List V} {j : Nat} {x : V} (h : xs[j]? = some x) : atI xs (j : Int) = some x := atI_nat h
def sp_otherwise (K : PySem.W.Frag) : Sp := fun vs H Q _ => ∃ (d l : Addr) (n : Int) (nv : V) (m : Nat) (gs : List Gt), vs = [.ref d, nv] ∧ DeckB H d l n ∧ n < 100000 ∧ Tk H nv (netD m gs) ∧ 1 ≤ m ∧ m ≤ 6 ∧ 1 ≤ gs.length ∧ gs.length ≤ 64 ∧ NetOk m gs ∧
  ∀ r H' gs', DeckB H' d l (n + 8) → Fr d l H H' → Tk H' (.ref r) (netD m gs') → gs'.length = gs.length → NetOk m gs' → Q (.ref r) H'
theorem ok_otherwise (T : Tx K mg) : FnOk P w K mg base CX0 2 T.f_otherwise T.fd_otherwise ["_law_deck_here", "_law_net_here"] (sp_otherwise K) := by
  refine T.F_otherwise.ok sc_otherwise (fun vs H Q E h => ?_) (fun cdv A outer s H vs Q E hr h => ?_)
  · obtain ⟨d, l, n, nv, m, gs, rfl, _⟩ := h
    rfl
  · obtain ⟨d, l, n, nv, m, gs, rfl, D, hn, tn, m1, m6, g1, g64, ok, q⟩ := h
    refine ⟨_, (pss_cons (ps_set (i := 2) sc_otherwise.nd rfl (by first | exact .inl rfl | exact .inr rfl) (pe_call (ok_draw T) (hr.mono (by decide)) (by rfl) T.g_draw T.F_draw.kp T.b_draw .nil pass0 (pa_cons (pv 0) (pa_cons pe_int pa_nil)))) (pss_cons (ps_asg (pv 1) (pg_tup rfl (pgs_cons (pg_name (i := 3) sc_otherwise.nd rfl (by first | exact .inl rfl | exact .inr rfl)) (pgs_cons (pg_name (i := 4) sc_otherwise.nd rfl (by first | exact .inl rfl | exact .inr rfl)) pgs_nil)))) (pss_cons (ps_set (i := 5) sc_otherwise.nd rfl (by first | exact .inl rfl | exact .inr rfl) (pe_call (ok_draw T) (hr.mono (by decide)) (by rfl) T.g_draw T.F_draw.kp T.b_draw .nil pass0 (pa_cons (pv 0) (pa_cons (pe_callB call_len_seq (by rfl) T.m_len PySem.boot_len (pa_cons (pv 4) pa_nil)) pa_nil)))) (C8.pss_cut (ps_if (pt_cmpR op_eq (pv 2) pe_int (nomark _)) (pss_one (ps_set (i := 5) sc_otherwise.nd rfl (by first | exact .inl rfl | exact .inr rfl) (pe_op op_sub (pe_callB call_len_seq (by rfl) T.m_len PySem.boot_len (pa_cons (pv 4) pa_nil)) pe_int))) pss_nil) (pss_cons (ps_asg (pe_ix ix_tup (pv 4) (pv 5) (fun _ _ => rfl)) (pg_tup rfl (pgs_cons (pg_name (i := 6) sc_otherwise.nd rfl (by first | exact .inl rfl | exact .inr rfl)) (pgs_cons (pg_name (i := 7) sc_otherwise.nd rfl (by first | exact .inl rfl | exact .inr rfl)) pgs_nil)))) (pss_cons (ps_set (i := 8) sc_otherwise.nd rfl (by first | exact .inl rfl | exact .inr rfl) (pe_call (ok_draw T) (hr.mono (by decide)) (by rfl) T.g_draw T.F_draw.kp T.b_draw .nil pass0 (pa_cons (pv 0) (pa_cons (pe_callB call_len_seq (by rfl) T.m_len PySem.boot_len (pa_cons (pv 7) pa_nil)) pa_nil)))) (pss_cons (ps_set (i := 9) sc_otherwise.nd rfl (by first | exact .inl rfl | exact .inr rfl) (pe_lst (pa_cons (pe_call (ok_draw T) (hr.mono (by decide)) (by rfl) T.g_draw T.F_draw.kp T.b_draw .nil pass0 (pa_cons (pv 0) (pa_cons (pe_op op_add (pv 3) (pv 5)) pa_nil))) (pa_cons (pe_call (ok_draw T) (hr.mono (by decide)) (by rfl) T.g_draw T.F_draw.kp T.b_draw .nil pass0 (pa_cons (pv 0) (pa_cons (pv 3) pa_nil))) (pa_cons (pe_ix ix_tup (pv 7) (pe_call (ok_draw T) (hr.mono (by decide)) (by rfl) T.g_draw T.F_draw.kp T.b_draw .nil pass0 (pa_cons (pv 0) (pa_cons (pe_callB call_len_seq (by rfl) T.m_len PySem.boot_len (pa_cons (pv 7) pa_nil)) pa_nil))) (fun _ _ => rfl)) (pa_cons (pe_callB (call_max2 rfl) (by rfl) T.m_max (by decide +kernel) (pa_cons pe_int (pa_cons (pe_op op_sub (pe_op op_add (pv 3) (pv 5)) pe_int) pa_nil))) pa_nil)))))) (pss_cons (ps_set (i := 7) sc_otherwise.nd rfl (by first | exact .inl rfl | exact .inr rfl) (pe_op op_catA (pe_op op_catA (pe_slice sl_tupA (pv 7) po_none (po_some (pv 8))) (pe_tup (pa_cons (pe_ix ix_list (pv 9) (pv 2) (fun _ _ => rfl)) pa_nil))) (pe_slice sl_tupA (pv 7) (po_some (pe_op op_add (pv 8) pe_int)) po_none))) (pss_one (ps_ret (pe_tup (pa_cons (pv 3) (pa_cons (pe_op op_catA (pe_op op_catA (pe_slice sl_tupA (pv 4) po_none (po_some (pv 5))) (pe_tup (pa_cons (pe_tup (pa_cons (pv 6) (pa_cons (pv 7) pa_nil))) pa_nil))) (pe_slice sl_tupA (pv 4) (po_some (pe_op op_add (pv 5) pe_int)) po_none)) pa_nil))))))))))))), ?_⟩
    -- way
    refine ⟨.ref d, rfl, d, l, 4, n, rfl, D, by omega, by decide, by decide, fun H1 way D1 fr1 w0 w1 => ?_⟩
    obtain ⟨a, g, xs, rfl, ha, hg, tg⟩ := (tn.ts (Ts.fr D fr1) (noL_net _ _)).net_inv
    have xl : xs.length = gs.length := by rw [tg.length, List.length_map]
    refine ⟨.ref a, rfl, a, _, rfl, SqT.of ha, rfl, _, _, rfl, _, _, rfl, rfl, ?_⟩
    -- at
    refine ⟨.ref d, rfl, .ref g, rfl, g, _, rfl, .inr (SqT.of hg), d, l, _, _, rfl, D1, by omega, by omega, by omega, fun H2 at0 D2 fr2 a0 a1 => ?_⟩
    have hg2 := Ts.fr D1 fr2 _ _ hg
    have tg2 := tg.ts (Ts.fr D1 fr2) (noL_gates gs)
    refine ⟨fun σ H' => ∃ i : Nat, i < gs.length ∧ σ = [some (.ref d), some (.ref a), some (.int way), some (.int m), some (.ref g), some (.int (i : Nat)), none, none, none, none] ∧ H' = H2, ?_, ?_⟩
    · refine ⟨.int way, rfl, rfl, _, rfl, ite2 (fun _ => ?_) (fun _ => ?_)⟩
      · refine ⟨.ref g, rfl, g, _, rfl, .inr (SqT.of hg2), _, _, rfl, rfl, gs.length - 1, by omega, ?_, rfl⟩
        have : (xs.length : Int) - 1 = ((gs.length - 1 : Nat) : Int) := by omega
        show [_, _, _, _, _, some (V.int ((xs.length : Int) - 1)), _, _, _, _] = _
        rw [this]
      · obtain ⟨i, rfl⟩ := Int.eq_ofNat_of_zero_le a0
        exact ⟨i, by omega, rfl, rfl⟩
    rintro σ H2 ⟨i, hi, rfl, rfl⟩
    -- table, ins = gates[at]
    obtain ⟨gt, hgt⟩ : ∃ gt, gs[i]? = some gt := ⟨_, List.getElem?_eq_getElem hi⟩
    obtain ⟨gv, hgv, tgt⟩ := tg2.at' hgt
    obtain ⟨ga, ii, rfl, hga, hii⟩ := tgt.gt_inv
    have okg := ok i gt hgt
    refine ⟨.ref g, rfl, .int (i : Nat), rfl, g, _, _, _, rfl, rfl, SqT.of hg2, atI_in hgv, ga, _, rfl, SqT.of hga, rfl, _, _, rfl, _, _, rfl, rfl, ?_⟩
    have li : (List.map V.int (List.map Int.ofNat gt.2)).length = gt.2.length := by rw [List.length_map, List.length_map]
    -- place
    refine ⟨.ref d, rfl, .ref ii, rfl, ii, _, rfl, .inr (SqT.of hii), ?_⟩
    rw [li]
    refine ⟨d, l, _, _, rfl, D2, by omega, by have := okg.2.1; omega, by have := okg.2.2.1; omega, fun H3 pl D3 fr3 p0 p1 => ?_⟩
    obtain ⟨k, rfl⟩ := Int.eq_ofNat_of_zero_le p0
    have hk : k < gt.2.length := by omega
    -- some
    have e1 : ((m : Int) + (i : Int)) = ((m + i : Nat) : Int) := by push_cast; rfl
    refine ⟨.ref d, rfl, .int m, rfl, .int (i : Nat), rfl, _, _, rfl, rfl, d, l, _, _, rfl, D3, by omega, by omega, by omega, fun H4 s1 D4 fr4 s10 s11 => ?_⟩
    refine ⟨.ref d, rfl, .int m, rfl, d, l, _, _, rfl, D4, by omega, by omega, by omega, fun H5 s2 D5 fr5 s20 s21 => ?_⟩
    have ts5 : Ts H2 H5 := (Ts.fr D2 fr3).trans ((Ts.fr D3 fr4).trans (Ts.fr D4 fr5))
    have hii5 := ts5 _ _ hii
    refine ⟨.ref ii, rfl, .ref d, rfl, .ref ii, rfl, ii, _, rfl, .inr (SqT.of hii5), ?_⟩
    rw [li]
    refine ⟨d, l, _, _, rfl, D5, by omega, by have := okg.2.1; omega, by have := okg.2.2.1; omega, fun H6 pk D6 fr6 k0 k1 => ?_⟩
    obtain ⟨k2, rfl⟩ := Int.eq_ofNat_of_zero_le k0
    have hk2 : k2 < gt.2.length := by omega
    have ts6 := ts5.trans (Ts.fr D5 fr6)
    have hii6 := ts6 _ _ hii
    have hin : (List.map V.int (List.map Int.ofNat gt.2))[k2]? = some (V.int (Int.ofNat gt.2[k2])) := by
      rw [List.getElem?_map, List.getElem?_map, List.getElem?_eq_getElem hk2]
      rfl
    refine ⟨ii, _, _, _, rfl, rfl, SqT.of hii6, atI_in hin, ?_⟩
    refine ⟨.int m, rfl, .int (i : Nat), rfl, _, _, rfl, rfl, _, _, rfl, rfl, 0, _, rfl, sl4, fun S nS => ?_⟩
    have sS := same_upd (o := HO.lst [V.int s1, V.int s2, V.int (Int.ofNat gt.2[k2]), V.int (if (m : Int) + (i : Int) - 1 > 0 then (m : Int) + (i : Int) - 1 else 0)]) nS
    obtain ⟨wn, hwn, wlt⟩ : ∃ wn : Nat, atI [V.int s1, V.int s2, V.int (Int.ofNat gt.2[k2]), V.int (if (m : Int) + (i : Int) - 1 > 0 then (m : Int) + (i : Int) - 1 else 0)] way = some (.int (Int.ofNat wn)) ∧ wn < m + i := by
      have : way = 0 ∨ way = 1 ∨ way = 2 ∨ way = 3 := by omega
      rcases this with rfl | rfl | rfl | rfl
      · obtain ⟨x, rfl⟩ := Int.eq_ofNat_of_zero_le s10
        exact ⟨x, rfl, by omega⟩
      · obtain ⟨x, rfl⟩ := Int.eq_ofNat_of_zero_le s20
        exact ⟨x, rfl, by omega⟩
      · exact ⟨_, rfl, okg.2.2.2 _ (List.getElem_mem hk2)⟩
      · refine ⟨m + i - 1, ?_, by omega⟩
        have : (if (m : Int) + (i : Int) - 1 > 0 then (m : Int) + (i : Int) - 1 else 0) = Int.ofNat (m + i - 1) := by
          show _ = ((m + i - 1 : Nat) : Int)
          split <;> omega
        rw [this]
        rfl
    -- ins
    have hii7 := sS _ _ hii6
    refine ⟨.ref ii, rfl, .int (k : Nat), rfl, (k : Int), rfl, slA hii7 fun q1 H8 s8 h8 => ?_⟩
    rw [cut_to] at h8
    refine ⟨.ref S, rfl, .int way, rfl, S, _, _, _, rfl, rfl, SqL.of (s8 _ _ upd_same), hwn, sl1, fun q2 n2 => ?_⟩
    have s9 := same_upd (o := HO.tup [V.int (Int.ofNat wn)]) n2
    refine catA (s9 _ _ h8) upd_same ?_ fun q3 H10 s10' h10 => ?_
    · rw [List.length_take, li]
      have := okg.2.2.1
      exact Nat.le_trans (show _ ≤ 8 by simp only [List.length_cons, List.length_nil]; omega) (by decide)
    have hii10 := s10' _ _ (s9 _ _ (s8 _ _ hii7))
    refine ⟨.ref ii, rfl, .int (k : Nat), rfl, _, _, rfl, rfl, ((k + 1 : Nat) : Int), rfl, ?_⟩
    refine slAn hii10 fun q4 H11 s11' h11 => ?_
    rw [cut_from] at h11
    refine catA (s11' _ _ h10) h11 ?_ fun q5 H12 s12 h12 => ?_
    · rw [List.length_append, List.length_take, List.length_drop, li]
      have := okg.2.2.1
      exact Nat.le_trans (show _ ≤ 8 by simp only [List.length_cons, List.length_nil]; omega) (by decide)
    rw [set_put (by rw [li]; exact hk)] at h12
    have sA : Same H6 H12 := (((((sS.trans s8).trans s9).trans s10').trans s11').trans s12)
    have tsA : Ts H2 H12 := ts6.trans (Ts.same sA)
    have hset : (List.map V.int (List.map Int.ofNat gt.2)).set k (V.int (Int.ofNat wn)) = List.map V.int (List.map Int.ofNat (gt.2.set k wn)) := by
      rw [List.map_set, List.map_set]
    rw [hset] at h12
    -- the net
    refine ⟨.int m, rfl, .ref g, rfl, .int (i : Nat), rfl, (i : Int), rfl, slA (tsA _ _ hg2) fun r1 H13 s13 h13 => ?_⟩
    rw [cut_to] at h13
    refine ⟨.str (tabOf gt.1), rfl, .ref q5, rfl, sl2, fun r2 n2' => ?_⟩
    have s14 := same_upd (o := HO.tup [V.str (tabOf gt.1), V.ref q5]) n2'
    refine ⟨sl1, fun r3 n3 => ?_⟩
    have s15 := same_upd (o := HO.tup [V.ref r2]) n3
    refine catA (s15 _ _ (s14 _ _ h13)) upd_same ?_ fun r4 H16 s16 h16 => ?_
    · rw [List.length_take]
      exact Nat.le_trans (show _ ≤ 100 by simp only [List.length_cons, List.length_nil]; omega) (by decide)
    have hg16 := s16 _ _ (s15 _ _ (s14 _ _ (s13 _ _ (tsA _ _ hg2))))
    refine ⟨.ref g, rfl, .int (i : Nat), rfl, _, _, rfl, rfl, ((i + 1 : Nat) : Int), rfl, ?_⟩
    refine slAn hg16 fun r5 H17 s17 h17 => ?_
    rw [cut_from] at h17
    refine catA (s17 _ _ h16) h17 ?_ fun r6 H18 s18 h18 => ?_
    · rw [List.length_append, List.length_take, List.length_drop]
      exact Nat.le_trans (show _ ≤ 100 by simp only [List.length_cons, List.length_nil]; omega) (by decide)
    rw [set_put (by omega)] at h18
    refine ⟨sl2, fun r7 n7 => ?_⟩
    have s19 := same_upd (o := HO.tup [V.int m, V.ref r6]) n7
    have sB : Same H12 (upd H18 r7 (.tup [.int m, .ref r6])) := (((((s13.trans s14).trans s15).trans s16).trans s17).trans s18).trans s19
    refine q r7 _ (gs.set i (gt.1, gt.2.set k wn)) ((D6.same (sA.trans sB)).mono (by omega)) (((((((fr1.trans fr2).trans fr3).trans fr4).trans fr5).trans fr6).trans (Fr.of (sA.trans sB)))) ?_ (List.length_set ..) (ok.put ⟨?_, ?_, ?_, ?_⟩)
    · refine .tup upd_same (.cons (.int _) (.cons (.tup (s19 _ _ h18) ?_) .nil))
      have tgB : TkAll (upd H18 r7 (.tup [.int m, .ref r6])) xs (gs.map gD) := tg2.ts (tsA.trans (Ts.same sB)) (noL_gates gs)
      have tnew : Tk (upd H18 r7 (.tup [.int m, .ref r6])) (.ref r2) (gD (gt.1, gt.2.set k wn)) := by
        refine .tup (s19 _ _ (s18 _ _ (s17 _ _ (s16 _ _ (s15 _ _ upd_same))))) (.cons (.str _) (.cons (.tup (sB _ _ h12) (TkAll.ints _)) .nil))
      have e : (gs.set i (gt.1, gt.2.set k wn)).map gD = ((gs.map gD).take i ++ [gD (gt.1, gt.2.set k wn)]) ++ (gs.map gD).drop (i + 1) := by
        rw [set_put (by rw [List.length_map]; exact hi), List.map_set]
      rw [e, ← set_put (show i < xs.length by omega)]
      exact ((tgB.take i).append (.cons tnew .nil)).append (tgB.drop (i + 1))
    · show gt.1.length = 2 ^ (gt.2.set k wn).length
      rw [List.length_set]
      exact okg.1
    · show 1 ≤ (gt.2.set k wn).length
      rw [List.length_set]
      exact okg.2.1
    · show (gt.2.set k wn).length ≤ 3
      rw [List.length_set]
      exact okg.2.2.1
    · intro x hx
      rcases List.mem_or_eq_of_mem_set hx with z | z
      · exact okg.2.2.2 x z
      · rw [z]
        exact wlt

end
end Gk

set_option Elab.async false
set_option linter.all false
set_option maxRecDepth 100000
set_option maxHeartbeats 0
namespace Gk
open PySem PySem.Spec PyProof.Rows L2
section
variable {P : Program} {w : World} {K : PySem.W.Frag} {mg : Str → Option Value} {base : Heap}
theorem tab_fr {H H' : Hp} {d l P : Addr} {n : Int} (D : DeckB H d l n) (f : Fr d l H H') (t : GxR.TabG H P) : GxR.TabG H' P := by
  obtain ⟨ps, e, tr⟩ := t
  obtain ⟨ne, cs, z, y, hd, hl, r⟩ := D
  exact ⟨ps, f _ _ (ne_of e hd (by intro z; cases z)) (ne_of e hl (by intro z; cases z)) e, tr⟩
theorem Tabs2.fr {T : Tx K mg} {H H' : Hp} {d l : Addr} {n : Int} (t : Tabs2 T H) (D : DeckB H d l n) (f : Fr d l H H') : Tabs2 T H' := ⟨tab_fr D f t.1, tab_fr D f t.2.1, tab_fr D f t.2.2⟩
def sp_right (T : Tx K mg) : Sp := fun vs H Q _ => ∃ (nv : V) (m : Nat) (gs : List Gt), vs = [nv] ∧ Tk H nv (netD m gs) ∧ 1 ≤ m ∧ m ≤ 6 ∧ 1 ≤ gs.length ∧ gs.length ≤ 64 ∧ NetOk m gs ∧ Tabs2 T H ∧ ∀ H', Gr H H' → Q (.bl true) H'
theorem ok_right (T : Tx K mg) (B : Tb base T) : FnOk P w K mg base CX0 7 T.f_right T.fd_right ["_law_net_here"] (sp_right T) := by
  refine T.F_right.ok sc_right (fun vs H Q E h => ?_) (fun cdv A outer s H vs Q E hr h => ?_)
  · obtain ⟨nv, m, gs, rfl, _⟩ := h
    rfl
  · obtain ⟨nv, m, gs, rfl, tn, m1, m6, g1, g64, ok, tabs, q⟩ := h
    refine ⟨_, (pss_cons (ps_set (i := 1) sc_right.nd rfl (by first | exact .inl rfl | exact .inr rfl) (pe_call (ok_is_formula T B) (hr.mono (by decide)) (by rfl) T.g_is_formula T.F_is_formula.kp T.b_is_formula .nil pass0 (pa_cons (pv 0) pa_nil))) (pss_one (ps_ret (pe_and (pe_callB call_isi (by rfl) T.m_isinstance (by decide +kernel) (pa_cons (pv 1) (pa_cons (pe_bltn (v := .ty "bool") (u := .type "bool") (by rfl) T.m_bool (by decide +kernel) rfl) pa_nil))) (pe_and (pe_cmpR op_eq (pv 1) (pe_call (ok_due T) (hr.mono (by decide)) (by rfl) T.g_due T.F_due.kp T.b_due .nil pass0 (pa_cons (pv 0) pa_nil)) (nomark _)) (pe_one (pe_cmpR op_eq (pe_call (ok_is_formula T B) (hr.mono (by decide)) (by rfl) T.g_is_formula T.F_is_formula.kp T.b_is_formula .nil pass0 (pa_cons (pv 0) pa_nil)) (pv 1) (nomark _)))))))), ?_⟩
    refine ⟨nv, rfl, nv, m, gs, rfl, tn, m1, m6, g1, g64, ok, tabs, fun H1 gr1 => ?_⟩
    refine ⟨_, rfl, _, _, _, _, _, rfl, .ty _, .base (.bl _), kit_ty kBB, _, rfl, iteT ?_⟩
    refine ⟨_, rfl, nv, rfl, nv, m, gs, rfl, tn.gr gr1, m6, g1, g64, ok, fun H2 s2 => ⟨rfl, _, rfl, ?_⟩⟩
    rw [decide_eq_true rfl]
    refine iteT ?_
    have gr2 := gr1.trans (Gr.of s2)
    refine ⟨nv, rfl, nv, m, gs, rfl, tn.gr gr2, m1, m6, g1, g64, ok, tabs.gr gr2, fun H3 gr3 => ⟨_, rfl, rfl, ?_⟩⟩
    rw [decide_eq_true rfl]
    exact q H3 (gr2.trans gr3)
def sp_law (K : PySem.W.Frag) (Ps : List Addr) : Sp := fun vs H Q _ => ∃ (a : Addr) (ns : List Int), vs = [.ref a] ∧ SqL K H a (ns.map V.int) ∧ ns.length ≤ 63 ∧ Tabs H Ps ∧ ∀ H', Q (.bl true) H'
theorem ok_law (T : Tx K mg) (B : Tb base T) : FnOk P w K mg base CX0 8 T.f_law T.fd_law ["_law_script"] (sp_law K T.tabs) := by
  refine T.F_law.ok sc_law (fun vs H Q E h => ?_) (fun cdv A outer s H vs Q E hr h => ?_)
  · obtain ⟨a, ns, rfl, _⟩ := h
    rfl
  · obtain ⟨a, ns, rfl, hS, hlen, tabs, q⟩ := h
    refine ⟨_, (pss_cons (ps_set (i := 1) sc_law.nd rfl (by first | exact .inl rfl | exact .inr rfl) (pe_call (ok_deck T) (hr.mono (by decide)) (by rfl) T.g_deck T.F_deck.kp T.b_deck .nil pass0 (pa_cons (pv 0) pa_nil))) (pss_cons (ps_for PassesOwn.never rfl (pi_range1 (by rfl) T.m_range (pa_cons pe_int pa_nil)) (pg_name (i := 2) sc_law.nd rfl (by first | exact .inl rfl | exact .inr rfl)) (pss_cons (ps_set (i := 3) sc_law.nd rfl (by first | exact .inl rfl | exact .inr rfl) (pe_call (ok_draw T) (hr.mono (by decide)) (by rfl) T.g_draw T.F_draw.kp T.b_draw .nil pass0 (pa_cons (pv 1) (pa_cons pe_int pa_nil)))) (pss_cons (ps_set (i := 4) sc_law.nd rfl (by first | exact .inl rfl | exact .inr rfl) (pe_ix ix_list (pe_lst (pa_cons (pe_op op_add pe_int (pe_call (ok_draw T) (hr.mono (by decide)) (by rfl) T.g_draw T.F_draw.kp T.b_draw .nil pass0 (pa_cons (pv 1) (pa_cons pe_int pa_nil)))) (pa_cons pe_int pa_nil))) (pe_callTy call_int1 (by rfl) T.m_int (by decide +kernel) (pa_cons (pe_cmpR op_eq (pe_call (ok_draw T) (hr.mono (by decide)) (by rfl) T.g_draw T.F_draw.kp T.b_draw .nil pass0 (pa_cons (pv 1) (pa_cons pe_int pa_nil))) pe_int (nomark _)) pa_nil)) (fun _ _ => rfl))) (pss_cons (ps_set (i := 5) sc_law.nd rfl (by first | exact .inl rfl | exact .inr rfl) (pe_op op_add pe_int (pe_call (ok_draw T) (hr.mono (by decide)) (by rfl) T.g_draw T.F_draw.kp T.b_draw .nil pass0 (pa_cons (pv 1) (pa_cons pe_int pa_nil))))) (pss_cons (ps_set (i := 6) sc_law.nd rfl (by first | exact .inl rfl | exact .inr rfl) (pe_call (ok_net T) (hr.mono (by decide)) (by rfl) T.g_net T.F_net.kp T.b_net .nil pass0 (pa_cons (pv 1) (pa_cons (pv 3) (pa_cons (pv 5) (pa_cons (pv 4) pa_nil)))))) (pss_cons (ps_if (pt_not (pt_val (pe_call (ok_right T B) (hr.mono (by decide)) (by rfl) T.g_right T.F_right.kp T.b_right .nil pass0 (pa_cons (pv 6) pa_nil)))) (pss_one (ps_ret pe_bl)) pss_nil) (pss_one (ps_for PassesOwn.never rfl (pi_range1 (by rfl) T.m_range (pa_cons pe_int pa_nil)) (pg_name (i := 7) sc_law.nd rfl (by first | exact .inl rfl | exact .inr rfl)) (pss_cons (ps_set (i := 6) sc_law.nd rfl (by first | exact .inl rfl | exact .inr rfl) (pe_call (ok_otherwise T) (hr.mono (by decide)) (by rfl) T.g_otherwise T.F_otherwise.kp T.b_otherwise .nil pass0 (pa_cons (pv 1) (pa_cons (pv 6) pa_nil)))) (pss_one (ps_if (pt_not (pt_val (pe_call (ok_right T B) (hr.mono (by decide)) (by rfl) T.g_right T.F_right.kp T.b_right .nil pass0 (pa_cons (pv 6) pa_nil)))) (pss_one (ps_ret pe_bl)) pss_nil))))))))))) (pss_one (ps_ret pe_bl)))), ?_⟩
    have tab : Tabs2 T H := ⟨tabs _ (by simp [Tx.tabs]), tabs _ (by simp [Tx.tabs]), tabs _ (by simp [Tx.tabs])⟩
    refine ⟨.ref a, rfl, a, ns, rfl, hS, hlen, fun H1 d l s1 D1 => ?_⟩
    refine ⟨8, rfl, by decide, by decide, ?_⟩
    refine for_range (lo := 0) (n := (8 : Int).toNat) (fun i σ H' => ∃ y2 y3 y4 y5 y6 y7, σ = [some (.ref a), some (.ref d), y2, y3, y4, y5, y6, y7] ∧ DeckB H' d l (1000 * i) ∧ Tabs2 T H') ⟨_, _, _, _, _, _, rfl, D1.mono (by omega), tab.gr (Gr.of s1)⟩ ?_ ?_
    · rintro i σ H2 hi ⟨y2, y3, y4, y5, y6, y7, rfl, D2, t2⟩
      have hi' : i < 8 := hi
      refine ⟨.ref d, rfl, d, l, 4, _, rfl, D2, by omega, by decide, by decide, fun H2a way D2a fr2a w0 w1 => ?_⟩
      have t2a := t2.fr D2 fr2a
      refine ⟨.ref d, rfl, d, l, 8, _, rfl, D2a, by omega, by decide, by decide, fun H3 v D3 fr3 v0 v1 => ⟨_, _, rfl, rfl, sl2, fun p np => ?_⟩⟩
      have D3' := D3.same (same_upd (o := HO.lst [V.int (1 + v), .int 40]) np)
      have op := D3.off np
      refine ⟨.ref d, rfl, d, l, 8, _, rfl, D3', by omega, by decide, by decide, fun H4 u D4 fr4 u0 u1 => ?_⟩
      have hp4 := fr4 _ _ op.1 op.2 (show (upd H3 p (.lst [.int (1 + v), .int 40])) p = some (.lst [.int (1 + v), .int 40]) from upd_same)
      have t4 := ((t2a.fr D2a fr3).gr (Gr.none (o := HO.lst [V.int (1 + v), .int 40]) np)).fr D3' fr4
      obtain ⟨cn, hcn, c1, c40⟩ : ∃ cn : Nat, atI [V.int (1 + v), V.int 40] (if decide (V.int u = V.int 5) = true then 1 else 0) = some (.int (cn : Int)) ∧ 1 ≤ cn ∧ cn ≤ 40 := by
        cases decide (V.int u = V.int 5) with
        | true => exact ⟨40, rfl, by decide, by decide⟩
        | false =>
          refine ⟨(1 + v).toNat, ?_, by omega, by omega⟩
          show some (V.int (1 + v)) = _
          rw [Int.toNat_of_nonneg (by omega)]
      refine ⟨rfl, .inr ⟨_, rfl, p, _, _, _, rfl, rfl, SqL.of hp4, hcn, ?_⟩⟩
      refine ⟨.ref d, rfl, d, l, 6, _, rfl, D4, by omega, by decide, by decide, fun H5 x D5 fr5 x0 x1 => ⟨_, _, rfl, rfl, ?_⟩⟩
      have t5 := t4.fr D4 fr5
      obtain ⟨m, hm, m1, m6⟩ : ∃ m : Nat, 1 + x = (m : Int) ∧ 1 ≤ m ∧ m ≤ 6 := ⟨(1 + x).toNat, by omega, by omega, by omega⟩
      have em : (fun i j : Int => V.int (i + j)) 1 x = V.int m := by
        show V.int (1 + x) = _
        rw [hm]
      rw [em]
      refine ⟨.ref d, rfl, .int way, rfl, .int m, rfl, .int cn, rfl, d, l, 0, way, m, cn, rfl, d, l, _, m, cn, rfl, D5, by omega, m1, m6, c40, fun nr H6 gs D6 fr6 tn lg ok => ?_⟩
      have t6 := t5.fr D5 fr6
      refine ⟨.ref nr, rfl, .ref nr, m, gs, rfl, tn, m1, m6, by omega, by omega, ok, t6, fun H7 g7 => ⟨_, rfl, iteF ?_⟩⟩
      refine ⟨4, rfl, by decide, by decide, ?_⟩
      refine for_range (lo := 0) (n := (4 : Int).toNat) (fun j σ H' => ∃ y7 nr gs, σ = [some (.ref a), some (.ref d), some (.int (0 + (i : Int))), some (.int way), some (.int cn), some (.int m), some (.ref nr), y7] ∧ DeckB H' d l (1000 * i + 900 + 8 * j) ∧ Tabs2 T H' ∧ Tk H' (.ref nr) (netD m gs) ∧ gs.length = cn ∧ NetOk m gs) ⟨_, nr, gs, rfl, (D6.gr g7).mono (by omega), t6.gr g7, tn.gr g7, lg, ok⟩ ?_ ?_
      · rintro j σ H8 hj ⟨y7', nr', gs', rfl, D8, t8, tn8, lg8, ok8⟩
        have hj' : j < 4 := hj
        refine ⟨.ref d, rfl, .ref nr', rfl, d, l, _, .ref nr', m, gs', rfl, D8, by omega, tn8, m1, m6, by omega, by omega, ok8, fun r9 H9 gs9 D9 fr9 tn9 lg9 ok9 => ?_⟩
        have t9 := t8.fr D8 fr9
        refine ⟨.ref r9, rfl, .ref r9, m, gs9, rfl, tn9, m1, m6, by omega, by omega, ok9, t9, fun H10 g10 => ⟨_, rfl, iteF ?_⟩⟩
        exact ⟨_, r9, gs9, rfl, (D9.gr g10).mono (by push_cast; omega), t9.gr g10, tn9.gr g10, by omega, ok9⟩
      · rintro σ H8 ⟨y7', nr', gs', rfl, D8, t8, tn8, lg8, ok8⟩
        exact ⟨_, _, _, _, _, _, rfl, D8.mono (by
          have : ((4 : Int).toNat : Int) = 4 := rfl
          push_cast
          omega), t8⟩
    · rintro σ H2 ⟨y2, y3, y4, y5, y6, y7, rfl, _, _⟩
      exact q H2
end
def d_is_whole : He.DefD := ⟨("is_whole", none), "is_whole", "is_whole", defArgs s_is_whole, defBody s_is_whole, defScope s_is_whole, [], []⟩
def d_is_signs : He.DefD := ⟨("is_signs", none), "is_signs", "is_signs", defArgs s_is_signs, defBody s_is_signs, defScope s_is_signs, [], []⟩
def d_is_net : He.DefD := ⟨("is_net", none), "is_net", "is_net", defArgs s_is_net, defBody s_is_net, defScope s_is_net, [], []⟩
def d_is_gate : He.DefD := ⟨("is_gate", none), "is_gate", "is_gate", defArgs s_is_gate, defBody s_is_gate, defScope s_is_gate, [], []⟩
def d_is_formula : He.DefD := ⟨("is_formula", none), "is_formula", "is_formula", defArgs s_is_formula, defBody s_is_formula, defScope s_is_formula, [], []⟩
def d_deck : He.DefD := ⟨("_law_deck", none), "_law_deck", "_law_deck", defArgs s_deck, defBody s_deck, defScope s_deck, [], []⟩
def d_draw : He.DefD := ⟨("_law_draw", none), "_law_draw", "_law_draw", defArgs s_draw, defBody s_draw, defScope s_draw, [], []⟩
def d_table : He.DefD := ⟨("_law_table", none), "_law_table", "_law_table", defArgs s_table, defBody s_table, defScope s_table, [], []⟩
def d_formula : He.DefD := ⟨("_law_formula", none), "_law_formula", "_law_formula", defArgs s_formula, defBody s_formula, defScope s_formula, [], []⟩
def d_chain : He.DefD := ⟨("_law_chain", none), "_law_chain", "_law_chain", defArgs s_chain, defBody s_chain, defScope s_chain, [], []⟩
def d_shared : He.DefD := ⟨("_law_shared", none), "_law_shared", "_law_shared", defArgs s_shared, defBody s_shared, defScope s_shared, [], []⟩
def d_net : He.DefD := ⟨("_law_net", none), "_law_net", "_law_net", defArgs s_net, defBody s_net, defScope s_net, [], []⟩
def d_due : He.DefD := ⟨("_law_due", none), "_law_due", "_law_due", defArgs s_due, defBody s_due, defScope s_due, [], []⟩
def d_otherwise : He.DefD := ⟨("_law_otherwise", none), "_law_otherwise", "_law_otherwise", defArgs s_otherwise, defBody s_otherwise, defScope s_otherwise, [], []⟩
def d_right : He.DefD := ⟨("_law_right", none), "_law_right", "_law_right", defArgs s_right, defBody s_right, defScope s_right, [], []⟩
def d_law : He.DefD := ⟨("law", none), "law", "law", defArgs s_law, defBody s_law, defScope s_law, [], []⟩
def fn : List He.DefD := [d_is_whole, d_is_signs, d_is_net, d_is_gate, d_is_formula, d_deck, d_draw, d_table, d_formula, d_chain, d_shared, d_net, d_due, d_otherwise, d_right, d_law]
def fa : List He.Fa := [.glo "is_whole", .glo "is_signs", .glo "is_net", .glo "is_gate", .glo "is_formula", .glo "_law_deck", .glo "_law_draw", .glo "_law_table", .glo "_law_formula", .glo "_law_chain", .glo "_law_shared", .glo "_law_net", .glo "_law_due", .glo "_law_otherwise", .glo "_law_right", .glo "law", .free "all", .free "bool", .free "enumerate", .free "int", .free "isinstance", .free "len", .free "list", .free "max", .free "range", .free "set", .free "str", .free "sum", .free "tuple", .int "MOST_INPUTS" 6, .int "MOST_INS" 3]
def tf : List He.Defn := [("is_signs", none), ("is_net", none), ("is_gate", none)]
abbrev RR : PySem.W.OpenRow := PySem.W.OpenLaw.row PySem.Challenge.rw_glitchnet_k22_which_nets_are_formulas
def yes : PySem.W.Frag → Bool := fun _ => true
abbrev hk : PySem.W.Hook := He.hookX 4 fa fn [] tf yes
def ob (s : PySem.W.SharedT) : He.AlX := He.obsX 4 fa fn [] tf yes (HandSHeadRun.getT s)
theorem ob_eq (s : PySem.W.SharedT) : ob s = hk.obs s.abs := He.obsX_eq (HandSHeadRun.getT_eq s)
theorem run (w : World) : HandSHeadRun.RunEq RR (PySem.W.view RR.prog [21]) hk ob 800 ["is_whole", "is_signs", "MOST_INPUTS", "MOST_INS", "is_net", "is_gate", "is_formula", "_law_deck", "_law_draw", "_law_table", "_law_formula", "_law_chain", "_law_shared", "_law_net", "_law_due", "_law_otherwise", "_law_right"] w := by
  intro os
  kernel_rfl
theorem facts {w : World} {K : PySem.W.Frag} {h : Heap} {mg : Str → Option Value} {f : Addr} (X : K.In h) (G : h.Ns mainGlobals mg) (hfa : mg ("law" : Str) = some (.ref f)) (c : He.SaysX fa fn [] tf yes w h K) : LamX.LawAtS PySem.Challenge.rw_glitchnet_k22_which_nets_are_formulas w K CX0 8 63 "_law_script" mg f h := by
  obtain ⟨fd0, D0⟩ := c.t.d.def_ 0 (d := d_is_whole) rfl
  have F0 : Fun K "is_whole" "is_whole" s_is_whole (He.fAd K ("is_whole", none)) fd0 := fun_of D0
  have b0 := F0.binds (ps := ["thing"]) fun _ _ _ _ _ _ us hl => match us, hl with | [_], _ => rfl
  obtain ⟨fd1, D1⟩ := c.t.d.def_ 1 (d := d_is_signs) rfl
  have F1 : Fun K "is_signs" "is_signs" s_is_signs (He.fAd K ("is_signs", none)) fd1 := fun_of D1
  have b1 := F1.binds (ps := ["many", "thing"]) fun _ _ _ _ _ _ us hl => match us, hl with | [_, _], _ => rfl
  obtain ⟨fd2, D2⟩ := c.t.d.def_ 2 (d := d_is_net) rfl
  have F2 : Fun K "is_net" "is_net" s_is_net (He.fAd K ("is_net", none)) fd2 := fun_of D2
  have b2 := F2.binds (ps := ["thing"]) fun _ _ _ _ _ _ us hl => match us, hl with | [_], _ => rfl
  obtain ⟨fd3, D3⟩ := c.t.d.def_ 3 (d := d_is_gate) rfl
  have F3 : Fun K "is_gate" "is_gate" s_is_gate (He.fAd K ("is_gate", none)) fd3 := fun_of D3
  have b3 := F3.binds (ps := ["wires", "thing"]) fun _ _ _ _ _ _ us hl => match us, hl with | [_, _], _ => rfl
  obtain ⟨fd4, D4⟩ := c.t.d.def_ 4 (d := d_is_formula) rfl
  have F4 : Fun K "is_formula" "is_formula" s_is_formula (He.fAd K ("is_formula", none)) fd4 := fun_of D4
  have b4 := F4.binds (ps := ["net"]) fun _ _ _ _ _ _ us hl => match us, hl with | [_], _ => rfl
  obtain ⟨fd5, D5⟩ := c.t.d.def_ 5 (d := d_deck) rfl
  have F5 : Fun K "_law_deck" "_law_deck" s_deck (He.fAd K ("_law_deck", none)) fd5 := fun_of D5
  have b5 := F5.binds (ps := ["_law_script"]) fun _ _ _ _ _ _ us hl => match us, hl with | [_], _ => rfl
  obtain ⟨fd6, D6⟩ := c.t.d.def_ 6 (d := d_draw) rfl
  have F6 : Fun K "_law_draw" "_law_draw" s_draw (He.fAd K ("_law_draw", none)) fd6 := fun_of D6
  have b6 := F6.binds (ps := ["_law_deck_here", "_law_most"]) fun _ _ _ _ _ _ us hl => match us, hl with | [_, _], _ => rfl
  obtain ⟨fd7, D7⟩ := c.t.d.def_ 7 (d := d_table) rfl
  have F7 : Fun K "_law_table" "_law_table" s_table (He.fAd K ("_law_table", none)) fd7 := fun_of D7
  have b7 := F7.binds (ps := ["_law_deck_here", "_law_ins"]) fun _ _ _ _ _ _ us hl => match us, hl with | [_, _], _ => rfl
  obtain ⟨fd8, D8⟩ := c.t.d.def_ 8 (d := d_formula) rfl
  have F8 : Fun K "_law_formula" "_law_formula" s_formula (He.fAd K ("_law_formula", none)) fd8 := fun_of D8
  have b8 := F8.binds (ps := ["_law_deck_here", "_law_many", "_law_count"]) fun _ _ _ _ _ _ us hl => match us, hl with | [_, _, _], _ => rfl
  obtain ⟨fd9, D9⟩ := c.t.d.def_ 9 (d := d_chain) rfl
  have F9 : Fun K "_law_chain" "_law_chain" s_chain (He.fAd K ("_law_chain", none)) fd9 := fun_of D9
  have b9 := F9.binds (ps := ["_law_deck_here", "_law_many", "_law_count"]) fun _ _ _ _ _ _ us hl => match us, hl with | [_, _, _], _ => rfl
  obtain ⟨fd10, D10⟩ := c.t.d.def_ 10 (d := d_shared) rfl
  have F10 : Fun K "_law_shared" "_law_shared" s_shared (He.fAd K ("_law_shared", none)) fd10 := fun_of D10
  have b10 := F10.binds (ps := ["_law_deck_here", "_law_many", "_law_count"]) fun _ _ _ _ _ _ us hl => match us, hl with | [_, _, _], _ => rfl
  obtain ⟨fd11, D11⟩ := c.t.d.def_ 11 (d := d_net) rfl
  have F11 : Fun K "_law_net" "_law_net" s_net (He.fAd K ("_law_net", none)) fd11 := fun_of D11
  have b11 := F11.binds (ps := ["_law_deck_here", "_law_way", "_law_many", "_law_count"]) fun _ _ _ _ _ _ us hl => match us, hl with | [_, _, _, _], _ => rfl
  obtain ⟨fd12, D12⟩ := c.t.d.def_ 12 (d := d_due) rfl
  have F12 : Fun K "_law_due" "_law_due" s_due (He.fAd K ("_law_due", none)) fd12 := fun_of D12
  have b12 := F12.binds (ps := ["_law_net_here"]) fun _ _ _ _ _ _ us hl => match us, hl with | [_], _ => rfl
  obtain ⟨fd13, D13⟩ := c.t.d.def_ 13 (d := d_otherwise) rfl
  have F13 : Fun K "_law_otherwise" "_law_otherwise" s_otherwise (He.fAd K ("_law_otherwise", none)) fd13 := fun_of D13
  have b13 := F13.binds (ps := ["_law_deck_here", "_law_net_here"]) fun _ _ _ _ _ _ us hl => match us, hl with | [_, _], _ => rfl
  obtain ⟨fd14, D14⟩ := c.t.d.def_ 14 (d := d_right) rfl
  have F14 : Fun K "_law_right" "_law_right" s_right (He.fAd K ("_law_right", none)) fd14 := fun_of D14
  have b14 := F14.binds (ps := ["_law_net_here"]) fun _ _ _ _ _ _ us hl => match us, hl with | [_], _ => rfl
  obtain ⟨fd15, D15⟩ := c.t.d.def_ 15 (d := d_law) rfl
  have F15 : Fun K "law" "law" s_law (He.fAd K ("law", none)) fd15 := fun_of D15
  have b15 := F15.binds (ps := ["_law_script"]) fun _ _ _ _ _ _ us hl => match us, hl with | [_], _ => rfl
  have e := hfa.symm.trans (He.glo_ok X G (c.t.d.fact 15 (f := .glo "law") rfl))
  cases e
  let T : Tx K mg := { f_is_whole := _, fd_is_whole := _, F_is_whole := F0, g_is_whole := He.glo_ok X G (c.t.d.fact 0 (f := .glo "is_whole") rfl), b_is_whole := b0, f_is_signs := _, fd_is_signs := _, F_is_signs := F1, g_is_signs := He.glo_ok X G (c.t.d.fact 1 (f := .glo "is_signs") rfl), b_is_signs := b1, c_is_signs := (He.cT K ("is_signs", none)).1, P_is_signs := (He.cT K ("is_signs", none)).2, cd_is_signs := code_of F1, f_is_net := _, fd_is_net := _, F_is_net := F2, g_is_net := He.glo_ok X G (c.t.d.fact 2 (f := .glo "is_net") rfl), b_is_net := b2, c_is_net := (He.cT K ("is_net", none)).1, P_is_net := (He.cT K ("is_net", none)).2, cd_is_net := code_of F2, f_is_gate := _, fd_is_gate := _, F_is_gate := F3, g_is_gate := He.glo_ok X G (c.t.d.fact 3 (f := .glo "is_gate") rfl), b_is_gate := b3, c_is_gate := (He.cT K ("is_gate", none)).1, P_is_gate := (He.cT K ("is_gate", none)).2, cd_is_gate := code_of F3, f_is_formula := _, fd_is_formula := _, F_is_formula := F4, g_is_formula := He.glo_ok X G (c.t.d.fact 4 (f := .glo "is_formula") rfl), b_is_formula := b4, f_deck := _, fd_deck := _, F_deck := F5, g_deck := He.glo_ok X G (c.t.d.fact 5 (f := .glo "_law_deck") rfl), b_deck := b5, f_draw := _, fd_draw := _, F_draw := F6, g_draw := He.glo_ok X G (c.t.d.fact 6 (f := .glo "_law_draw") rfl), b_draw := b6, f_table := _, fd_table := _, F_table := F7, g_table := He.glo_ok X G (c.t.d.fact 7 (f := .glo "_law_table") rfl), b_table := b7, f_formula := _, fd_formula := _, F_formula := F8, g_formula := He.glo_ok X G (c.t.d.fact 8 (f := .glo "_law_formula") rfl), b_formula := b8, f_chain := _, fd_chain := _, F_chain := F9, g_chain := He.glo_ok X G (c.t.d.fact 9 (f := .glo "_law_chain") rfl), b_chain := b9, f_shared := _, fd_shared := _, F_shared := F10, g_shared := He.glo_ok X G (c.t.d.fact 10 (f := .glo "_law_shared") rfl), b_shared := b10, f_net := _, fd_net := _, F_net := F11, g_net := He.glo_ok X G (c.t.d.fact 11 (f := .glo "_law_net") rfl), b_net := b11, f_due := _, fd_due := _, F_due := F12, g_due := He.glo_ok X G (c.t.d.fact 12 (f := .glo "_law_due") rfl), b_due := b12, f_otherwise := _, fd_otherwise := _, F_otherwise := F13, g_otherwise := He.glo_ok X G (c.t.d.fact 13 (f := .glo "_law_otherwise") rfl), b_otherwise := b13, f_right := _, fd_right := _, F_right := F14, g_right := He.glo_ok X G (c.t.d.fact 14 (f := .glo "_law_right") rfl), b_right := b14, f_law := _, fd_law := _, F_law := F15, g_law := He.glo_ok X G (c.t.d.fact 15 (f := .glo "law") rfl), b_law := b15, m_all := He.free_ok X G (c.t.d.fact 16 (f := .free "all") rfl), m_bool := He.free_ok X G (c.t.d.fact 17 (f := .free "bool") rfl), m_enumerate := He.free_ok X G (c.t.d.fact 18 (f := .free "enumerate") rfl), m_int := He.free_ok X G (c.t.d.fact 19 (f := .free "int") rfl), m_isinstance := He.free_ok X G (c.t.d.fact 20 (f := .free "isinstance") rfl), m_len := He.free_ok X G (c.t.d.fact 21 (f := .free "len") rfl), m_list := He.free_ok X G (c.t.d.fact 22 (f := .free "list") rfl), m_max := He.free_ok X G (c.t.d.fact 23 (f := .free "max") rfl), m_range := He.free_ok X G (c.t.d.fact 24 (f := .free "range") rfl), m_set := He.free_ok X G (c.t.d.fact 25 (f := .free "set") rfl), m_str := He.free_ok X G (c.t.d.fact 26 (f := .free "str") rfl), m_sum := He.free_ok X G (c.t.d.fact 27 (f := .free "sum") rfl), m_tuple := He.free_ok X G (c.t.d.fact 28 (f := .free "tuple") rfl), k_MOST_INPUTS := He.int_ok X G (c.t.d.fact 29 (f := .int "MOST_INPUTS" 6) rfl), k_MOST_INS := He.int_ok X G (c.t.d.fact 30 (f := .int "MOST_INS" 3) rfl) }
  refine ⟨fd15, tf.map (He.cT K), sp_law K T.tabs, ?_, ?_, ?_, ?_, ?_, ?_⟩
  · rintro p hp
    obtain ⟨d, hd, rfl⟩ := List.mem_map.mp hp
    exact c.empty d hd
  · rintro p hp
    obtain ⟨d, hd, rfl⟩ := List.mem_map.mp hp
    exact c.out d hd
  · rintro p hp
    obtain ⟨d, hd, rfl⟩ := List.mem_map.mp hp
    exact PySem.W.codeHd_of_K X (c.hd d hd)
  · obtain ⟨oc, od, kV, doc, pm, an, cdv, ct, osl, rfl, lk, hcd⟩ := F15.ex
    exact fun s v => .of_eq rfl
  · intro H a ns hl hbits hT hS
    refine ⟨a, ns, rfl, hS, hl, fun P hP => ?_, fun _ => rfl⟩
    have hP : P ∈ (tf.map (He.cT K)).map (·.2) := hP
    obtain ⟨p, hp, rfl⟩ := List.mem_map.mp hP
    exact ⟨#[], hT p hp, by trivial⟩
  · intro base KB GB hTB
    have B : Tb base T := ⟨tab_of (hTB (He.cT K ("is_signs", none)) (List.mem_map.mpr ⟨_, (show (("is_signs", none) : He.Defn) ∈ tf by decide), rfl⟩)), tab_of (hTB (He.cT K ("is_net", none)) (List.mem_map.mpr ⟨_, (show (("is_net", none) : He.Defn) ∈ tf by decide), rfl⟩)), tab_of (hTB (He.cT K ("is_gate", none)) (List.mem_map.mpr ⟨_, (show (("is_gate", none) : He.Defn) ∈ tf by decide), rfl⟩))⟩
    exact ok_law T B
end Gk
open PySem PySem.W PyProof.Rows
set_option maxRecDepth 100000 in
set_option maxHeartbeats 0 in
theorem PySem.Challenge.cw_glitchnet_k22_which_nets_are_formulas_holds : PySem.Challenge.rw_glitchnet_k22_which_nets_are_formulas.Holds := by
  w_on; o_law
  refine HandSHeadRun.head_any (r := OpenLaw.row PySem.Challenge.rw_glitchnet_k22_which_nets_are_formulas) (q := view (OpenLaw.row PySem.Challenge.rw_glitchnet_k22_which_nets_are_formulas).prog [21]) (H := Gk.hk) (ob := Gk.ob) (M := 800) (loose := ["is_whole", "is_signs", "MOST_INPUTS", "MOST_INS", "is_net", "is_gate", "is_formula", "_law_deck", "_law_draw", "_law_table", "_law_formula", "_law_chain", "_law_shared", "_law_net", "_law_due", "_law_otherwise", "_law_right"]) (d := HandSHeadRun.topDef (OpenLaw.row PySem.Challenge.rw_glitchnet_k22_which_nets_are_formulas).prog 21) (kwd := []) Gk.ob_eq
    (by kernel_rfl) (fun s => by kernel_rfl) Gk.run (by kernel_rfl) (by kernel_rfl) (by kernel_rfl) (by rfl) (by first | assumption | decide +kernel) (by decide +kernel) ⟨rfl, rfl, rfl, rfl, rfl, by decide +kernel⟩ ?hw ?hc
  case hw => w_witness2
  case hc =>
    refine LamX.walk_ofTsE (l := PySem.Challenge.rw_glitchnet_k22_which_nets_are_formulas) (n := 63) (k := 8) (x := "_law_script") (CX := fun _ => L2.CX0) rfl (by decide) (by kernel_rfl) ⟨rfl, by decide, by decide⟩ ?F (fun _ _ _ _ _ z => z)
    intro w mg fa h Y G hmg0
    obtain ⟨K, KX, c⟩ := Y
    have hmg : mg ("law" : PySem.Str) = some (.ref fa) := by
      have e : (HandSHeadRun.topDef (OpenLaw.row PySem.Challenge.rw_glitchnet_k22_which_nets_are_formulas).prog 21).name = ("law" : PySem.Str) := by kernel_rfl
      rw [← e]
      exact hmg0
    exact ⟨K, KX, Gk.facts KX G hmg c⟩
