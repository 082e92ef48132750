import PyProof.Rows.All
import Wide.All
import OpenK.AllK
import Wide.FinOn
import HandS.ForMost
import HandS.IsInst
import HandS.TupLe
import HandS.TupAny
import HandS.TupMul
import HandS.More
import HandS.Codes
import HandS.Conv
import HandS.Deep
import HandS.TupSets
import HandS.Style
import HandS.Strs
import HandS.AnyAll
import HandS.GenList
import HandS.JoinGen
import HandS.Zip
import HandS.Rev
import HandS.SetFor
import HandS.FStr
import HandS.RevTup
import HandS.Head0
import HandS.Head1
import HandS.Head2
import HandS.HeadEnd
import HandS.HeadHook1
import HandS.HeadHook2
import HandS.HeadHook3
import HandS.HeadHook4
import HandS.HeadWalk
import HandS.Defaults
import HandS.ReplaceLit
import KE.KUnpackStar
import PyProof.ReprLen
import PyProof.ReprRoads
import PySem.Challenge.RW_glitchnet_k01_what_is_a_net
import KE.KRevSl
set_option Elab.async false
set_option linter.all false
set_option maxRecDepth 100000
set_option maxHeartbeats 1000000
namespace Gk
open PySem PySem.Spec PyProof.Rows L2
/-! ### the text -/
def topS (i : Nat) : Stmt := PySem.Challenge.pw_glitchnet_k01_what_is_a_net.main.body.getD i (.Pass ⟨0, 0, 0, 0⟩)
abbrev s_is_whole : Stmt := topS 1
abbrev s_is_signs : Stmt := topS 2
abbrev s_is_net : Stmt := topS 6
abbrev s_is_gate : Stmt := topS 7
abbrev s_deck : Stmt := topS 9
abbrev s_mixed : Stmt := topS 10
abbrev s_take : Stmt := topS 11
abbrev s_gate : Stmt := topS 12
abbrev s_net : Stmt := topS 13
abbrev s_put : Stmt := topS 14
abbrev s_other : Stmt := topS 15
abbrev s_spoilt : Stmt := topS 16
abbrev s_whole : Stmt := topS 17
abbrev s_in : Stmt := topS 18
abbrev s_l_is_gate : Stmt := topS 19
abbrev s_l_is_net : Stmt := topS 20
abbrev s_right : Stmt := topS 21
abbrev s_long_right : Stmt := topS 22
abbrev s_law : Stmt := topS 23
theorem sc_is_whole : FnScope ["thing"] ["thing"] (defScope s_is_whole) := ⟨rfl, rfl, rfl, by decide +kernel, rfl, by decide +kernel, by decide +kernel⟩
theorem sc_is_signs : FnScope ["many", "thing", "sign"] ["many", "thing"] (defScope s_is_signs) := ⟨rfl, rfl, rfl, by decide +kernel, rfl, by decide +kernel, by decide +kernel⟩
theorem sc_is_net : FnScope ["thing", "many", "gates", "number", "gate"] ["thing"] (defScope s_is_net) := ⟨rfl, rfl, rfl, by decide +kernel, rfl, by decide +kernel, by decide +kernel⟩
theorem sc_is_gate : FnScope ["wires", "thing", "table", "ins", "wire"] ["wires", "thing"] (defScope s_is_gate) := ⟨rfl, rfl, rfl, by decide +kernel, rfl, by decide +kernel, by decide +kernel⟩
theorem sc_deck : FnScope ["_law_script"] ["_law_script"] (defScope s_deck) := ⟨rfl, rfl, rfl, by decide +kernel, rfl, by decide +kernel, by decide +kernel⟩
theorem sc_mixed : FnScope ["_law_cell", "_law_k", "_law_number"] ["_law_cell", "_law_k"] (defScope s_mixed) := ⟨rfl, rfl, rfl, by decide +kernel, rfl, by decide +kernel, by decide +kernel⟩
theorem sc_take : FnScope ["_law_deck_here", "_law_most", "_law_cells", "_law_cell"] ["_law_deck_here", "_law_most"] (defScope s_take) := ⟨rfl, rfl, rfl, by decide +kernel, rfl, by decide +kernel, by decide +kernel⟩
theorem sc_gate : FnScope ["_law_deck_here", "_law_wires", "_law_near", "_law_size", "_law_ins", "_law_k"] ["_law_deck_here", "_law_wires", "_law_near"] (defScope s_gate) := ⟨rfl, rfl, rfl, by decide +kernel, rfl, by decide +kernel, by decide +kernel⟩
theorem sc_net : FnScope ["_law_deck_here", "_law_great", "_law_near", "_law_many", "_law_count", "_law_gates", "_law_k"] ["_law_deck_here"] (defScope s_net) := ⟨rfl, rfl, rfl, by decide +kernel, rfl, by decide +kernel, by decide +kernel⟩
theorem sc_put : FnScope ["_law_row", "_law_at", "_law_part"] ["_law_row", "_law_at", "_law_part"] (defScope s_put) := ⟨rfl, rfl, rfl, by decide +kernel, rfl, by decide +kernel, by decide +kernel⟩
theorem sc_other : FnScope ["_law_deck_here", "_law_thing", "_law_way", "_law_odd", "_law_at", "_law_sign", "_law_some"] ["_law_deck_here", "_law_thing"] (defScope s_other) := ⟨rfl, rfl, rfl, by decide +kernel, rfl, by decide +kernel, by decide +kernel⟩
theorem sc_spoilt : FnScope ["_law_deck_here", "_law_thing", "_law_deep", "_law_at"] ["_law_deck_here", "_law_thing", "_law_deep"] (defScope s_spoilt) := ⟨rfl, rfl, rfl, by decide +kernel, rfl, by decide +kernel, by decide +kernel⟩
theorem sc_whole : FnScope ["_law_thing"] ["_law_thing"] (defScope s_whole) := ⟨rfl, rfl, rfl, by decide +kernel, rfl, by decide +kernel, by decide +kernel⟩
theorem sc_in : FnScope ["_law_wire", "_law_wires"] ["_law_wire", "_law_wires"] (defScope s_in) := ⟨rfl, rfl, rfl, by decide +kernel, rfl, by decide +kernel, by decide +kernel⟩
theorem sc_l_is_gate : FnScope ["_law_thing", "_law_wires", "_law_table", "_law_ins", "_law_wire"] ["_law_thing", "_law_wires"] (defScope s_l_is_gate) := ⟨rfl, rfl, rfl, by decide +kernel, rfl, by decide +kernel, by decide +kernel⟩
theorem sc_l_is_net : FnScope ["_law_thing", "_law_many", "_law_gates", "_law_k"] ["_law_thing"] (defScope s_l_is_net) := ⟨rfl, rfl, rfl, by decide +kernel, rfl, by decide +kernel, by decide +kernel⟩
theorem sc_right : FnScope ["_law_thing", "_law_kept", "_law_found"] ["_law_thing"] (defScope s_right) := ⟨rfl, rfl, rfl, by decide +kernel, rfl, by decide +kernel, by decide +kernel⟩
theorem sc_long_right : FnScope ["_law_deck_here", "_law_count", "_law_step", "_law_gates", "_law_some", "_law_k"] ["_law_deck_here"] (defScope s_long_right) := ⟨rfl, rfl, rfl, by decide +kernel, rfl, by decide +kernel, by decide +kernel⟩
theorem sc_law : FnScope ["_law_script", "_law_deck_here", "_law_turn", "_law_twice", "_law_net_here", "_law_again", "_law_thing", "_law_some", "_law_many"] ["_law_script"] (defScope s_law) := ⟨rfl, rfl, rfl, by decide +kernel, rfl, by decide +kernel, by decide +kernel⟩
structure Tx (K : PySem.W.Frag) (mg : Str → Option Value) where
  f_is_whole : Addr
  fd_is_whole : FuncData
  F_is_whole : Fun K "is_whole" "is_whole" s_is_whole f_is_whole fd_is_whole
  g_is_whole : mg "is_whole" = some (.ref f_is_whole)
  b_is_whole : Binds K fd_is_whole ["thing"] []
  f_is_signs : Addr
  fd_is_signs : FuncData
  F_is_signs : Fun K "is_signs" "is_signs" s_is_signs f_is_signs fd_is_signs
  g_is_signs : mg "is_signs" = some (.ref f_is_signs)
  b_is_signs : Binds K fd_is_signs ["many", "thing"] []
  c_is_signs : Addr
  P_is_signs : Addr
  cd_is_signs : fd_is_signs.code = .ref c_is_signs
  f_is_net : Addr
  fd_is_net : FuncData
  F_is_net : Fun K "is_net" "is_net" s_is_net f_is_net fd_is_net
  g_is_net : mg "is_net" = some (.ref f_is_net)
  b_is_net : Binds K fd_is_net ["thing"] []
  c_is_net : Addr
  P_is_net : Addr
  cd_is_net : fd_is_net.code = .ref c_is_net
  f_is_gate : Addr
  fd_is_gate : FuncData
  F_is_gate : Fun K "is_gate" "is_gate" s_is_gate f_is_gate fd_is_gate
  g_is_gate : mg "is_gate" = some (.ref f_is_gate)
  b_is_gate : Binds K fd_is_gate ["wires", "thing"] []
  c_is_gate : Addr
  P_is_gate : Addr
  cd_is_gate : fd_is_gate.code = .ref c_is_gate
  f_deck : Addr
  fd_deck : FuncData
  F_deck : Fun K "_law_deck" "_law_deck" s_deck f_deck fd_deck
  g_deck : mg "_law_deck" = some (.ref f_deck)
  b_deck : Binds K fd_deck ["_law_script"] []
  f_mixed : Addr
  fd_mixed : FuncData
  F_mixed : Fun K "_law_mixed" "_law_mixed" s_mixed f_mixed fd_mixed
  g_mixed : mg "_law_mixed" = some (.ref f_mixed)
  b_mixed : Binds K fd_mixed ["_law_cell", "_law_k"] []
  f_take : Addr
  fd_take : FuncData
  F_take : Fun K "_law_take" "_law_take" s_take f_take fd_take
  g_take : mg "_law_take" = some (.ref f_take)
  b_take : Binds K fd_take ["_law_deck_here", "_law_most"] []
  f_gate : Addr
  fd_gate : FuncData
  F_gate : Fun K "_law_gate" "_law_gate" s_gate f_gate fd_gate
  g_gate : mg "_law_gate" = some (.ref f_gate)
  b_gate : Binds K fd_gate ["_law_deck_here", "_law_wires", "_law_near"] []
  f_net : Addr
  fd_net : FuncData
  F_net : Fun K "_law_net" "_law_net" s_net f_net fd_net
  g_net : mg "_law_net" = some (.ref f_net)
  b_net : Binds K fd_net ["_law_deck_here"] []
  f_put : Addr
  fd_put : FuncData
  F_put : Fun K "_law_put" "_law_put" s_put f_put fd_put
  g_put : mg "_law_put" = some (.ref f_put)
  b_put : Binds K fd_put ["_law_row", "_law_at", "_law_part"] []
  f_other : Addr
  fd_other : FuncData
  F_other : Fun K "_law_other" "_law_other" s_other f_other fd_other
  g_other : mg "_law_other" = some (.ref f_other)
  b_other : Binds K fd_other ["_law_deck_here", "_law_thing"] []
  f_spoilt : Addr
  fd_spoilt : FuncData
  F_spoilt : Fun K "_law_spoilt" "_law_spoilt" s_spoilt f_spoilt fd_spoilt
  g_spoilt : mg "_law_spoilt" = some (.ref f_spoilt)
  b_spoilt : Binds K fd_spoilt ["_law_deck_here", "_law_thing", "_law_deep"] []
  f_whole : Addr
  fd_whole : FuncData
  F_whole : Fun K "_law_whole" "_law_whole" s_whole f_whole fd_whole
  g_whole : mg "_law_whole" = some (.ref f_whole)
  b_whole : Binds K fd_whole ["_law_thing"] []
  f_in : Addr
  fd_in : FuncData
  F_in : Fun K "_law_in" "_law_in" s_in f_in fd_in
  g_in : mg "_law_in" = some (.ref f_in)
  b_in : Binds K fd_in ["_law_wire", "_law_wires"] []
  f_l_is_gate : Addr
  fd_l_is_gate : FuncData
  F_l_is_gate : Fun K "_law_is_gate" "_law_is_gate" s_l_is_gate f_l_is_gate fd_l_is_gate
  g_l_is_gate : mg "_law_is_gate" = some (.ref f_l_is_gate)
  b_l_is_gate : Binds K fd_l_is_gate ["_law_thing", "_law_wires"] []
  f_l_is_net : Addr
  fd_l_is_net : FuncData
  F_l_is_net : Fun K "_law_is_net" "_law_is_net" s_l_is_net f_l_is_net fd_l_is_net
  g_l_is_net : mg "_law_is_net" = some (.ref f_l_is_net)
  b_l_is_net : Binds K fd_l_is_net ["_law_thing"] []
  f_right : Addr
  fd_right : FuncData
  F_right : Fun K "_law_right" "_law_right" s_right f_right fd_right
  g_right : mg "_law_right" = some (.ref f_right)
  b_right : Binds K fd_right ["_law_thing"] []
  f_long_right : Addr
  fd_long_right : FuncData
  F_long_right : Fun K "_law_long_right" "_law_long_right" s_long_right f_long_right fd_long_right
  g_long_right : mg "_law_long_right" = some (.ref f_long_right)
  b_long_right : Binds K fd_long_right ["_law_deck_here"] []
  f_law : Addr
  fd_law : FuncData
  F_law : Fun K "law" "law" s_law f_law fd_law
  g_law : mg "law" = some (.ref f_law)
  b_law : Binds K fd_law ["_law_script"] []
  m_all : mg "all" = none
  m_bool : mg "bool" = none
  m_enumerate : mg "enumerate" = none
  m_int : mg "int" = none
  m_isinstance : mg "isinstance" = none
  m_len : mg "len" = none
  m_list : mg "list" = none
  m_min : mg "min" = none
  m_range : mg "range" = none
  m_repr : mg "repr" = none
  m_reversed : mg "reversed" = none
  m_str : mg "str" = none
  m_sum : mg "sum" = none
  m_tuple : mg "tuple" = none
  k_MOST_INPUTS : ∃ t, mg "MOST_INPUTS" = some (.int 6 t)
  k_MOST_INS : ∃ t, mg "MOST_INS" = some (.int 3 t)
structure Tb (base : Heap) {K : PySem.W.Frag} {mg : Str → Option Value} (T : Tx K mg) : Prop where
  TB_is_signs : GxR.TabB base mg T.c_is_signs T.P_is_signs
  TB_is_net : GxR.TabB base mg T.c_is_net T.P_is_net
  TB_is_gate : GxR.TabB base mg T.c_is_gate T.P_is_gate
def Tx.tabs {K : PySem.W.Frag} {mg : Str → Option Value} (T : Tx K mg) : List Addr := [T.P_is_signs, T.P_is_net, T.P_is_gate]
/-! ### generator expressions whose elements may call -/
theorem inv_moved {X : Cx} {cp : List (Addr × Obj)} {σ : L2.St} {H : Hp} {s s' : Shared} (I : Inv X cp σ H s) (os : s'.os = s.os) (bare : AllBare s'.gens) (k : ∀ b o, s.heap.get? b = some o → s'.heap.get? b = some o) : Inv X cp σ H s' :=
  I.call' (ch := []) os (Un.kept k) (I.hok.kept k) bare fun b hb => absurd hb (by simp)
/-- the context of a generator expression's frame: C its frame, s, H the entry, fp its iterator's objects -/
abbrev gblk (X : Cx) (A : Around) (s : Shared) (H : Hp) (cenv : Env) (fp : List Addr) : Cx :=
  { X with A := A, s_0 := s, H_0 := H, env := cenv, outer := X.stack, stack := cenv :: X.stack, ex := fp, fn := fun _ => false, pn := [], xe := fun _ _ => False }
section
variable {X : Cx} {pins : List (Addr × Obj)} {σ : L2.St} {H : Hp} {s : Shared}
theorem gen_start {scope : Scope} {own : List (Str × Nat)} {fp : List Addr} {A : Around} {code it : Value} {s5 : Shared} {cp : List (Addr × Obj)}
    (I : Inv X pins σ H s) (ok : BlkOk X.N X.env.scope scope own) (nocell : ∀ y ∈ scope.names, y.2 ≠ .cell) (hN : X.N.Nodup) (hfp : ∀ b ∈ fp, FpOk X pins H b ∧ b < s.heap.objs.size)
    (hh : A.handled = none) (hfr : A.frames = some (genEnv scope (cloFrom X.env.cells scope.names []) s.heap.objs.size code builtinsNs X.env :: X.stack))
    (os : s5.os = s.os) (bare : AllBare s5.gens) (kp : ∀ b o, s.heap.get? b = some o → s5.heap.get? b = some o)
    (hns : s5.heap.Ns s.heap.objs.size fun y => if y = ".0" then some it else none)
    (hcp : ∀ p ∈ cp, s.heap.objs.size < p.1 ∧ s5.heap.get? p.1 = some p.2 ∧ ∀ v, p.2.data ≠ .cell v) :
    Inv (gblk X A s H (genEnv scope (cloFrom X.env.cells scope.names []) s.heap.objs.size code builtinsNs X.env) fp) cp (wipe σ (own.map (·.2))) H s5 := by
  have hfree : ∀ y ∈ scope.names, y.2 = .free → ∃ c, X.env.cells.lookup y.1 = some c := fun y hy e => by
    rcases ok.free y hy e with k | k
    · exact I.ok.has _ (.inl k)
    · exact I.ok.has _ (.inr k)
  generalize hcenv : genEnv scope (cloFrom X.env.cells scope.names []) s.heap.objs.size code builtinsNs X.env = cenv at hfr ⊢
  have hL : cenv.locals = s.heap.objs.size := by rw [← hcenv]; rfl
  have hcl : cenv.cells = cloFrom X.env.cells scope.names [] := by rw [← hcenv]; rfl
  have hsc : cenv.scope = scope := by rw [← hcenv]; rfl
  have cm : ∀ {y c}, (y, c) ∈ cloFrom X.env.cells scope.names [] → X.env.cells.lookup y = some c ∧ c < s.heap.objs.size := fun {y c} hm => by
    rcases cloFrom_mem hm with hm | ⟨h1, rfl⟩
    · cases hm
    · obtain ⟨c, hc⟩ := hfree _ h1 rfl
      rw [hc]
      obtain ⟨w, z⟩ := I.cell _ _ hc
      exact ⟨rfl, z.lt⟩
  have mem : ∀ {y c}, cenv.cells.lookup y = some c → X.env.cells.lookup y = some c ∧ c < s.heap.objs.size := fun {y c} e => by
    rw [hcl] at e
    exact cm (PySem.mem_of_lookup e)
  have look : ∀ {y}, scope.names.lookup y = some .free → ∃ c, cenv.cells.lookup y = some c ∧ X.env.cells.lookup y = some c := fun {y} hl => by
    have hy : (y, NameKind.free) ∈ scope.names := PySem.mem_of_lookup hl
    obtain ⟨c', e'⟩ := mem_lookup (cloFrom_has (cells := X.env.cells) (acc := []) hy)
    rw [← hcl] at e'
    exact ⟨c', e', (mem e').1⟩
  have okB : (gblk X A s H cenv fp).Ok := by
    refine ⟨I.ok.mod, by show cenv.scope.kind = _; rw [hsc]; exact ok.kind, by show cenv.globals = _; rw [← hcenv]; exact I.ok.glob, by show cenv.builtins = _; rw [← hcenv]; rfl, by show s.heap.objs.size ≤ cenv.locals; rw [hL]; exact Nat.le_refl _,
      fun y z c e1 e2 => I.ok.inj y z c (mem e1).1 (mem e2).1, fun y hy => ?_, fun y c z e => (by cases z), fun _ => hh, hfr, .inr ⟨rfl, by show cenv.frame = some cenv.locals; rw [← hcenv]; rfl⟩, fun b hb => ⟨?_, fun y c e z => ?_⟩, I.bs, Nat.le_trans I.ok.bsz I.sz, fun b o e hb => ?_, fun b hb z => ?_, I.stack, I.stkFree⟩
    · have hy' : scope.names.lookup y = some .cell ∨ scope.names.lookup y = some .free := by
        rw [← hsc]
        exact hy
      rcases hy' with e | e
      · exact absurd rfl (nocell _ (PySem.mem_of_lookup e))
      · obtain ⟨c, h1, _⟩ := look e
        exact ⟨c, h1⟩
    · show b ≠ cenv.locals
      rw [hL]; exact Nat.ne_of_lt (hfp b hb).2
    · exact (hfp b hb).1.2.2.2.2.1 y c (mem e).1 z
    · rcases (hfp b hb).1.2.2.2.1 with z | z
      · exact I.ok.noex b o e z
      · exact absurd (Nat.lt_of_lt_of_le (Heap.lt_size e) (Nat.le_trans I.ok.bsz z)) (Nat.lt_irrefl _)
    · rcases List.mem_cons.mp (I.stkSub b z) with z | z
      · exact (hfp b hb).1.2.1 z
      · exact (hfp b hb).1.2.2.1 z
  refine ⟨okB, os, bare, Un.kept kp, ⟨_, (by show s5.heap.Ns cenv.locals _; rw [hL]; exact hns), fun i y av e1 e2 e3 => ?_⟩, fun y c e => ?_, ?_, fun y c e => I.freeC y c (mem e).1, fun p hp => ?_, I.hok.kept kp, by rw [wipe_length]; exact I.len⟩
  · obtain ⟨e2, hne⟩ := wipe_some e2
    have e3 : Vis scope y := by rw [← hsc]; exact e3
    have no : ∀ k, scope.names.lookup y = some k → ¬ (k = .local ∨ k = .cell) := fun k e hh => by
      rcases ok.own _ (PySem.mem_of_lookup e) hh with e' | e'
      · obtain ⟨p, hp, hpy⟩ := List.mem_map.mp e'
        have e3 := ok.ix p hp
        have : p.1 = y := hpy
        rw [this] at e3
        exact hne (List.mem_map.mpr ⟨p, hp, nodup_ix hN e3 e1⟩)
      · exact e' (List.mem_of_getElem? e1)
    have hfr2 : scope.names.lookup y = some .free := by
      rcases e3 with e | e | e
      · exact absurd (.inl rfl) (no _ e)
      · exact absurd (.inr rfl) (no _ e)
      · exact e
    obtain ⟨m, hn, hl⟩ := I.loc
    have hvis : Vis X.env.scope y := (ok.free _ (PySem.mem_of_lookup hfr2) rfl).elim (fun k => .inr (.inl k)) (fun k => .inr (.inr k))
    obtain ⟨w, r, q⟩ := hl i y av e1 e2 hvis
    refine ⟨w, r, .inr ⟨.inr (by show cenv.scope.names.lookup y = some .free; rw [hsc]; exact hfr2), ?_⟩⟩
    obtain ⟨c, h1, h2⟩ := look hfr2
    rcases q with ⟨k, _⟩ | ⟨_, c', e', z⟩
    · have k : X.env.scope.names.lookup y = some .local := k
      rcases ok.free _ (PySem.mem_of_lookup hfr2) rfl with k' | k' <;> rw [show X.env.scope.names.lookup y = _ from k'] at k <;> cases k
    · rw [h2] at e'; cases e'
      exact ⟨c, h1, z.keeps kp⟩
  · obtain ⟨w, z⟩ := I.cell y c (mem e).1
    exact ⟨w, z.keeps kp⟩
  · show H cenv.locals = none
    rw [hL]; exact I.hok.fresh (Nat.le_refl _)
  · have hp : p ∈ cp := by simpa using hp
    obtain ⟨h1, h2, h3⟩ := hcp p hp
    refine ⟨h2, I.hok.fresh (Nat.le_of_lt h1), by show p.1 ≠ cenv.locals; rw [hL]; exact Nat.ne_of_gt h1, fun z => ?_, h3⟩
    rcases List.mem_cons.mp (I.stkSub _ z) with z | z
    · exact absurd (Nat.lt_trans I.lt h1) (by rw [z]; exact Nat.lt_irrefl _)
    · exact I.nofs (Nat.le_of_lt h1) z
end
/-! ### the talk of a generator and who asks it -/
section
variable {α : Type}
/-- handed out: x; the asker's state a (laid down in the pins cp) goes to one with Nx -/
def YG (Xg : Cx) (fp : List Addr) (tn : Nat → Heap → Prop) (AC : α → List (Addr × Obj) → Prop) (Yd : α → V → Hp → (α → Hp → Prop) → Prop) : Protocol := fun _ s0 v s kap =>
  ∃ (a : α) (x : V) (σ : L2.St) (H : Hp) (i : Nat) (cp : List (Addr × Obj)) (Nx : α → Hp → Prop), RelV x v ∧ AC a cp ∧ (∀ p ∈ cp, s0.heap.get? p.1 = some p.2) ∧ Inv Xg cp σ H s ∧ tn i s.heap ∧ (∀ b ∈ fp, H b = none) ∧ Yd a x H Nx ∧
    ∀ a' cp' s', Nx a' H → AC a' cp' → Inv Xg cp' σ H s' → tn i s'.heap → kap (.send .none) s'
def RG (Xg : Cx) (AC : α → List (Addr × Obj) → Prop) (End : α → Hp → Prop) : GenEnd := fun _ s0 r s =>
  ((r = .ok (.ret .none) ∨ r = .ok .next) ∧ ∃ (a : α) (σ : L2.St) (H : Hp) (cp : List (Addr × Obj)), AC a cp ∧ (∀ p ∈ cp, s0.heap.get? p.1 = some p.2) ∧ Inv Xg cp σ H s ∧ End a H) ∨ ∃ e, r = .error e ∧ False
/-- a generator's turns -/
def tGx (J : It) (g : TG) (tt : TT) (te : TE) (σ0 : L2.St) (vs : List Nat) (End : α → Hp → Prop) (Yd : α → V → Hp → (α → Hp → Prop) → Prop) (W : Nat → Nat → α → Hp → Prop) : Prop :=
  ∀ i m a H, W i m a H → (J.stop i H ∧ End a H) ∨ (J.go i H ∧ ∃ Nx : α → Hp → Prop, (∀ a' H', Nx a' H' → ∃ m', m' < m ∧ W (i + 1) m' a' H') ∧
    ∀ x H', J.yld i H x H' → g x σ0 H' fun σ2 H2 => wipe σ2 vs = σ0 ∧ tt σ2 H2 fun b H3 => if b = true then te σ2 H3 fun y H4 => Yd a y H4 Nx else Nx a H3)
theorem wipe_wipe_some {σ σ2 : L2.St} {vs : List Nat} (h : wipe σ2 vs = σ) : ∀ (j : Nat) v, σ[j]? = some (some v) → σ2[j]? = some (some v) := fun j v e => by
  rw [← h] at e
  exact (wipe_some e).1
theorem seg_gx {X : Cx} {A A' : Around} {s_0 : Shared} {H_0 : Hp} {elt tg iter : Expr} {ifs : List Expr} {scope : Scope} {pos : Pos} {it : Addr} {fp : List Addr} {tn : Nat → Heap → Prop} {J : It} {cenv : Env} {g : TG} {tt : TT} {te : TE} {σ0 : L2.St} {vs : List Nat}
    {AC : α → List (Addr × Obj) → Prop} {End : α → Hp → Prop} {Yd : α → V → Hp → (α → Hp → Prop) → Prop} {W : Nat → Nat → α → Hp → Prop}
    (hA : A.over (.compLoop (.GeneratorExp elt [⟨tg, iter, ifs, 0⟩] scope pos) 0 (.ref it) .none cenv) [] = A') (hc : X.calm = true) (hco : cenv.scope.isCoroutine = false)
    (T : Turn X.prog X.w X.K tg J fp it tn) (pg : PG (gblk X A' s_0 H_0 cenv fp) tg g) (pt : PTs (gblk X A' s_0 H_0 cenv fp) ifs tt) (pe : PE (gblk X A' s_0 H_0 cenv fp) elt te)
    (hAC : ∀ a cp, AC a cp → ∀ p ∈ cp, ∀ b ∈ fp, p.1 ≠ b) (turn : tGx J g tt te σ0 vs End Yd W) :
    ∀ (m n i : Nat) (a : α) (H : Hp) (s₀ s : Shared) (cp : List (Addr × Obj)), m < n → W i m a H → AC a cp → (∀ p ∈ cp, s₀.heap.get? p.1 = some p.2) → Inv (gblk X A' s_0 H_0 cenv fp) cp σ0 H s → tn i s.heap → (∀ b ∈ fp, H b = none) →
      Seg (model X.prog X.w) A (RG (gblk X A' s_0 H_0 cenv fp) AC End) (YG (gblk X A' s_0 H_0 cenv fp) fp tn AC Yd) n s₀
        (.compLoop (.GeneratorExp elt [⟨tg, iter, ifs, 0⟩] scope pos) 0 (.ref it) .none cenv)
        ((model X.prog X.w).den (.compLoop (.GeneratorExp elt [⟨tg, iter, ifs, 0⟩] scope pos) 0 (.ref it) .none cenv)) [] s := by
  have stat : ∀ {a : α} {cp : List (Addr × Obj)} {σ' : L2.St} {H' : Hp} {s' : Shared}, AC a cp → Inv (gblk X A' s_0 H_0 cenv fp) cp σ' H' s' → (∀ b ∈ fp, H' b = none) → ∀ b ∈ fp, FpOk (gblk X A' s_0 H_0 cenv fp) cp H' b := fun {a cp σ' H' s'} hac I' hn b hb =>
    ⟨hn b hb, (I'.ok.exf b hb).1, I'.ok.exfs b hb, .inl hb, fun x c e => (I'.ok.exf b hb).2 x c e, fun p hp => hAC a cp hac p (by simpa using hp) b hb⟩
  intro m
  induction m using Nat.strongRecOn with
  | ind m ih =>
    intro n i a H s₀ s cp hmn w hac tie I st nf
    show Seg _ A _ _ _ s₀ _ ((compTurn (.GeneratorExp elt [⟨tg, iter, ifs, 0⟩] scope pos) 0 (.ref it) .none cenv).onRaise (leaving cenv)) [] s
    rw [compTurn_gen, Sem.onRaise_eq_wrap]
    refine seg_bind_wrap (wpAny_standAt ?_)
    rcases turn i m a H w with ⟨stop, hend⟩ | ⟨go, Nx, hNx, step⟩
    · refine seg_bind_wrap ?_
      rw [hA]
      refine thnF (T.done (gblk X A' s_0 H_0 cenv fp) rfl rfl rfl hc i cp s σ0 H (fun _ _ => False) I (stat hac I nf) st stop) fun r s1 ⟨hr, I1⟩ => ?_
      subst hr
      exact seg_end (.ok .next) (.inl ⟨.inr rfl, a, _, H, cp, hac, tie, I1, hend⟩)
    · refine seg_bind_wrap ?_
      rw [hA]
      refine thnF (T.item (gblk X A' s_0 H_0 cenv fp) rfl rfl rfl hc i cp s σ0 H (fun _ _ => False) I (stat hac I nf) st go) fun r s1 ⟨u, hr, h1⟩ => ?_
      subst hr
      refine seg_bind_wrap ?_
      rw [hA]
      refine thnF h1 fun _ s2 ⟨x, H2, I2, r2, y2, st2, n2⟩ => ?_
      have I2' := I2.pinned (stat hac I2 n2) (T.obj _ _ st2)
      refine seg_bind_wrap ?_
      rw [hA]
      refine thnF (pg.run _ s2 _ H2 x u _ I2' r2 (step x H2 y2)) fun _ s3 ⟨σ3, H3, I3, hw3, q3⟩ => ?_
      refine seg_bind_wrap ?_
      rw [hA]
      refine thnF (pt.run _ s3 σ3 H3 _ I3 q3) fun b s4 ⟨H4, I4, q4⟩ => ?_
      have hl : σ0.length = σ3.length := by rw [← hw3, wipe_length]
      have fin : ∀ {s' : Shared} {H' : Hp}, Inv (gblk X A' s_0 H_0 cenv fp) (cp ++ pinsAt fp s2.heap) σ3 H' s' → Inv (gblk X A' s_0 H_0 cenv fp) cp σ0 H' s' ∧ tn (i + 1) s'.heap ∧ ∀ b ∈ fp, H' b = none := fun {s' H'} I' => by
        have pin' : ∀ b ∈ fp, ∀ o, s2.heap.get? b = some o → s'.heap.get? b = some o ∧ H' b = none := fun b hb o e =>
          let z := I'.pin (b, o) (List.mem_append_right _ (List.mem_append_right _ (mem_pinsAt hb e)))
          ⟨z.1, z.2.1⟩
        refine ⟨(I'.unpinned (pins := cp)).weak hl (wipe_wipe_some hw3), T.keep _ _ _ st2 fun b hb o e => (pin' b hb o e).1, fun b hb => ?_⟩
        obtain ⟨o, e, _⟩ := T.obj _ _ st2 b hb
        exact (pin' b hb o e).2
      cases b with
      | false =>
        simp only [Bool.false_eq_true, if_false] at q4 ⊢
        obtain ⟨m', hm, w'⟩ := hNx a H4 q4
        obtain ⟨J1, J2, J3⟩ := fin I4
        exact seg_again rfl (ih m' hm n (i + 1) a H4 s₀ s4 cp (by omega) w' hac tie J1 J2 J3)
      | true =>
        simp only [if_true] at q4 ⊢
        have hy : ∀ v, yieldOut cenv v = yieldValue v := fun v => by simp only [yieldOut, hco, Bool.false_eq_true, if_false]
        simp only [hy]
        rw [Sem.bind_eq_wrap', Sem.bind_eq_wrap', Sem.wrap_wrap, Sem.wrap_wrap]
        refine seg_wrap ?_
        rw [hA]
        refine thnF (pe.run _ s4 σ3 H4 _ I4 q4) fun yv s5 ⟨y, H5, I5, r5, q5⟩ => ?_
        obtain ⟨J1, J2, J3⟩ := fin I5
        -- at least one more
        cases n with
        | zero => exact absurd hmn (Nat.not_lt_zero _)
        | succ n =>
          refine seg_at (seg_yield rfl rfl rfl ⟨a, y, σ0, H5, i + 1, cp, Nx, r5, hac, tie, J1, J2, J3, q5, fun a' cp' s' nx hac' I' st' => ?_⟩)
          obtain ⟨m', hm, w'⟩ := hNx a' H5 nx
          exact seg_again rfl (ih m' hm n (i + 1) a' H5 s' s' cp' (by omega) w' hac' (fun p hp => (I'.pin p (List.mem_append_right _ hp)).1) I' st' J3)
end
/-! ### a generator that is made -/
section
variable {X : Cx} {pins : List (Addr × Obj)} {σ : L2.St} {H : Hp} {s : Shared}
def GenObj (o : Obj) (g : Nat) : Prop := ∃ nm qn, o.cls = .type "generator" ∧ o.data = .fields #[.int g 0, nm, qn] ∧ o.slots = #[]
theorem GenObj.isGen {o : Obj} {g : Nat} (h : GenObj o g) {a : Addr} {hp : Heap} (e : hp.get? a = some o) : hp.IsGen a g := by
  obtain ⟨nm, qn, h1, h2, h3⟩ := h
  exact ⟨o, nm, qn, e, h1, h2, h3⟩
/-- the generator u, made and not begun, in the state s5 -/
def Gx (X : Cx) (pins : List (Addr × Obj)) (σ : L2.St) (A : Around) (J : It) (g : TG) (tt : TT) (te : TE) (vs : List Nat) (H4 : Hp) (u : Value) (s5 : Shared) : Prop :=
  ∃ (A' : Around) (s_0 : Shared) (H_0 : Hp) (cenv : Env) (fp : List Addr) (ga : Addr) (gn : Nat) (go : Obj) (tn : Nat → Heap → Prop) (gs : GenState),
    u = .ref ga ∧ GenObj go gn ∧ s5.gens[gn]? = some gs ∧ gs.bare = true ∧ Inv (gblk X A' s_0 H_0 cenv fp) [(ga, go)] (wipe σ vs) H4 s5 ∧ tn 0 s5.heap ∧ (∀ b ∈ fp, H4 b = none) ∧ (∀ b ∈ fp, b < ga) ∧
    (∀ i h h', tn i h → (∀ b ∈ fp, ∀ o, h.get? b = some o → h'.get? b = some o) → tn i h') ∧ (∀ cp σ' H' s', Inv (gblk X A' s_0 H_0 cenv fp) cp σ' H' s' → Inv X pins σ H' s') ∧
    ∀ (α : Type) (AC : α → List (Addr × Obj) → Prop) (End : α → Hp → Prop) (Yd : α → V → Hp → (α → Hp → Prop) → Prop) (W : Nat → Nat → α → Hp → Prop) (m n : Nat) (a : α) (cp : List (Addr × Obj)) (s' : Shared),
      tGx J g tt te (wipe σ vs) vs End Yd W → W 0 m a H4 → m < n → (∀ a cp, AC a cp → ∀ p ∈ cp, ∀ b ∈ fp, p.1 ≠ b) → AC a cp → Inv (gblk X A' s_0 H_0 cenv fp) cp (wipe σ vs) H4 s' → tn 0 s'.heap →
      gs.Goes (model X.prog X.w) A (RG (gblk X A' s_0 H_0 cenv fp) AC End) (YG (gblk X A' s_0 H_0 cenv fp) fp tn AC Yd) n (.send .none) s'
/-- what stands about an asker -/
structure Near (A B : Around) : Prop where
  hd : B.handled = A.handled
  fr : B.frames = A.frames
  gd : B.guards = A.guards
  dp : B.depth = A.depth
  un : B.units ≤ A.units + 8
theorem gx_make {c P : Addr} {elt tg iter : Expr} {ifs : List Expr} {gpos : Pos} {scope : Scope} {own : List (Str × Nat)} {wi : TI} {g : TG} {tt : TT} {te : TE} {k : Nat} {Q' : Value → Shared → Prop} {R : It → Hp → Prop} {A : Around}
    (hr : Room (k + 1) X.A) (near : Near X.A A) (hc : X.calm = true) (hN : X.N.Nodup) (TB : GxR.TabB X.base X.mg c P) (hcode : X.env.code = .ref c) (hco : scope.isCoroutine = false) (hdot : scope.names.lookup (".0" : Str) = some NameKind.local)
    (nocell : ∀ y ∈ scope.names, y.2 ≠ .cell) (ok : BlkOk X.N X.env.scope scope own) (hi : PI X tg iter wi)
    (hg : ∀ (A' : Around) (s : Shared) (H : Hp) (C : Addr) (cl : List (Str × Addr)) (code : Value) (fp : List Addr), Room k A' → A'.guards = X.A.guards → PG (gblk X A' s H (genEnv scope cl C code builtinsNs X.env) fp) tg g)
    (ht : ∀ (A' : Around) (s : Shared) (H : Hp) (C : Addr) (cl : List (Str × Addr)) (code : Value) (fp : List Addr), Room k A' → A'.guards = X.A.guards → PTs (gblk X A' s H (genEnv scope cl C code builtinsNs X.env) fp) ifs tt)
    (he : ∀ (A' : Around) (s : Shared) (H : Hp) (C : Addr) (cl : List (Str × Addr)) (code : Value) (fp : List Addr), Room k A' → A'.guards = X.A.guards → PE (gblk X A' s H (genEnv scope cl C code builtinsNs X.env) fp) elt te)
    (hs : ∀ v, genFold iter X.env v = pure v) (I : Inv X pins σ H s) (h : wi σ H fun J H1 => GxR.TabG H1 P ∧ R J H1)
    (hQ : ∀ J H1 H2 u s5, R J H1 → GxR.Tabbed P H1 H2 → Gx X pins σ A J g tt te (own.map (·.2)) H2 u s5 → Q' u s5) :
    wpAny (model X.prog X.w) X.A (eval (.GeneratorExp elt [⟨tg, iter, ifs, 0⟩] scope gpos) X.env) Q' X.xe s := by
  have hfree : ∀ y ∈ scope.names, y.2 = .free → ∃ c, X.env.cells.lookup y.1 = some c := fun y hy e => by
    rcases ok.free y hy e with k | k
    · exact I.ok.has _ (.inl k)
    · exact I.ok.has _ (.inr k)
  refine wpAny_GeneratorExp_make hco (closure_ok hfree) nocell hdot ok.kind (by have := hr.dp; omega) ?_ hs
  refine thn (hi.run pins s σ H _ I h) fun xv s1 hx => thn hx fun itv s2 h2 => ?_
  obtain ⟨it, fp, tn, J, H2, rfl, I2, T, st2, f2, ⟨ps, hP, ht3⟩, q⟩ := h2
  refine ⟨I2.nolimit, ?_⟩
  have hPs : s2.heap.get? P = some { cls := .none, data := .fields ps } := I2.hok P _ hP
  have cd : PySem.W.CodeHd s2.heap c P := TB.code.keeps fun b u e => I2.bk b u e
  have nP : ∀ b, H2 b = none → b ≠ P := fun b e z => by
    rw [z, hP] at e
    cases e
  have cont : ∀ (code : Value) (h3 : Heap) (tk : Nat) (ps' : Array Value), Heap.ExtBut P s2.heap h3 → s2.heap.objs.size ≤ h3.objs.size → h3.get? P = some { cls := .none, data := .fields ps' } → (∃ more, ps' = ps ++ more) → TriplesOk ps'.toList →
      wpAny (model X.prog X.w) X.A (builtinsFor X.env.globals X.env.builtins) (fun bi s₄ =>
        ∀ h', h'.Ns s₄.heap.objs.size (fun y => if y = ".0" then some (Value.ref it) else none) → Heap.SameBut s₄.heap.objs.size (s₄.heap.push { cls := .type "frame", data := .dict #[] }) h' →
          Q' (.ref h'.objs.size) { s₄ with
            gens := s₄.gens.push (.fresh (.compStart (.GeneratorExp elt [⟨tg, iter, ifs, 0⟩] scope gpos) 0 (.ref it) .none (genEnv scope (cloFrom X.env.cells scope.names []) s₄.heap.objs.size code bi X.env))),
            toks := s₄.toks + 1 + 1 + 1,
            heap := h'.push { cls := .type "generator", data := .fields #[.int s₄.gens.size 0, .str "<genexpr>" (s₄.toks + 1), .str (X.env.qual ++ "<genexpr>") (s₄.toks + 1 + 1)] } }) X.xe { s2 with heap := h3, toks := tk } := by
    rintro code h3 tk ps' hx hsz hP3 ⟨more, rfl⟩ ht4
    obtain ⟨bm, ob, e1, e2, e3, e4, e5, e6, e7, e8⟩ := TB.bm
    refine wpAny_builtinsFor (m := X.mg) (by rw [I2.ok.glob]; exact (I2.mod.glob.keeps I2.bk).extBut hx TB.gP) e1 e2 (hx _ _ e4 (I2.bk _ _ e5)) e6 e7 e8 ?_
    intro h' hns hsb
    have I3 : Inv X pins σ (upd H2 P (.tbl (ps ++ more))) { s2 with heap := h3, toks := tk } := GxR.inv_tab (g' := s2.gens) (d' := s2.drawn) I2 hP (fun b o hb e => hx b o hb e) hP3 I2.bare
    have lt2 : ∀ b ∈ fp, b < s2.heap.objs.size := fun b hb => by
      obtain ⟨o, e, _⟩ := T.obj _ _ st2 b hb
      exact Heap.lt_size e
    have f3 : ∀ b ∈ fp, FpOk X pins (upd H2 P (.tbl (ps ++ more))) b ∧ b < ({ s2 with heap := h3, toks := tk } : Shared).heap.objs.size := fun b hb => by
      refine ⟨⟨?_, (f2 b hb).2⟩, Nat.lt_of_lt_of_le (lt2 b hb) hsz⟩
      rw [upd_ne (nP b (f2 b hb).1)]
      exact (f2 b hb).1
    have st3 : tn 0 h3 := T.keep _ _ _ st2 fun b hb o e => hx b o (nP b (f2 b hb).1) e
    generalize hs4 : ({ s2 with heap := h3, toks := tk } : Shared) = s4 at I3 f3 hns hsb ⊢
    have h4 : s4.heap = h3 := by rw [← hs4]
    have hsz4 : h'.objs.size = s4.heap.objs.size + 1 := by rw [hsb.1, Heap.size_push]
    have keep' : ∀ b o, s4.heap.get? b = some o → h'.get? b = some o := fun b o e => hsb.extBut b o (Nat.ne_of_lt (Heap.lt_size e)) (Heap.get?_push_of_some _ e)
    generalize hgo : ({ cls := .type "generator", data := .fields #[.int s4.gens.size 0, .str "<genexpr>" (s4.toks + 1), .str (X.env.qual ++ "<genexpr>") (s4.toks + 1 + 1)] } : Obj) = go
    have hGO : GenObj go s4.gens.size := by rw [← hgo]; exact ⟨_, _, rfl, rfl, rfl⟩
    have k5 : ∀ b o, s4.heap.get? b = some o → (h'.push go).get? b = some o := fun b o e => Heap.get?_push_of_some _ (keep' b o e)
    have pg := fun A' => hg A' s4 (upd H2 P (.tbl (ps ++ more))) s4.heap.objs.size (cloFrom X.env.cells scope.names []) code fp
    have pt := fun A' => ht A' s4 (upd H2 P (.tbl (ps ++ more))) s4.heap.objs.size (cloFrom X.env.cells scope.names []) code fp
    have pe := fun A' => he A' s4 (upd H2 P (.tbl (ps ++ more))) s4.heap.objs.size (cloFrom X.env.cells scope.names []) code fp
    generalize hce : genEnv scope (cloFrom X.env.cells scope.names []) s4.heap.objs.size code builtinsNs X.env = cenv at pg pt pe ⊢
    have hscn : cenv.scope = scope := by rw [← hce]; rfl
    generalize hA' : A.over (.compLoop (.GeneratorExp elt [⟨tg, iter, ifs, 0⟩] scope gpos) 0 (.ref it) .none cenv) [] = A'
    have hfrA : A'.frames = some (cenv :: X.stack) := by
      rw [← hA']
      show pushEnvs [cenv] A.frames = _
      rw [near.fr, I2.ok.frames]
      rfl
    have hhd : A'.handled = none := by
      rw [← hA']
      show A.handled = none
      rw [near.hd]
      exact hr.hd
    have rm : Room k A' := by
      refine ⟨hhd, ?_, ?_⟩
      · have := hr.dp
        have := near.dp
        rw [← hA']
        show A.depth + 0 + 1 + 3 * k + 5 < _
        omega
      · have := hr.un
        have := near.un
        rw [← hA']
        show A.units + 0 + 3 + 16 * k + 200 < _
        omega
    have gdA : A'.guards = X.A.guards := by
      rw [← hA']
      show pushGuards [] A.guards = _
      rw [near.gd]
      rfl
    have I5 : Inv (gblk X A' s4 (upd H2 P (.tbl (ps ++ more))) cenv fp) [(h'.objs.size, go)] (wipe σ (own.map (·.2))) (upd H2 P (.tbl (ps ++ more)))
        { s4 with gens := s4.gens.push (.fresh (.compStart (.GeneratorExp elt [⟨tg, iter, ifs, 0⟩] scope gpos) 0 (.ref it) .none cenv)), toks := s4.toks + 1 + 1 + 1, heap := h'.push go } := by
      subst hce
      refine gen_start (it := .ref it) I3 ok nocell hN f3 hhd hfrA rfl (I3.bare.push rfl) k5 (hns.push _) fun p hp => ?_
      have e : p = (h'.objs.size, go) := by simpa using hp
      subst e
      refine ⟨by show s4.heap.objs.size < h'.objs.size; omega, Heap.get?_push_size _ (by rw [← hgo]; rfl), fun v z => ?_⟩
      rw [← hgo] at z
      cases z
    refine hQ J H2 _ _ _ q ⟨⟨_, upd_same, ht4⟩, fun b hb => upd_ne hb⟩ ⟨A', s4, _, cenv, fp, h'.objs.size, s4.gens.size, go, tn, _, rfl, hGO, Array.getElem?_push_size .., rfl, I5, ?_, fun b hb => (f3 b hb).1.1, fun b hb => ?_, T.keep, fun cp σ' H' s' I' => ?_, ?_⟩
    · exact T.keep _ _ _ st3 fun b _ o e => k5 b o (by rw [h4]; exact e)
    · have := (f3 b hb).2
      rw [hsz4]
      exact Nat.lt_succ_of_lt this
    · exact I3.call' (ch := fp) I'.os I'.base I'.hok I'.bare fun b hb => ⟨(f3 b hb).1.2.2.2.1, (f3 b hb).1.2.1, (f3 b hb).1.2.2.2.2.1, (f3 b hb).1.2.2.2.2.2⟩
    · intro α AC End Yd W m n a cp s' turn w hmn hAC hac I' st'
      refine ⟨rfl, ?_⟩
      have loop := seg_gx (A := A) (pos := gpos) (iter := iter) (scope := scope) hA' hc (by rw [hscn]; exact hco) T (pg A' rm gdA) (pt A' rm gdA) (pe A' rm gdA) hAC turn m n 0 a _ s' s' cp hmn w hac (fun p hp => (I'.pin p (List.mem_append_right _ hp)).1) I' st' fun b hb => (f3 b hb).1.1
      show Seg _ A _ _ _ s' _ ((compStart (.GeneratorExp elt [⟨tg, iter, ifs, 0⟩] scope gpos) 0 (.ref it) .none cenv).onRaise (leaving cenv)) [] s'
      unfold compStart
      rw [Sem.onRaise_eq_wrap]
      show Seg _ A _ _ _ s' _ ((ask >>= _).wrap _ _ _ _) [] s'
      refine seg_bind_wrap (wpAny_askSetting ?_)
      split
      · exact seg_again rfl loop
      · first
          | exact seg_bind_wrap (wpAny_rule (seg_bind_wrap (wpAny_standAt (seg_bind_wrap (T.self _ 0 s' _ _ st' (seg_again rfl loop))))))
          | (refine seg_bind_wrap (wpAny_rule ?_); show Seg _ A _ _ _ s' _ ((standAt iter.pos >>= _).wrap _ _ _ _) [] s'; exact seg_bind_wrap (wpAny_standAt (seg_bind_wrap (T.self _ 0 s' _ _ st' (seg_again rfl loop)))))
  cases hf : codeAmong gpos ps.toList with
  | none =>
    refine wpAny_genexprCodeX hcode (cd.code hPs ht3) (cd.tab hPs) hf fun c' h' tk hx hge hlt hco' _ htab' _ => ?_
    obtain ⟨o1, vs, f1, tf, fl, tg, inF, tx, tt, op, _, _, _, _, _, _, _, _, _, htr, _⟩ := hco'
    exact cont _ h' tk _ hx (Nat.le_trans hge (Nat.le_of_lt hlt)) htab'.2 ⟨_, rfl⟩ htr
  | some cv =>
    refine wpAny_genexprCode_hit hcode (cd.code hPs ht3) hf ?_
    exact cont cv s2.heap s2.toks ps (Heap.ExtBut.refl _ _) (Nat.le_refl _) hPs ⟨#[], by simp⟩ ht3
end
/-! ### asking -/
section
variable {α : Type} {X : Cx} {A A' : Around} {s_0 : Shared} {H_0 : Hp} {cenv : Env} {fp : List Addr} {tn : Nat → Heap → Prop} {AC : α → List (Addr × Obj) → Prop} {End : α → Hp → Prop} {Yd : α → V → Hp → (α → Hp → Prop) → Prop} {ga : Addr} {gn n : Nat} {go : Obj}
theorem next_gx2 {gs : GenState} {s : Shared} {Q : Option Value → Shared → Prop} {E : Value → Shared → Prop} (hh : A.handled = none) (hroom : A.depth < recursionLimit) (hl : s.heap.NoLimit) (hG : GenObj go gn) (e : s.heap.get? ga = some go) (hgs : s.gens[gn]? = some gs)
    (hgo : gs.Goes (model X.prog X.w) A.in1 (RG (gblk X A' s_0 H_0 cenv fp) AC End) (YG (gblk X A' s_0 H_0 cenv fp) fp tn AC Yd) n (.send .none) (s.setGen gn .running))
    (item : ∀ (a : α) (x : V) (σ : L2.St) (H : Hp) (i : Nat) (cp : List (Addr × Obj)) (Nx : α → Hp → Prop) (v : Value) (s1 : Shared) (gs' : GenState), RelV x v → AC a cp → (∀ p ∈ cp, s.heap.get? p.1 = some p.2) → Inv (gblk X A' s_0 H_0 cenv fp) cp σ H s1 → tn i s1.heap → Yd a x H Nx → s1.gens[gn]? = some gs' →
      (∀ a' cp' s', Nx a' H → AC a' cp' → Inv (gblk X A' s_0 H_0 cenv fp) cp' σ H s' → tn i s'.heap → ∃ m, n = m + 1 ∧ gs'.Goes (model X.prog X.w) A.in1 (RG (gblk X A' s_0 H_0 cenv fp) AC End) (YG (gblk X A' s_0 H_0 cenv fp) fp tn AC Yd) m (.send .none) s') → Q (some v) s1)
    (done : ∀ (a : α) (σ : L2.St) (H : Hp) (cp : List (Addr × Obj)) (s1 : Shared), AC a cp → (∀ p ∈ cp, s.heap.get? p.1 = some p.2) → Inv (gblk X A' s_0 H_0 cenv fp) cp σ H s1 → End a H → Q none s1) :
    wpAny (model X.prog X.w) A (pyNext (.ref ga)) Q E s := by
  have hgl : gn < s.gens.size := (Array.getElem?_eq_some_iff.mp hgs).1
  refine GenW.wpAny_gsz (n := gn + 1) hgl (next_genG (Er := fun _ _ => False) hh hl hroom (hG.isGen e) hgs hgo (fun v s₁ gs' hbare hv => ?_) (fun s₁ hp h' hk => ?_) fun e s₁ he => he.elim)
  · intro hsz
    obtain ⟨a, x, σ, H, i, cp, Nx, r, hac, tie, I, st, nf, hy, kap⟩ := hv
    have hsz1 : gn < s₁.gens.size := by
      have q : (s₁.setGen gn gs').gens.size = s₁.gens.size := GenW.setGen_size _ _ _
      have hsz' : gn + 1 ≤ (s₁.setGen gn gs').gens.size := hsz
      omega
    refine item a x σ H i cp Nx v (s₁.setGen gn gs') gs' r hac tie (inv_moved I rfl (allBare_setGen I.bare hbare) fun _ _ q => q) st hy (setGen_at hsz1) fun a' cp' s' nx hac' I' st' => ?_
    have z := kap a' cp' s' nx hac' I' st'
    cases n with
    | zero => exact z.elim
    | succ m => exact ⟨m, rfl, z⟩
  · intro _
    obtain ⟨a, σ, H, cp, hac, tie, I, q⟩ := hp
    exact done a σ H cp _ hac tie (inv_moved I rfl (allBare_setGen I.bare rfl) hk) q
theorem next_gx {gs : GenState} {s : Shared} {Q : Option Value → Shared → Prop} {E : Value → Shared → Prop} (hh : A.handled = none) (hroom : A.depth < recursionLimit) (hl : s.heap.NoLimit) (hG : GenObj go gn) (e : s.heap.get? ga = some go) (hgs : s.gens[gn]? = some gs)
    (hgo : gs.Goes (model X.prog X.w) A.in1 (RG (gblk X A' s_0 H_0 cenv fp) AC End) (YG (gblk X A' s_0 H_0 cenv fp) fp tn AC Yd) n (.send .none) (s.setGen gn .running))
    (item : ∀ (a : α) (x : V) (σ : L2.St) (H : Hp) (i : Nat) (cp : List (Addr × Obj)) (Nx : α → Hp → Prop) (v : Value) (s1 : Shared) (gs' : GenState), RelV x v → AC a cp → Inv (gblk X A' s_0 H_0 cenv fp) cp σ H s1 → tn i s1.heap → Yd a x H Nx → s1.gens[gn]? = some gs' →
      (∀ a' cp' s', Nx a' H → AC a' cp' → Inv (gblk X A' s_0 H_0 cenv fp) cp' σ H s' → tn i s'.heap → ∃ m, n = m + 1 ∧ gs'.Goes (model X.prog X.w) A.in1 (RG (gblk X A' s_0 H_0 cenv fp) AC End) (YG (gblk X A' s_0 H_0 cenv fp) fp tn AC Yd) m (.send .none) s') → Q (some v) s1)
    (done : ∀ (a : α) (σ : L2.St) (H : Hp) (cp : List (Addr × Obj)) (s1 : Shared), AC a cp → Inv (gblk X A' s_0 H_0 cenv fp) cp σ H s1 → End a H → Q none s1) :
    wpAny (model X.prog X.w) A (pyNext (.ref ga)) Q E s :=
  next_gx2 hh hroom hl hG e hgs hgo (fun a x σ H i cp Nx v s1 gs' r hac _ I st hy at_ kap => item a x σ H i cp Nx v s1 gs' r hac I st hy at_ kap) fun a σ H cp s1 hac _ I q => done a σ H cp s1 hac I q
/-- all(..) asks on -/
theorem all_gx {R : Result → Shared → Prop} {Stop : Hp → Prop} {End : Unit → Hp → Prop} (hh : A.handled = none) (hroom : A.depth < recursionLimit) (hG : GenObj go gn)
    (yes : ∀ (σ : L2.St) (H : Hp) (cp : List (Addr × Obj)) (s1 : Shared), Inv (gblk X A' s_0 H_0 cenv fp) cp σ H s1 → End () H → R (.ok (.ret (.bool true))) s1)
    (no : ∀ (σ : L2.St) (H : Hp) (cp : List (Addr × Obj)) (s1 : Shared), Inv (gblk X A' s_0 H_0 cenv fp) cp σ H s1 → Stop H → R (.ok (.ret (.bool false))) s1) :
    ∀ (n : Nat) (s : Shared), s.heap.NoLimit → s.heap.get? ga = some go → (∃ gs, s.gens[gn]? = some gs ∧ gs.Goes (model X.prog X.w) A.in1.in1 (RG (gblk X A' s_0 H_0 cenv fp) (fun _ cp => cp = [(ga, go)]) End)
      (YG (gblk X A' s_0 H_0 cenv fp) fp tn (fun _ cp => cp = [(ga, go)]) (fun _ y H Nx => ∃ b : Bool, y = .bl b ∧ if b = true then Nx () H else Stop H)) n (.send .none) (s.setGen gn .running)) →
      codeAny (model X.prog X.w) A (.builtin "all.loop" ⟨[.ref ga], []⟩) R s := by
  intro n
  induction n with
  | zero =>
    rintro s hl e ⟨gs, hgs, hgo⟩
    refine codeAny_builtin F.entry_all_loop ?_
    rw [Around.under_plainId F.plain_all_loop _]
    show wpAny _ A.in1 (pyNext (.ref ga) >>= _) _ _ s
    refine wpAny_bind (next_gx (A := A.in1) hh hroom hl hG e hgs hgo (fun a x σ H i cp Nx v s1 gs' r hac I st hy at_ kap => ?_) fun a σ H cp s1 hac I q => ?_)
    · obtain ⟨b, rfl, hb⟩ := hy
      cases (show v = Value.bool b from r)
      refine wpAny_bind (wpAny_holding (wpAny_truthy_bool ?_))
      refine wpAny_bind (wpAny_letGo ?_)
      cases b with
      | true =>
        obtain ⟨m, hm, _⟩ := kap () cp s1 hb hac I st
        cases hm
      | false =>
        simp only [Bool.false_eq_true, if_false] at hb ⊢
        exact wpAny_bind (wpAny_rule (wpAny_pure (no σ H cp s1 I hb)))
    · exact wpAny_bind (wpAny_rule (wpAny_pure (yes σ H cp s1 I q)))
  | succ n ih =>
    rintro s hl e ⟨gs, hgs, hgo⟩
    refine codeAny_builtin F.entry_all_loop ?_
    rw [Around.under_plainId F.plain_all_loop _]
    show wpAny _ A.in1 (pyNext (.ref ga) >>= _) _ _ s
    refine wpAny_bind (next_gx (A := A.in1) hh hroom hl hG e hgs hgo (fun a x σ H i cp Nx v s1 gs' r hac I st hy at_ kap => ?_) fun a σ H cp s1 hac I q => ?_)
    · obtain ⟨b, rfl, hb⟩ := hy
      cases (show v = Value.bool b from r)
      refine wpAny_bind (wpAny_holding (wpAny_truthy_bool ?_))
      refine wpAny_bind (wpAny_letGo ?_)
      cases b with
      | true =>
        simp only [if_true] at hb ⊢
        subst hac
        refine wpAny_pure ⟨plainId_quiet F.plain_all_loop _, ih s1 I.nolimit (I.pin (ga, go) (List.mem_append_right _ List.mem_cons_self)).1 ⟨gs', at_, ?_⟩⟩
        obtain ⟨m, hm, z⟩ := kap () [(ga, go)] (s1.setGen gn .running) hb rfl (inv_moved I rfl (allBare_setGen I.bare rfl) fun _ _ q => q) st
        cases hm
        exact z
      | false =>
        simp only [Bool.false_eq_true, if_false] at hb ⊢
        exact wpAny_bind (wpAny_rule (wpAny_pure (no σ H cp s1 I hb)))
    · exact wpAny_bind (wpAny_rule (wpAny_pure (yes σ H cp s1 I q)))
end
section
variable {X : Cx}
/-- all(elt for tg in iter ..) -/
def tAllX (P : Addr) (wi : TI) (g : TG) (tt : TT) (te : TE) (vs : List Nat) : TE := fun σ H Q => wi σ H fun J H1 => GxR.TabG H1 P ∧ ∀ H2, GxR.Tabbed P H1 H2 → ∃ W : Nat → Nat → Unit → Hp → Prop, (∃ m, W 0 m () H2) ∧
  tGx J g tt te (wipe σ vs) vs (fun _ H => Q (.bl true) H) (fun _ y H Nx => ∃ b : Bool, y = .bl b ∧ if b = true then Nx () H else Q (.bl false) H) W
theorem pe_allX {c P : Addr} {elt tg iter : Expr} {ifs : List Expr} {p pos gpos : Pos} {scope : Scope} {own : List (Str × Nat)} {wi : TI} {g : TG} {tt : TT} {te : TE} {k : Nat}
    (hr : Room (k + 1) X.A) (hc : X.calm = true) (hN : X.N.Nodup) (hgl : Gl X "all") (hm : X.mg "all" = none) (hb : bootBuiltins "all" = some (.builtin "all")) (TB : GxR.TabB X.base X.mg c P) (hcode : X.env.code = .ref c)
    (hco : scope.isCoroutine = false) (hdot : scope.names.lookup (".0" : Str) = some NameKind.local) (nocell : ∀ y ∈ scope.names, y.2 ≠ .cell) (ok : BlkOk X.N X.env.scope scope own) (hi : PI X tg iter wi)
    (hg : ∀ (A' : Around) (s : Shared) (H : Hp) (C : Addr) (cl : List (Str × Addr)) (code : Value) (fp : List Addr), Room k A' → A'.guards = X.A.guards → PG (gblk X A' s H (genEnv scope cl C code builtinsNs X.env) fp) tg g)
    (ht : ∀ (A' : Around) (s : Shared) (H : Hp) (C : Addr) (cl : List (Str × Addr)) (code : Value) (fp : List Addr), Room k A' → A'.guards = X.A.guards → PTs (gblk X A' s H (genEnv scope cl C code builtinsNs X.env) fp) ifs tt)
    (he : ∀ (A' : Around) (s : Shared) (H : Hp) (C : Addr) (cl : List (Str × Addr)) (code : Value) (fp : List Addr), Room k A' → A'.guards = X.A.guards → PE (gblk X A' s H (genEnv scope cl C code builtinsNs X.env) fp) elt te)
    (hs : ∀ v, genFold iter X.env v = pure v)
    (hst : starEach [.GeneratorExp elt [⟨tg, iter, ifs, 0⟩] scope gpos] X.env = (false, eval (.GeneratorExp elt [⟨tg, iter, ifs, 0⟩] scope gpos) X.env) :: starEach [] X.env := by rfl) :
    PE X (.Call (.Name "all" p) [.GeneratorExp elt [⟨tg, iter, ifs, 0⟩] scope gpos] [] pos) (tAllX P wi g tt te (own.map (·.2))) := by
  refine ⟨fun pins s σ H Q I h => ?_⟩
  refine wpAny_Call_Name_kw (ld_blt I hgl hm hb ?_)
  refine PyProof.Rows.callWith_builtin1 ?_ hst (by rfl)
  rw [hst]
  show wpAny _ _ (spliced ((false, eval (.GeneratorExp elt [⟨tg, iter, ifs, 0⟩] scope gpos) X.env) :: backTo pos (starEach [] X.env))) _ _ s
  refine Calls.spliced_cons (gx_make (A := X.A.in1.in1) hr ⟨rfl, rfl, rfl, rfl, (by show X.A.units + 1 + 1 ≤ _; omega)⟩ hc hN TB hcode hco hdot nocell ok hi hg ht he hs I h fun J H1 H2 u s5 hR hT hG => ?_)
  obtain ⟨A', s_0, H_0, cenv, fp, ga, gn, go, tn, gs, rfl, hGO, hgs, hbare, I5, st5, nf, hlt, keep, back, goes⟩ := hG
  obtain ⟨W, ⟨m, w0⟩, turn⟩ := hR H2 hT
  refine Calls.spliced_nil ?_
  have pin5 := (I5.pin (ga, go) (List.mem_append_right _ List.mem_cons_self)).1
  refine call_function_tree F.kind_all F.plain_all F.entry_all (F.args_all1 _) ?_
  unfold Builtin.«all»
  refine wpAny_bind (m := oneArg "all" _) (wpAny_pure ?_)
  refine wpAny_bind (wpAny_pyIter_gen (hGO.isGen pin5) ?_)
  refine wpAny_pure ⟨plainId_quiet F.plain_all_loop _, all_gx (A' := A') (s_0 := s_0) (H_0 := H_0) (cenv := cenv) (fp := fp) (tn := tn) (go := go) (gn := gn) (Stop := fun H => Q (.bl false) H) (End := fun _ H => Q (.bl true) H) hr.hd hr.depth hGO
    (fun σ' H' cp s1 I1 q => ⟨.bl true, H', back _ _ _ _ I1, rfl, q⟩) (fun σ' H' cp s1 I1 q => ⟨.bl false, H', back _ _ _ _ I1, rfl, q⟩) (m + 1) s5 I5.nolimit pin5 ⟨gs, hgs, ?_⟩⟩
  refine goes Unit _ _ _ W m (m + 1) () [(ga, go)] _ turn w0 (Nat.lt_succ_self _) (fun a cp hac p hp b hb z => ?_) rfl (inv_moved I5 rfl (allBare_setGen I5.bare rfl) fun _ _ q => q) st5
  subst hac
  have e : p = (ga, go) := by simpa using hp
  subst e
  exact absurd (hlt b hb) (by rw [← z]; exact Nat.lt_irrefl _)
end
/-! ### tuple(..) -/
section
variable {X : Cx} {A A' : Around} {s_0 : Shared} {H_0 : Hp} {cenv : Env} {fp : List Addr} {tn : Nat → Heap → Prop} {ga S : Addr} {gn n : Nat} {go : Obj}
/-- the asker's list S holds what is out -/
def ACl (ga : Addr) (go : Obj) (S : Addr) (ys : List V) (cp : List (Addr × Obj)) : Prop := ∃ (acc : Array Value) (c : Nat), cp = [(ga, go), (S, lstObj acc c)] ∧ Vals ys acc.toList
def YdL (ys : List V) (y : V) (H : Hp) (Nx : List V → Hp → Prop) : Prop := ys.length < sizeLine ∧ Nx (ys ++ [y]) H
theorem ext_gx {R : Result → Shared → Prop} {End : List V → Hp → Prop} {res : Value} (hh : A.handled = none) (hroom : A.depth < recursionLimit) (hG : GenObj go gn) (hSa : S ≠ ga) (far : (gblk X A' s_0 H_0 cenv fp).s_0.heap.objs.size ≤ S) (hSc : ∀ x c, cenv.cells.lookup x = some c → c ≠ S)
    (keep : ∀ i h h', tn i h → (∀ b ∈ fp, ∀ o, h.get? b = some o → h'.get? b = some o) → tn i h') (hSf : ∀ b ∈ fp, b ≠ S)
    (yes : ∀ (σ : L2.St) (H : Hp) (ys : List V) (acc : Array Value) (c : Nat) (s1 : Shared), Inv (gblk X A' s_0 H_0 cenv fp) [(ga, go), (S, lstObj acc c)] σ H s1 → Vals ys acc.toList → End ys H → R (.ok (.ret res)) s1) :
    ∀ (n : Nat) (s : Shared), s.heap.NoLimit → s.heap.get? ga = some go → (∃ gs, s.gens[gn]? = some gs ∧ gs.Goes (model X.prog X.w) A.in1.in1 (RG (gblk X A' s_0 H_0 cenv fp) (ACl ga go S) End)
      (YG (gblk X A' s_0 H_0 cenv fp) fp tn (ACl ga go S) YdL) n (.send .none) (s.setGen gn .running)) →
      codeAny (model X.prog X.w) A (.builtin "list.extend.loop" ⟨[.ref S, .ref ga, res], []⟩) R s := by
  intro n
  induction n with
  | zero =>
    rintro s hl e ⟨gs, hgs, hgo⟩
    refine codeAny_builtin F.entry_extend_loop ?_
    rw [Around.under_plainId F.plain_extend_loop _]
    show wpAny _ A.in1 (pyNext (.ref ga) >>= _) _ _ s
    refine wpAny_bind (next_gx (A := A.in1) hh hroom hl hG e hgs hgo (fun ys x σ H i cp Nx v s1 gs' r hac I st hy at_ kap => ?_) fun ys σ H cp s1 hac I q => ?_)
    · obtain ⟨acc, c, rfl, rv⟩ := hac
      have pS := I.pin (S, lstObj acc c) (List.mem_append_right _ (List.mem_cons_of_mem _ List.mem_cons_self))
      have I0 : Inv (gblk X A' s_0 H_0 cenv fp) [(ga, go)] σ H s1 := I.pins_of fun p hp => I.pin p (List.mem_append_right _ (by rw [List.mem_singleton.mp hp]; exact List.mem_cons_self))
      have I1 := I0.turned (t' := s1.toks) (h' := s1.heap.update S (Obj.mapSeq (·.push v))) (it := S) (fun b o hb q => (Heap.get?_update_other _ _ (Ne.symm hb)).trans q) pS.2.1 pS.2.2.1 (.inr far) hSc (fun p hp => by rw [List.mem_singleton.mp (show p ∈ [(ga, go)] by simpa using hp)]; exact Ne.symm hSa)
      have e2 := Heap.get?_update_self (Obj.mapSeq (·.push v)) pS.1 rfl
      obtain ⟨m, hm, _⟩ := kap (ys ++ [x]) [(ga, go), (S, _)] _ hy.2 ⟨acc.push v, _, rfl, by rw [Array.toList_push]; exact rv.append (.cons r .nil)⟩ (I1.pins_of fun p hp => by
        rcases List.mem_cons.mp hp with z | z
        · rw [z]; exact I1.pin (ga, go) (List.mem_append_right _ List.mem_cons_self)
        · rw [List.mem_singleton.mp z]; exact ⟨e2, pS.2.1, pS.2.2.1, pS.2.2.2.1, fun v q => by cases q⟩) (keep _ _ _ st fun b hb o q => (Heap.get?_update_other _ _ (Ne.symm (hSf b hb))).trans q)
      cases hm
    · obtain ⟨acc, c, rfl, rv⟩ := hac
      exact wpAny_pure (yes σ H ys acc c s1 I rv q)
  | succ n ih =>
    rintro s hl e ⟨gs, hgs, hgo⟩
    refine codeAny_builtin F.entry_extend_loop ?_
    rw [Around.under_plainId F.plain_extend_loop _]
    show wpAny _ A.in1 (pyNext (.ref ga) >>= _) _ _ s
    refine wpAny_bind (next_gx (A := A.in1) hh hroom hl hG e hgs hgo (fun ys x σ H i cp Nx v s1 gs' r hac I st hy at_ kap => ?_) fun ys σ H cp s1 hac I q => ?_)
    · obtain ⟨acc, c, rfl, rv⟩ := hac
      have pS := I.pin (S, lstObj acc c) (List.mem_append_right _ (List.mem_cons_of_mem _ List.mem_cons_self))
      have I0 : Inv (gblk X A' s_0 H_0 cenv fp) [(ga, go)] σ H s1 := I.pins_of fun p hp => I.pin p (List.mem_append_right _ (by rw [List.mem_singleton.mp hp]; exact List.mem_cons_self))
      have I1 := I0.turned (t' := s1.toks) (h' := s1.heap.update S (Obj.mapSeq (·.push v))) (it := S) (fun b o hb q => (Heap.get?_update_other _ _ (Ne.symm hb)).trans q) pS.2.1 pS.2.2.1 (.inr far) hSc (fun p hp => by rw [List.mem_singleton.mp (show p ∈ [(ga, go)] by simpa using hp)]; exact Ne.symm hSa)
      have e2 := Heap.get?_update_self (Obj.mapSeq (·.push v)) pS.1 rfl
      have hln := rv.length
      have hlt : acc.size < sizeLine := by
        have := hy.1
        rw [hln] at this
        simpa using this
      have pG := I1.pin (ga, go) (List.mem_append_right _ List.mem_cons_self)
      show wpAny _ A.in1 (updateSeq S (·.push v) >>= _) _ _ _
      refine wpAny_bind ?_
      refine wpAny_updateSeq pS.1 rfl (wpAny_pure ⟨plainId_quiet F.plain_extend_loop _, ih _ I1.nolimit pG.1 ⟨gs', at_, ?_⟩⟩) (Nat.le_of_lt hlt) (by show (acc.push v).size ≤ sizeLine + 1; rw [Array.size_push]; omega)
      obtain ⟨m, hm, z⟩ := kap (ys ++ [x]) [(ga, go), (S, _)] (({ s1 with heap := s1.heap.update S (Obj.mapSeq (·.push v)) } : Shared).setGen gn .running) hy.2 ⟨acc.push v, _, rfl, by rw [Array.toList_push]; exact rv.append (.cons r .nil)⟩ (inv_moved (I1.pins_of fun p hp => by
        rcases List.mem_cons.mp hp with z | z
        · rw [z]; exact pG
        · rw [List.mem_singleton.mp z]; exact ⟨e2, pS.2.1, pS.2.2.1, pS.2.2.2.1, fun v q => by cases q⟩) rfl (allBare_setGen (s := { s1 with heap := s1.heap.update S (Obj.mapSeq (·.push v)) }) I1.bare rfl) fun _ _ q => q) (keep _ _ _ st fun b hb o q => (Heap.get?_update_other _ _ (Ne.symm (hSf b hb))).trans q)
      cases hm
      exact z
    · obtain ⟨acc, c, rfl, rv⟩ := hac
      exact wpAny_pure (yes σ H ys acc c s1 I rv q)
end
section
variable {X : Cx} {pins : List (Addr × Obj)} {σ : L2.St} {s5 : Shared} {J : It} {g : TG} {tt : TT} {te : TE} {vs : List Nat} {H4 : Hp} {u : Value}
/-- all that a generator hands out, in a list of the asker's own -/
theorem collect_gx {A : Around} {E : Value → Shared → Prop} {Q : List Value → Shared → Prop} {End : List V → Hp → Prop} {W : Nat → Nat → List V → Hp → Prop} {m : Nat} (hh : A.handled = none) (hroom : A.depth < recursionLimit) (G : Gx X pins σ A.in1.in1 J g tt te vs H4 u s5)
    (w0 : W 0 m [] H4) (turn : tGx J g tt te (wipe σ vs) vs End YdL W)
    (hQ : ∀ (s' : Shared) (acc : Array Value) (ys : List V) (H' : Hp), Inv X pins σ H' s' → Vals ys acc.toList → End ys H' → Q acc.toList s') : wpAny (model X.prog X.w) A (collect u) Q E s5 := by
  obtain ⟨A', s_0, H_0, cenv, fp, ga, gn, go, tn, gs, rfl, hGO, hgs, hbare, I5, st5, nf, hlt, keep, back, goes⟩ := G
  have pin5 := I5.pin (ga, go) (List.mem_append_right _ List.mem_cons_self)
  have glt : ga < s5.heap.objs.size := Heap.lt_size pin5.1
  have hSI : s5.heap.objs.size ≠ ga := Nat.ne_of_gt glt
  unfold collect
  refine wpAny_bind (wpAny_runValue (codeAny_builtin F.entry_proto_collect ?_))
  rw [Around.under_plainId F.plain_proto_collect _]
  show wpAny _ A.in1 (newList [] >>= fun l => again (.builtin "list.__iadd__" ⟨[l, .ref ga], []⟩)) _ _ s5
  refine wpAny_bind (wpAny_newObj_type ?_)
  refine wpAny_pure ⟨plainId_quiet F.plain_list_iadd _, codeAny_builtin F.entry_list_iadd ?_⟩
  rw [Around.under_plainId F.plain_list_iadd _]
  show wpAny _ A.in1 (Builtin.List.listExtendWith (.ref s5.heap.objs.size) (.ref ga) (.ref s5.heap.objs.size)) _ _ _
  unfold Builtin.List.listExtendWith
  have k1 : ∀ b o, s5.heap.get? b = some o → (s5.heap.push { cls := .type "list", data := .seq ([] : List Value).toArray }).get? b = some o := fun b o e => Heap.get?_push_of_some _ e
  have hT : Shared.TypeIs { s5 with heap := s5.heap.push { cls := .type "list", data := .seq ([] : List Value).toArray } } (.ref ga) "generator" := Heap.IsGen.typeIs (s := { s5 with heap := _ }) (hGO.isGen (k1 _ _ pin5.1))
  refine wpAny_bind (wpAny_typeOf hT ?_)
  have h1 : Builtin.List.listSameRef (.ref s5.heap.objs.size) (.ref ga) = false := by simp [Builtin.List.listSameRef, hSI]
  have h2 : (Value.type "generator" == Value.type "list") = false := by decide
  have h3 : (Value.type "generator" == Value.type "tuple") = false := by decide
  simp only [h1, h2, h3, Bool.or_false, Bool.false_eq_true, if_false]
  refine wpAny_bind (wpAny_pyIter_gen (s := { s5 with heap := _ }) (hGO.isGen (k1 _ _ pin5.1)) ?_)
  refine wpAny_bind (wpAny_holding ?_)
  unfold Builtin.List.listLengthHint
  refine wpAny_bind (wpAny_specialOf hT F.gen_no_len ?_)
  show wpAny _ A.in1 (specialOf (Value.ref ga) (Str.ofString "__length_hint__") >>= _) _ _ _
  refine wpAny_bind (wpAny_specialOf hT F.gen_no_hint ?_)
  refine wpAny_pure ?_
  show wpAny _ A.in1 (rule "list.extend.makes-room" >>= fun _ => Builtin.List.listTouch (.ref s5.heap.objs.size) >>= fun _ =>
    again (.builtin "list.extend.loop" ⟨[.ref s5.heap.objs.size, .ref ga, .ref s5.heap.objs.size], []⟩)) _ _ _
  refine wpAny_bind (wpAny_rule ?_)
  have hS₁ : (s5.heap.push { cls := .type "list", data := .seq ([] : List Value).toArray }).get? s5.heap.objs.size = some { cls := .type "list", data := .seq ([] : List Value).toArray } := Heap.get?_push_size _ rfl
  refine wpAny_bind ?_
  show wpAny _ A.in1 (updateSeq s5.heap.objs.size (·.push .none) >>= fun _ => updateSeq s5.heap.objs.size (·.pop)) _ _ _
  refine wpAny_bind (wpAny_updateSeq hS₁ rfl ?_)
  have hS₂ := Heap.get?_update_self (Obj.mapSeq (·.push Value.none)) hS₁ rfl
  refine wpAny_updateSeq hS₂ rfl ?_
  have hS₃ := Heap.get?_update_self (Obj.mapSeq (·.pop)) hS₂ rfl
  obtain ⟨c3, hS₄⟩ : ∃ c, (((s5.heap.push { cls := .type "list", data := .seq ([] : List Value).toArray }).update s5.heap.objs.size (Obj.mapSeq (·.push Value.none))).update s5.heap.objs.size (Obj.mapSeq (·.pop))).get? s5.heap.objs.size = some (lstObj #[] c) := ⟨_, hS₃⟩
  have k3 : ∀ b o, s5.heap.get? b = some o → (((s5.heap.push { cls := .type "list", data := .seq ([] : List Value).toArray }).update s5.heap.objs.size (Obj.mapSeq (·.push Value.none))).update s5.heap.objs.size (Obj.mapSeq (·.pop))).get? b = some o :=
    fun b o e => (Heap.get?_update_other _ _ (Ne.symm (Nat.ne_of_lt (Heap.lt_size e)))).trans ((Heap.get?_update_other _ _ (Ne.symm (Nat.ne_of_lt (Heap.lt_size e)))).trans (k1 b o e))
  have fS : FpOk (gblk X A' s_0 H_0 cenv fp) [(ga, go)] H4 s5.heap.objs.size := I5.fpOk (Nat.le_refl _) (I5.hok.fresh (Nat.le_refl _))
  have hfS : ∀ b ∈ fp, b ≠ s5.heap.objs.size := fun b hb => Nat.ne_of_lt (Nat.lt_trans (hlt b hb) glt)
  have I6 := inv_moved (s' := { s5 with heap := ((s5.heap.push { cls := .type "list", data := .seq ([] : List Value).toArray }).update s5.heap.objs.size (Obj.mapSeq (·.push Value.none))).update s5.heap.objs.size (Obj.mapSeq (·.pop)) }) I5 rfl I5.bare k3
  refine wpAny_pure ⟨plainId_quiet F.plain_extend_loop _, ext_gx (A := A) (A' := A') (s_0 := s_0) (H_0 := H_0) (cenv := cenv) (fp := fp) (tn := tn) (go := go) (gn := gn) (End := End) hh hroom hGO hSI ?_ fS.2.2.2.2.1 keep hfS
    (fun σ' H' ys acc c s1 I1 rv q => ?_) (m + 1) _ I6.nolimit (k3 _ _ pin5.1) ⟨gs, hgs, ?_⟩⟩
  · exact Nat.le_trans I5.sz (Nat.le_refl _)
  · show wpAny _ A (load s5.heap.objs.size >>= _) _ _ s1
    have pS := (I1.pin (s5.heap.objs.size, lstObj acc c) (List.mem_append_right _ (List.mem_cons_of_mem _ List.mem_cons_self))).1
    refine wpAny_bind (wpAny_load pS ?_)
    exact wpAny_pure (hQ s1 acc ys H' (back _ _ _ _ I1) rv q)
  · refine goes (List V) (ACl ga go s5.heap.objs.size) End YdL W m (m + 1) [] [(ga, go), (s5.heap.objs.size, lstObj #[] c3)] _ turn w0 (Nat.lt_succ_self _) (fun ys cp hac p hp b hb z => ?_) ⟨#[], c3, rfl, .nil⟩
      (inv_moved (I6.pins_of fun p hp => ?_) rfl (allBare_setGen (s := { s5 with heap := _ }) I5.bare rfl) fun _ _ q => q) (keep _ _ _ st5 fun b hb o q => k3 b o q)
    · obtain ⟨acc, c, rfl, _⟩ := hac
      rcases List.mem_cons.mp hp with e | e
      · rw [e] at z
        exact absurd (hlt b hb) (by rw [← z]; exact Nat.lt_irrefl _)
      · rw [List.mem_singleton.mp e] at z
        exact hfS b hb z.symm
    · rcases List.mem_cons.mp hp with e | e
      · rw [e]
        exact I6.pin (ga, go) (List.mem_append_right _ List.mem_cons_self)
      · rw [List.mem_singleton.mp e]
        exact ⟨hS₄, fS.1, fS.2.1, fS.2.2.1, fun v q => by cases q⟩
end
section
variable {X : Cx}
/-- tuple(elt for tg in iter ..) -/
def tTupX (P : Addr) (wi : TI) (g : TG) (tt : TT) (te : TE) (vs : List Nat) : TE := fun σ H Q => wi σ H fun J H1 => GxR.TabG H1 P ∧ ∀ H2, GxR.Tabbed P H1 H2 → ∃ W : Nat → Nat → List V → Hp → Prop, (∃ m, W 0 m [] H2) ∧
  tGx J g tt te (wipe σ vs) vs (fun ys H => ys.length ≤ sizeLine ∧ ∀ p, H p = none → Q (.ref p) (upd H p (.tup ys))) YdL W
theorem pe_tupX {c P : Addr} {elt tg iter : Expr} {ifs : List Expr} {p pos gpos : Pos} {scope : Scope} {own : List (Str × Nat)} {wi : TI} {g : TG} {tt : TT} {te : TE} {k : Nat}
    (hr : Room (k + 1) X.A) (hc : X.calm = true) (hN : X.N.Nodup) (hgl : Gl X "tuple") (hm : X.mg "tuple" = none) (hb : bootBuiltins "tuple" = some (.type "tuple")) (TB : GxR.TabB X.base X.mg c P) (hcode : X.env.code = .ref c)
    (hco : scope.isCoroutine = false) (hdot : scope.names.lookup (".0" : Str) = some NameKind.local) (nocell : ∀ y ∈ scope.names, y.2 ≠ .cell) (ok : BlkOk X.N X.env.scope scope own) (hi : PI X tg iter wi)
    (hg : ∀ (A' : Around) (s : Shared) (H : Hp) (C : Addr) (cl : List (Str × Addr)) (code : Value) (fp : List Addr), Room k A' → A'.guards = X.A.guards → PG (gblk X A' s H (genEnv scope cl C code builtinsNs X.env) fp) tg g)
    (ht : ∀ (A' : Around) (s : Shared) (H : Hp) (C : Addr) (cl : List (Str × Addr)) (code : Value) (fp : List Addr), Room k A' → A'.guards = X.A.guards → PTs (gblk X A' s H (genEnv scope cl C code builtinsNs X.env) fp) ifs tt)
    (he : ∀ (A' : Around) (s : Shared) (H : Hp) (C : Addr) (cl : List (Str × Addr)) (code : Value) (fp : List Addr), Room k A' → A'.guards = X.A.guards → PE (gblk X A' s H (genEnv scope cl C code builtinsNs X.env) fp) elt te)
    (hs : ∀ v, genFold iter X.env v = pure v)
    (hst : starEach [.GeneratorExp elt [⟨tg, iter, ifs, 0⟩] scope gpos] X.env = (false, eval (.GeneratorExp elt [⟨tg, iter, ifs, 0⟩] scope gpos) X.env) :: starEach [] X.env := by rfl) :
    PE X (.Call (.Name "tuple" p) [.GeneratorExp elt [⟨tg, iter, ifs, 0⟩] scope gpos] [] pos) (tTupX P wi g tt te (own.map (·.2))) := by
  refine ⟨fun pins s σ H Q I h => ?_⟩
  refine wpAny_Call_Name_kw (ld_blt I hgl hm hb ?_)
  refine PyProof.Rows.callWith_type1 ?_ hst (by rfl)
  rw [hst]
  show wpAny _ _ (spliced ((false, eval (.GeneratorExp elt [⟨tg, iter, ifs, 0⟩] scope gpos) X.env) :: backTo pos (starEach [] X.env))) _ _ s
  refine Calls.spliced_cons (gx_make (A := X.A.in1.in1.in1.in1) hr ⟨rfl, rfl, rfl, rfl, (by show X.A.units + 1 + 1 + 1 + 1 ≤ _; omega)⟩ hc hN TB hcode hco hdot nocell ok hi hg ht he hs I h fun J H1 H2 u s5 hR hT hG => ?_)
  obtain ⟨W, ⟨m, w0⟩, turn⟩ := hR H2 hT
  refine Calls.spliced_nil ?_
  have ⟨A', s_0, H_0, cenv, fp, ga, gn, go, tn, gs, eu, hGO, hgs, hbare, I5, st5, nf, hlt, keep, back, goes⟩ := hG
  have pin5 := (I5.pin (ga, go) (List.mem_append_right _ List.mem_cons_self)).1
  rw [eu] at hG ⊢
  refine callType_codes (Q₁ := fun obj s₁ => s₁.TypeIs obj "tuple" ∧ EP X pins σ Q obj s₁) F.called_tuple (F.typeCall_tuple_1 _) F.entry_object_init ?_ fun obj s₁ h₁ =>
    ⟨h₁.1, F.args_object_init_2 obj _, object_init_meets F.called_tuple.init.lookup F.called_tuple.made (by decide) X.prog X.w X.A.in1 _ s₁ ⟨h₁.1, rfl, h₁.2⟩⟩
  refine codeAny_of_tree ?_
  show wpAny _ X.A.in1.in1 (do checkBuiltinCall "tuple.__new__" ⟨[.type "tuple", .ref ga], []⟩; again (.builtin "tuple.__new__" ⟨[.type "tuple", .ref ga], []⟩)) _ _ s5
  refine wpAny_bind (wpAny_of_eq (F.newCall_tuple_1 _) (wpAny_pure ⟨plainId_quiet F.plain_tuple_new _, codeAny_builtin F.entry_tuple_new ?_⟩))
  rw [Around.under_plainId F.plain_tuple_new _]
  have hsub := sub_tuple_self
  have hinit := init_tuple_lookup
  have hmh := madeHere_tuple
  have hTI : s5.TypeIs (.ref ga) "generator" := (hGO.isGen pin5).typeIs
  have col : ∀ {Q0 : List Value → Shared → Prop} {E0 : Value → Shared → Prop}, (∀ (s' : Shared) (acc : Array Value), (∃ (ys : List V) (H' : Hp), Inv X pins σ H' s' ∧ Vals ys acc.toList ∧ ys.length ≤ sizeLine ∧ ∀ p, H' p = none → Q (.ref p) (upd H' p (.tup ys))) → Q0 acc.toList s') →
      wpAny (model X.prog X.w) X.A.in1.in1 (collect (.ref ga)) Q0 E0 s5 := fun hq => collect_gx hr.hd hr.depth hG w0 turn (fun s' acc ys H' I' rv q => hq s' acc ⟨ys, H', I', rv, q.1, q.2⟩)
  wp_walk using wpAny_typeOf hTI, col
  rintro s' acc ⟨ys, H', I', rv, small, q⟩
  show wpAny _ _ (Builtin.Tuple.tupleExact acc.toList.toArray >>= fun v => ret v) _ _ _
  unfold Builtin.Tuple.tupleExact
  refine wpAny_bind (wpAny_newObj_type ?_ (by show acc.toList.toArray.size ≤ sizeLine; rw [List.size_toArray, ← rv.length]; exact small))
  refine wpAny_pure ?_
  have free : H' s'.heap.objs.size = none := I'.hok.fresh (Nat.le_refl _)
  refine ⟨⟨_, Heap.get?_push_size _ rfl, rfl⟩, .ref s'.heap.objs.size, upd H' s'.heap.objs.size (.tup ys), I'.laid (t' := s'.toks) (fun b u z => Heap.get?_push_of_some _ z) (Nat.le_refl _) ⟨small, acc.toList, rv, ?_⟩, rfl, q _ free⟩
  exact ⟨_, Heap.get?_push_size _ rfl, rfl, 0, rfl⟩
end
/-! ### a def by its body, its code object known -/
theorem okC {P : Program} {w : World} {K : PySem.W.Frag} {mg : Str → Option Value} {base : Heap} {x qual : Str} {st : Stmt} {f : Addr} {fd : FuncData} {N ps : List Str} {k : Nat} {sp : Sp} (F : Fun K x qual st f fd) (S : FnScope N ps (defScope st)) (len : ∀ vs H Q E, sp vs H Q E → vs.length = ps.length)
    (body : ∀ (A : Around) (outer : List Env) (s : Shared) (H : Hp) (vs : List V) (Q : VK) (E : XK), Room k (A.deeper (envOfC qual (defScope st) s.heap.objs.size f fd.code)) → sp vs H Q E →
      ∃ t, PSs (cxOf CX0 P w K mg base N qual (defScope st) f fd.code A outer s H E).nox (defBody st) t ∧ t { nx := fun _ H' => Q .non H', rt := Q } (start N vs) H) : FnOk P w K mg base CX0 (k + 1) f fd ps sp := by
  obtain ⟨oc, od, kV, doc, pm, an, cdv, ct, osl, rfl, lk, hcd⟩ := F.ex
  refine fn_of lk hcd S len fun A outer s H vs Q E hr hsp => ?_
  obtain ⟨t, h, q⟩ := body A outer s H vs Q E hr hsp
  exact ⟨t, h.nox, q⟩
/-! ### from the head's facts -/
theorem fun_of {K : PySem.W.Frag} {x qual : Str} {st : Stmt} {f : Addr} {fd : FuncData} (F : FunD K x qual (defArgs st) (defBody st) (defScope st) [] [] f fd) : Fun K x qual st f fd := by
  obtain ⟨oc, od, dV, kV, doc, pm, an, cdv, ct, osl, rfl, lk, hcd, hd, _⟩ := F.ex
  rcases hd with ⟨_, rfl⟩ | ⟨z, _⟩
  · exact ⟨⟨oc, od, kV, doc, pm, an, cdv, ct, osl, rfl, lk, hcd⟩, F.kp⟩
  · exact absurd rfl z
theorem code_of {K : PySem.W.Frag} {x qual : Str} {st : Stmt} {p : He.Defn} {fd : FuncData} (F : Fun K x qual st (He.fAd K p) fd) : fd.code = .ref (He.cT K p).1 := by
  obtain ⟨oc, od, kV, doc, pm, an, cdv, ct, osl, rfl, lk, hcd⟩ := F.ex
  obtain ⟨c, rfl⟩ := He.codeIn_ref hcd
  show Value.ref c = Value.ref (He.codeOf K p)
  rw [He.codeOf_eq lk rfl]
theorem tab_of {base : Heap} {mg : Str → Option Value} {c P : Addr} (h : LamX.TabB base mg c P) : GxR.TabB base mg c P := ⟨h.code, h.bm, h.gP⟩
/-! ### heaps whose tables grow -/
def Tabs (H : Hp) (Ps : List Addr) : Prop := ∀ P ∈ Ps, GxR.TabG H P
/-- what is no table stays; tables stay tables -/
def Gr (H H' : Hp) : Prop := (∀ b o, (∀ ps, o ≠ HO.tbl ps) → H b = some o → H' b = some o) ∧ ∀ b, GxR.TabG H b → GxR.TabG H' b
theorem Gr.refl {H : Hp} : Gr H H := ⟨fun _ _ _ e => e, fun _ e => e⟩
theorem Gr.trans {H H1 H2 : Hp} (a : Gr H H1) (b : Gr H1 H2) : Gr H H2 := ⟨fun c o n e => b.1 c o n (a.1 c o n e), fun c e => b.2 c (a.2 c e)⟩
theorem Gr.of {H H' : Hp} (h : ∀ b o, H b = some o → H' b = some o) : Gr H H' := ⟨fun b o _ e => h b o e, fun b ⟨ps, e, t⟩ => ⟨ps, h _ _ e, t⟩⟩
theorem Gr.tab {P : Addr} {H H' : Hp} (t : GxR.TabG H P) (h : GxR.Tabbed P H H') : Gr H H' := by
  obtain ⟨ps, e, _⟩ := t
  refine ⟨fun b o n q => ?_, fun b q => ?_⟩
  · by_cases hb : b = P
    · rw [hb, e] at q
      exact absurd (Option.some.inj q).symm (n ps)
    · rw [h.2 b hb]; exact q
  · by_cases hb : b = P
    · rw [hb]; exact h.1
    · obtain ⟨ps', e', t'⟩ := q
      exact ⟨ps', by rw [h.2 b hb]; exact e', t'⟩
theorem Gr.tup {H H' : Hp} (g : Gr H H') {a : Addr} {xs : List V} (h : H a = some (.tup xs)) : H' a = some (.tup xs) := g.1 a _ (fun _ z => by cases z) h
theorem Gr.lst {H H' : Hp} (g : Gr H H') {a : Addr} {xs : List V} (h : H a = some (.lst xs)) : H' a = some (.lst xs) := g.1 a _ (fun _ z => by cases z) h
theorem Gr.tabs {H H' : Hp} (g : Gr H H') {Ps : List Addr} (h : Tabs H Ps) : Tabs H' Ps := fun P hP => g.2 P (h P hP)
theorem Gr.none {H : Hp} {a : Addr} {o : HO} (n : H a = Option.none) : Gr H (upd H a o) := Gr.of fun b u e => by
  rw [upd_ne (ne_of_none e n)]
  exact e
namespace CwR
/-- behind it a token is out -/
def PEp (X : Cx) (e : Expr) (t : TE) : Prop := ∀ (pins : List (Addr × Obj)) (s : Shared) (σ : L2.St) (H : Hp) (Q : VK), Inv X pins σ H s → t σ H Q → wpAny (model X.prog X.w) X.A (eval e X.env) (fun u s' => 1 ≤ s'.toks ∧ EP X pins σ Q u s') X.xe s
theorem pep_ix {X : Cx} {a : Expr} {i : Int} {j : Nat} {p pos : Pos} {ta : TE} {r : R2} (hr : IxR X r) (ha : PE X a ta) (hs : PlainIx (.Constant (.int i) j p)) : PEp X (.Subscript a (.Constant (.int i) j p) pos) (tOp r ta (tC (.int i))) := by
  intro pins s σ H Q I h
  refine Subscript_ (thn (ha.run pins s σ H _ I h) fun v s1 ⟨x, H1, I1, r1, q1⟩ => wpAny_Constant_int ?_)
  refine wpAny_mono (PySem.wpAny_toks (hr a _ pins { s1 with toks := s1.toks + 1 } σ H1 x (.int i) v (.int i s1.toks) Q (I1.tok _) r1 ⟨_, rfl⟩ q1 (hs _ _))) (fun u s2 q => ⟨?_, q.2⟩) fun _ _ z => z.2
  have h1 : s1.toks + 1 ≤ s2.toks := q.1
  omega
theorem pep_repl {X : Cx} {o : Expr} {to : TE} {y z : Str} {j k : Nat} {c0 c1 apos pos : Pos} (ho : PEp X o to) (hyz : (y == z) = false := by decide)
    (hst : starEach [.Constant (.str y) j c0, .Constant (.str z) k c1] X.env = [(false, eval (.Constant (.str y) j c0) X.env), (false, eval (.Constant (.str z) k c1) X.env)] := by rfl)
    (hbase : attributeBase o "replace" X.env (eval o X.env) = eval o X.env := by rfl) (hline : (apos.endLine == pos.line) = true := by rfl) :
    PEp X (.Call (.Attribute o "replace" apos) [.Constant (.str y) j c0, .Constant (.str z) k c1] [] pos) (CwR.tReplC to y z) := by
  intro pins s σ H Q I h
  refine PySem.Call_method2 hbase hst hline (wpAny_mono (ho pins s σ H _ I h) (fun v s1 q => ?_) fun _ _ z => z)
  obtain ⟨hk, v', H1, I1, r1, x, e1, hb, q⟩ := q
  subst e1
  obtain ⟨tx, e2⟩ := r1
  subst e2
  refine ⟨"str", _, PySem.F.plainAttrs_str, PySem.F.slot_str_replace, PySem.F.type_str_replace, typeIs_str _ _ _, (fun _ e => nomatch e), Calls.callWith_builtin rfl (Calls.evalArgs_plain (Calls.spliced_cons ?_))⟩
  refine Calls.Constant_str (Calls.spliced_cons (Calls.Constant_str (Calls.spliced_nil ?_)))
  refine wpAny_mono (PySem.wpAny_toks (PySem.SC.replace (Q := fun u s' => EP X pins σ Q u s') (by show s1.toks ≠ 0; omega) (by show s1.toks + 1 ≠ 0; omega) (by show s1.toks ≠ s1.toks + 1; omega) hyz hb fun t' k => ⟨.str (Txt.replace x y z), H1, I1.tok k, ⟨t', rfl⟩, q⟩)) (fun u s2 q => ⟨?_, q.2⟩) fun _ _ z => z.2
  have h1 : s1.toks + 1 + 1 ≤ s2.toks := q.1
  omega
theorem pe_replP {X : Cx} {e : Expr} {t : TE} (h : PEp X e t) : PE X e t := ⟨fun pins s σ H Q I q => wpAny_mono (h pins s σ H Q I q) (fun _ _ z => z.2) fun _ _ z => z⟩
end CwR

/-! ### list(reversed(a list)) -/
namespace RevL
open RT PySem.Calls
section
variable {prog : Program} {w : World} {A : Around} {E : Value → Shared → Prop} {s : Shared}
theorem grows_rev {it l S : Addr} {c0 : Nat} {xs : Array Value} {R : Result → Shared → Prop} {res : Value} (quiet : A.handled = none) (rev : s.heap.IsRevIter it l ((xs.size : Int) - 1)) (src : s.heap.IsList l xs) (apart : l ≠ it) (few : xs.size ≤ sizeLine)
    (tgt : s.heap.get? S = some { cls := .type "list", data := .seq #[] c0 }) (n1 : S ≠ it) (n2 : S ≠ l)
    (fin : ∀ (hp : Heap) (tk : Nat) (acc : Array Value) (c : Nat), (∀ b o, b ≠ it → b ≠ S → s.heap.get? b = some o → hp.get? b = some o) → hp.get? S = some { cls := .type "list", dict := none, data := .seq acc c, slots := #[] } → ItemsOf (fun i v => xs[xs.size - 1 - i]? = some v) acc xs.size → R (.ok (.ret res)) { s with heap := hp, toks := tk }) :
    wpAny (model prog w) A.in1 (Builtin.List.listExtendWith (.ref S) (.ref it) res)
      (fun f st => match f with | .done g => R (.ok g) st | .again c => c.quiet = true ∧ codeAny (model prog w) A c R st) (fun e st => R (.error e) st) s := by
  have walk := (Walks.listRev (prog := prog) (w := w) (A := A.in1) quiet it l apart xs).toS
  have notIn : S ∉ [it, l] := by
    intro h
    rcases List.mem_cons.mp h with h | h
    · exact n1 h
    · exact n2 (List.mem_singleton.mp h)
  have ty : s.TypeIs (.ref it) "list_reverseiterator" := rev.typeIs
  have unlike : Builtin.List.listSameRef (.ref S) (.ref it) = false := by simp [Builtin.List.listSameRef, n1]
  unfold Builtin.List.listExtendWith
  refine wpAny_bind (wpAny_typeOf ty (?_))
  rw [if_neg (show ¬ _ by rw [unlike]; decide)]
  refine wpAny_bind (wpAny_pyIter_revIter rev (wpAny_bind (wpAny_holding ?_)))
  unfold Builtin.List.listLengthHint
  refine wpAny_bind (wpAny_specialOf ty nolen_lri (?_))
  show wpAny _ _ (specialOf (Value.ref it) (Str.ofString "__length_hint__") >>= _) _ _ _
  refine wpAny_bind (wpAny_specialOf ty hint_lri (?_))
  generalize name : ("list_reverseiterator.__length_hint__" : String) = nm
  wp_delta
  rw [show splitId nm = some ("list_reverseiterator", "__length_hint__") by rw [← name]; decide +kernel]
  rw [← name]
  refine wpAny_bind (wpAny_isInstance (b := true) ty (by rw [isSubtype_type]; kernel_rfl) (wpAny_pure ?_))
  rw [if_neg (show ¬ _ by decide)]
  have first : ((xs.size : Nat) : Int) - 1 - ((0 : Nat) : Int) = (xs.size : Int) - 1 := by omega
  refine wpAny_pure ⟨plainId_quiet F.plain_extend_loop _, codeAny_extend_loopS walk few _ notIn _ xs.size 0 _ _ _ rfl (Nat.zero_le _) ⟨Nat.zero_le _, by rw [first]; exact rev, src⟩ tgt (ItemsOf.nil _) fun st acc c moved hS got => ?_⟩
  rw [Moved.eq_with moved]
  refine fin st.heap st.toks acc c (fun b o b1 b2 e => moved.heap b o (fun h => ?_) e) hS got
  rcases List.mem_cons.mp h with h | h
  · exact b2 h
  · exact b1 (List.mem_singleton.mp h)
theorem call_list_rev {it l : Addr} {xs : Array Value} {Q : Value → Shared → Prop} (quiet : A.handled = none) (rev : s.heap.IsRevIter it l ((xs.size : Int) - 1)) (src : s.heap.IsList l xs) (apart : l ≠ it) (few : xs.size ≤ sizeLine)
    (fin : ∀ (hp : Heap) (tk : Nat) (acc : Array Value) (c : Nat), (∀ b o, b ≠ it → s.heap.get? b = some o → hp.get? b = some o) → hp.get? s.heap.objs.size = some { cls := .type "list", dict := none, data := .seq acc c, slots := #[] } → ItemsOf (fun i v => xs[xs.size - 1 - i]? = some v) acc xs.size → Q (.ref s.heap.objs.size) { s with heap := hp, toks := tk }) :
    wpAny (model prog w) A (call (.type "list") [.ref it]) Q E s := by
  have newAt : ∀ {b : Addr} {o : Obj}, s.heap.get? b = some o → b ≠ s.heap.objs.size := fun e => Nat.ne_of_lt (Heap.lt_size e)
  have itNew : s.heap.objs.size ≠ it := by
    obtain ⟨o, e, _⟩ := id rev
    exact (newAt e).symm
  have lNew : s.heap.objs.size ≠ l := by
    obtain ⟨o, e, _⟩ := id src
    exact (newAt e).symm
  refine callType_codes (Q₁ := fun v st => v = .ref s.heap.objs.size ∧ st = { s with heap := s.heap.push { cls := .type "list", data := .seq #[] } }) F.called_list (F.typeCall_list_1 _) F.entry_list_init (code_list_new _ ⟨rfl, rfl⟩) ?_
  rintro v st ⟨rfl, rfl⟩
  have made : (s.heap.push { cls := .type "list", data := .seq #[] }).get? s.heap.objs.size = some { cls := .type "list", data := .seq #[] } := Heap.get?_push_size _ rfl
  refine ⟨⟨_, made, rfl⟩, F.args_list_init_2 _ _, ?_⟩
  show wpAny _ A.in1.in1 (do let was ← Builtin.List.listItems (.ref s.heap.objs.size); Builtin.List.listUpdate (.ref s.heap.objs.size) (fun _ => #[]); letGo was.toList.reverse; Builtin.List.listExtendWith (.ref s.heap.objs.size) (.ref it) .none) _ _ _
  refine wpAny_bind ?_
  unfold Builtin.List.listItems
  refine wpAny_bind (wpAny_seqItems made rfl (wpAny_pure (wpAny_bind ?_)))
  show wpAny _ _ (updateSeq s.heap.objs.size (fun _ => (#[] : Array Value))) _ _ _
  refine wpAny_updateSeq made rfl (wpAny_bind (wpAny_letGo ?_))
  have emptied := Heap.get?_update_self (Obj.mapSeq (fun _ => (#[] : Array Value))) made rfl
  have stays : ∀ b o, s.heap.get? b = some o → ((s.heap.push { cls := .type "list", data := .seq #[] }).update s.heap.objs.size (Obj.mapSeq (fun _ => (#[] : Array Value)))).get? b = some o := fun b o e =>
    (Heap.get?_update_other _ _ (newAt e).symm).trans (Heap.get?_push_of_some _ e)
  refine grows_rev (A := A.in1) quiet (rev.at fun o e => stays _ _ e) (by obtain ⟨o, e, r⟩ := id src; exact ⟨o, stays _ _ e, r⟩) apart few emptied itNew lNew fun hp tk acc c keep hS got => ?_
  exact ⟨rfl, fin hp tk acc c (fun b o b1 e => keep b o b1 (newAt e) (stays b o e)) hS got⟩
def tLstRev (K : PySem.W.Frag) (te : TE) : TE := fun σ H Q => te σ H fun v H1 => ∃ (a : Addr) (xs : List V), v = .ref a ∧ SqL K H1 a xs ∧ ∀ q, H1 q = none → Q (.ref q) (upd H1 q (.lst xs.reverse))
theorem pe_lstRev {X : Cx} {e : Expr} {te : TE} {p1 p2 pos pos2 : Pos} (calm : X.calm = true) (g1 : Gl X "list") (m1 : X.mg "list" = none) (g2 : Gl X "reversed") (m2 : X.mg "reversed" = none) (he : PE X e te)
    (st1 : starEach [e] X.env = (false, eval e X.env) :: starEach [] X.env := by rfl)
    (st2 : starEach [.Call (.Name "reversed" p2) [e] [] pos2] X.env = (false, eval (.Call (.Name "reversed" p2) [e] [] pos2) X.env) :: starEach [] X.env := by rfl) :
    PE X (.Call (.Name "list" p1) [.Call (.Name "reversed" p2) [e] [] pos2] [] pos) (tLstRev X.K te) := by
  refine ⟨fun pins s σ H Q I told => ?_⟩
  refine Call_ (ld_blt I g1 m1 boot_list (PyProof.Rows.callWith_type1 (args_cons (Call_ (ld_blt I g2 m2 PyProof.Rows.boot_reversed (PyProof.Rows.callWith_type1 (args_cons (thn (he.run pins s σ H _ I told) ?_) st1) st1 rfl))) st2) st2 rfl))
  rintro u s1 ⟨v, H1, I1, r1, a, xs, rfl, list, q⟩
  refine args_nil ?_
  cases (show u = Value.ref a from r1)
  obtain ⟨us, rv, plain, few⟩ := I1.list list
  have src := plain.isList
  refine call_reversed_list src (args_nil ?_)
  have apart : a ≠ s1.heap.objs.size := by
    obtain ⟨o, e, _⟩ := id src
    exact Nat.ne_of_lt (Heap.lt_size e)
  have few2 : us.toArray.size ≤ sizeLine := by
    rw [List.size_toArray, ← rv.length]
    exact few
  refine call_list_rev (s := { s1 with heap := s1.heap.push (revObj a ((us.toArray.size : Int) - 1)) }) (I1.ok.hd calm) ⟨_, Heap.get?_push_size _ rfl, rfl, rfl⟩ (src.push _) apart few2 fun hp tk acc c keep hS got => ?_
  have size2 : s1.heap.objs.size ≤ (s1.heap.push (revObj a ((us.toArray.size : Int) - 1))).objs.size := by
    rw [Heap.size_push]
    exact Nat.le_succ _
  refine ⟨.ref _, upd H1 _ (.lst xs.reverse), I1.laid (t' := tk) (fun b o e => keep b o (Nat.ne_of_lt (Heap.lt_size e)) (Heap.get?_push_of_some _ e)) size2 ⟨by rw [List.length_reverse]; exact few, acc.toList, c, vals_rev rv got, ?_⟩, rfl, q _ (I1.hok.fresh size2)⟩
  rw [Array.toArray_toList]
  exact hS
end
end RevL

/-! ### heaps -/
theorem same_upd {H : Hp} {p : Addr} {o : HO} (h : H p = none) : Same H (upd H p o) := fun b x e => by
  rw [upd_ne (ne_of_none e h)]
  exact e
def Fr (d l : Addr) (H H' : Hp) : Prop := ∀ b o, b ≠ d → b ≠ l → H b = some o → H' b = some o
theorem Fr.trans {d l : Addr} {H H1 H2 : Hp} (a : Fr d l H H1) (b : Fr d l H1 H2) : Fr d l H H2 := fun c o h1 h2 h => b c o h1 h2 (a c o h1 h2 h)
theorem Fr.refl {d l : Addr} {H : Hp} : Fr d l H H := fun _ _ _ _ h => h
theorem Fr.new {d l p : Addr} {H : Hp} {o : HO} (h : H p = none) : Fr d l H (upd H p o) := fun b x _ _ e => same_upd h b x e
theorem Fr.of {d l : Addr} {H H' : Hp} (h : Same H H') : Fr d l H H' := fun b x _ _ e => h b x e
theorem Fr.d {d l : Addr} {H : Hp} {o : HO} : Fr d l H (upd H d o) := fun b x h1 _ e => by rw [upd_ne h1]; exact e
theorem Fr.l {d l : Addr} {H : Hp} {o : HO} : Fr d l H (upd H l o) := fun b x _ h2 e => by rw [upd_ne h2]; exact e
def Deck (H : Hp) (d l : Addr) : Prop := d ≠ l ∧ ∃ (cs : List Int) (z : Int), H d = some (.lst [.ref l, .int z]) ∧ H l = some (.lst (cs.map V.int)) ∧ cs.length ≤ 63 ∧ 0 ≤ z ∧ z < 4294967296
theorem Deck.same {H H' : Hp} {d l : Addr} (D : Deck H d l) (s : Same H H') : Deck H' d l := by
  obtain ⟨ne, cs, z, hd, hl, r⟩ := D
  exact ⟨ne, cs, z, s _ _ hd, s _ _ hl, r⟩
theorem Deck.new {H : Hp} {d l p : Addr} {o : HO} (D : Deck H d l) (h : H p = none) : Deck (upd H p o) d l := D.same (same_upd h)
theorem Deck.ne_new {H : Hp} {d l p : Addr} (D : Deck H d l) (h : H p = none) : p ≠ d ∧ p ≠ l := by
  obtain ⟨ne, cs, z, hd, hl, r⟩ := D
  exact ⟨(ne_of_none hd h).symm, (ne_of_none hl h).symm⟩
theorem p29 : (0 : Int) < 2147483629 := by decide
theorem p47 : (0 : Int) < 2147483647 := by decide
theorem p87 : (0 : Int) < 2147483587 := by decide
theorem sl1 : 1 ≤ sizeLine := by decide
theorem sl2 : 2 ≤ sizeLine := by decide
theorem sl3 : 3 ≤ sizeLine := by decide
theorem sl4 : 4 ≤ sizeLine := by decide
theorem seqIx0 {α : Type} (x : α) (xs : List α) : seqIndex? 0 (x :: xs).length = some 0 := by
  refine (ixN_seq (n := (x :: xs).length) (i := 0) (j := 0) ?_).1
  unfold ixN
  rw [if_pos (by decide), if_pos (by rw [List.length_cons]; omega)]
  rfl
theorem dpInts {K : PySem.W.Frag} {H : Hp} : ∀ cs : List Int, DpAll K H (cs.map V.int) (cs.map PyData.int)
  | [] => .nil
  | c :: r => .cons (.int c) (dpInts r)
theorem shInts (ns : List Int) : SeqAt.shaped (.list (ns.map PyData.int)) = true := by
  unfold SeqAt.shaped
  rw [Bool.and_eq_true]
  refine ⟨?_, ?_⟩
  · simp only [PyData.canLay0, canLayAll_ints]
  · simp only [PyData.depth, depthAll_ints]
    decide
theorem at_pick {xs : List V} {j : Int} (h0 : 0 ≤ j) (h1 : j < xs.length) : ∃ x, atI xs j = some x ∧ x ∈ xs := by
  obtain ⟨k, rfl⟩ : ∃ k : Nat, j = (k : Int) := ⟨j.toNat, (Int.toNat_of_nonneg h0).symm⟩
  have hk : k < xs.length := by omega
  exact ⟨xs[k], atI_nat (List.getElem?_eq_getElem hk), List.getElem_mem hk⟩
theorem units65 {k : Nat} {A : Around} (r : Room k A) : A.units + 65 < cLine := by have := r.un; omega
def rLenK (K : PySem.W.Frag) : List V → Hp → VK → Prop := fun xs H Q => ∃ p ys, xs = [.ref p] ∧ (SqL K H p ys ∨ SqT K H p ys) ∧ Q (.int ys.length) H
def rTupK (K : PySem.W.Frag) : List V → Hp → VK → Prop := fun xs H Q => ∃ p ys, xs = [.ref p] ∧ ((SqL K H p ys ∧ ∀ l, H l = none → Q (.ref l) (upd H l (.tup ys))) ∨ (SqT K H p ys ∧ Q (.ref p) H))
def rLstK (K : PySem.W.Frag) : List V → Hp → VK → Prop := fun xs H Q => ∃ p ys, xs = [.ref p] ∧ (SqL K H p ys ∨ SqT K H p ys) ∧ ∀ l, H l = none → Q (.ref l) (upd H l (.lst ys))
/-- joining ways behind a test, behind an expression -/
def tCutT (t : TT) : TT := fun σ H Q => ∃ Mid : Bool → Hp → Prop, t σ H Mid ∧ ∀ b H1, Mid b H1 → Q b H1
theorem pt_cut {X : Cx} {e : Expr} {t : TT} (h : PT X e t) : PT X e (tCutT t) := ⟨fun pins s σ H Q I hw => by
  obtain ⟨Mid, h1, q⟩ := hw
  exact thn (h.run pins s σ H _ I h1) fun c s1 ⟨H1, I1, m⟩ => ⟨H1, I1, q _ _ m⟩⟩
def tCutE (t : TE) : TE := fun σ H Q => ∃ Mid : VK, t σ H Mid ∧ ∀ v H1, Mid v H1 → Q v H1
theorem pe_cut {X : Cx} {e : Expr} {t : TE} (h : PE X e t) : PE X e (tCutE t) := ⟨fun pins s σ H Q I hw => by
  obtain ⟨Mid, h1, q⟩ := hw
  exact thn (h.run pins s σ H _ I h1) fun u s1 ⟨v, H1, I1, r, m⟩ => ⟨v, H1, I1, r, q _ _ m⟩⟩

/-! ### defs called where nothing is being shown (so that repr tells what stands there) -/
structure FnG (P : Program) (w : World) (K : PySem.W.Frag) (mg : Str → Option Value) (bs : Heap) (CX : CXT) (k : Nat) (f : Addr) (fd : FuncData) (ps : List Str) (sp : Sp) : Prop where
  many : ∀ vs H Q E, sp vs H Q E → vs.length = ps.length
  go : ∀ A : Around, A.guards = some [] → Room k A → ∀ (fr : List Env) (s : Shared) (H : Hp) (ar : Args) (us : List Value) (vs : List V) (Q : VK) (E : XK), Env0 P w K mg bs A fr s H → BindsTo s fd ar (ps.zip us) → Vals vs us → sp vs H Q E → codeAny (model P w) A (.call (.ref f) ar) (CR CX fr P w H s Q E) s
theorem FnG.of {P : Program} {w : World} {K : PySem.W.Frag} {mg : Str → Option Value} {bs : Heap} {CX : CXT} {k : Nat} {f : Addr} {fd : FuncData} {ps : List Str} {sp : Sp} (F : FnOk P w K mg bs CX k f fd ps sp) : FnG P w K mg bs CX k f fd ps sp :=
  ⟨F.len, fun A _ room fr s H ar us vs Q E e0 b r h => F.run A fr s H ar us vs Q E room e0 b r h⟩
theorem okG {CX : CXT} {P : Program} {w : World} {K : PySem.W.Frag} {mg : Str → Option Value} {bs : Heap} {x qual : Str} {st : Stmt} {f : Addr} {fd : FuncData} {N ps : List Str} {k : Nat} {sp : Sp} (F : Fun K x qual st f fd) (S : FnScope N ps (defScope st))
    (many : ∀ vs H Q E, sp vs H Q E → vs.length = ps.length)
    (body : ∀ (cdv : Value) (A : Around) (fr : List Env) (s : Shared) (H : Hp) (vs : List V) (Q : VK) (E : XK), A.guards = some [] → Room k (A.deeper (envOfC qual (defScope st) s.heap.objs.size f cdv)) → sp vs H Q E →
      ∃ t, PSs (cxOf CX P w K mg bs N qual (defScope st) f cdv A fr s H E) (defBody st) t ∧ t ⟨fun _ H' => Q .non H', Q, fun _ _ => False, fun _ _ => False⟩ (start N vs) H) : FnG P w K mg bs CX (k + 1) f fd ps sp := by
  obtain ⟨oc, od, kV, doc, pm, an, cdv, ct, osl, rfl, lk, code⟩ := F.ex
  refine ⟨many, fun A nothing room fr s H ar us vs Q E e0 bound rel told => ?_⟩
  have stays : ∀ b o, bs.get? b = some o → s.heap.get? b = some o := fun b o z => (e0.bs b o z).1
  have inK : K.In s.heap := e0.mod.kin.keeps stays
  have places : ∀ y ∈ ps.zip us, (defScope st).names.lookup y.1 = some .local ∨ ((defScope st).names.lookup y.1 = some .cell ∧ ((cellsFrom (s.heap.objs.size + 1) (defScope st).names []).lookup y.1).isSome = true) := by
    rintro ⟨n, v⟩ hy
    exact (S.par n (List.of_mem_zip hy).1).imp id fun c => ⟨c, PySem.W.cellsFrom_some _ _ _ (Or.inl c)⟩
  refine codeAny_call_function room.depth (inK _ _ lk) rfl S.co S.gen rfl (PySem.W.codeRec_of inK code) (bound _ _ _ _
    (wpAny_newFunctionEnv_cells S.kind places fun env he s1 made => ?_))
  subst he
  obtain ⟨t, runs, holds⟩ := body cdv A fr s H vs Q E nothing (room.deeper _) told
  refine ⟨(e0.mod.nolimit.keeps stays).keeps made.toInCall.keep, codeAny_func (wpAny_mono (runs.run [] s1 (start N vs) H _ (inv_start S room.hd e0 (many _ _ _ _ told) rel made) holds) (fun fl s2 z => ?_) fun _ _ z => z)⟩
  match fl, z with
  | .ret _, ⟨v, _, H', J, rv, q⟩ => exact ⟨v, H', J.os, J.bare, J.base, J.hok, rv, q⟩
  | .next, ⟨_, H', J, q⟩ => exact ⟨V.non, H', J.os, J.bare, J.base, J.hok, rfl, q⟩
  | .brk, ⟨_, _, _, q⟩ => exact q.elim
  | .cont, ⟨_, _, _, q⟩ => exact q.elim
theorem okG0 {P : Program} {w : World} {K : PySem.W.Frag} {mg : Str → Option Value} {bs : Heap} {x qual : Str} {st : Stmt} {f : Addr} {fd : FuncData} {N ps : List Str} {k : Nat} {sp : Sp} (F : Fun K x qual st f fd) (S : FnScope N ps (defScope st))
    (many : ∀ vs H Q E, sp vs H Q E → vs.length = ps.length)
    (body : ∀ (cdv : Value) (A : Around) (fr : List Env) (s : Shared) (H : Hp) (vs : List V) (Q : VK) (E : XK), A.guards = some [] → Room k (A.deeper (envOfC qual (defScope st) s.heap.objs.size f cdv)) → sp vs H Q E →
      ∃ t, PSs (cxOf CX0 P w K mg bs N qual (defScope st) f cdv A fr s H E).nox (defBody st) t ∧ t ⟨fun _ H' => Q .non H', Q, fun _ _ => False, fun _ _ => False⟩ (start N vs) H) : FnG P w K mg bs CX0 (k + 1) f fd ps sp :=
  okG F S many fun cdv A fr s H vs Q E g r h => by
    obtain ⟨t, p, q⟩ := body cdv A fr s H vs Q E g r h
    exact ⟨t, p.nox, q⟩
section
variable {X : Cx} {CX : CXT} {k : Nat} {f : Addr} {fd : FuncData} {ps : List Str} {sp : Sp} {ds : List Value} {dvs : List V} {E : XK}
theorem runG {pins : List (Addr × Obj)} {σ : L2.St} {H : Hp} {s : Shared} {Q : VK} {us : List Value} {vs : List V} (F : FnG X.prog X.w X.K X.mg X.base CX k f fd ps sp) (nothing : X.A.guards = some []) (room : Room k X.A) (hb : Binds X.K fd ps ds)
    (hd : Vals dvs ds) (out : Passes CX X E) (I : Inv X pins σ H s) (r : Vals vs us) (told : sp (vs ++ dvs) H Q E) : wpAny (model X.prog X.w) X.A (call (.ref f) us) (EP X pins σ Q) X.xe s := by
  have rel : Vals (vs ++ dvs) (us ++ ds) := r.append hd
  have size : (us ++ ds).length = ps.length := rel.length ▸ F.many _ _ _ _ told
  refine wpAny_call (codeAny_mono (F.go X.A nothing room X.stack s H _ _ _ Q E I.env0 (hb s us I.kIn size) rel told) fun res s2 z => ?_)
  match res, z with
  | .error e, z => exact out pins σ H s e s2 I z
  | .ok (.ret u), z => exact I.after z
  | .ok .next, z => exact z.elim
  | .ok .brk, z => exact z.elim
  | .ok .cont, z => exact z.elim
theorem pe_callG {x : Str} {p pos : Pos} {e : Expr} {es : List Expr} {t : TA} (F : FnG X.prog X.w X.K X.mg X.base CX k f fd ps sp) (nothing : X.A.guards = some []) (room : Room k X.A) (hg : Gl X x) (hm : X.mg x = some (.ref f)) (kp : PySem.W.keepIn X.K (.ref f) = true)
    (hb : Binds X.K fd ps ds) (hd : Vals dvs ds) (out : Passes CX X E) (ha : PA X (e :: es) t) (nd : (x == ("__debug__" : Str)) = false := by decide) (he : starEach (e :: es) X.env = (false, eval e X.env) :: starEach es X.env := by rfl)
    (hpl : (backTo pos (starEach es X.env)).any (·.1) = false := by rfl) : PE X (.Call (.Name x p) (e :: es) [] pos) (tCall sp dvs E t) := by
  refine ⟨fun pins s σ H Q I told => wpAny_Call_Name_kw (ld_glob I hg hm ?_ nd)⟩
  refine PySem.W.callWith_K (h₀ := X.base) I.ok.mod.kin kp (thn (ha.run pos pins s σ H _ I told) ?_) he hpl
  rintro us s1 ⟨vs, H1, J, r, q⟩
  exact ⟨J.kIn, runG F nothing room hb hd out J r q⟩
end
/-! ### what is shown by repr: plain data, whose lists and dicts were made by the law -/
def kD : Key → PyData
  | .inl i => .int i
  | .inr x => .str x
mutual
inductive Sh (H : Hp) : V → PyData → Prop
  | non : Sh H .non .none
  | bl (b : Bool) : Sh H (.bl b) (.bool b)
  | int (i : Int) : Sh H (.int i) (.int i)
  | str (x : Str) : Sh H (.str x) (.str x)
  | lst {a : Addr} {xs : List V} {ds : List PyData} : H a = some (.lst xs) → a ≠ sysModules → ShAll H xs ds → Sh H (.ref a) (.list ds)
  | tup {a : Addr} {xs : List V} {ds : List PyData} : H a = some (.tup xs) → ShAll H xs ds → Sh H (.ref a) (.tuple ds)
  | dic {a : Addr} {kvs : List (Key × V)} {ds : List PyData} : H a = some (.dK kvs) → ShAll H (kvs.map (·.2)) ds → Sh H (.ref a) (.dict ((kvs.map fun kv => kD kv.1).zip ds))
inductive ShAll (H : Hp) : List V → List PyData → Prop
  | nil : ShAll H [] []
  | cons {v : V} {vs : List V} {d : PyData} {ds : List PyData} : Sh H v d → ShAll H vs ds → ShAll H (v :: vs) (d :: ds)
end
theorem ShAll.length {H : Hp} : ∀ {vs : List V} {ds : List PyData}, ShAll H vs ds → vs.length = ds.length
  | _, _, .nil => rfl
  | _, _, .cons _ t => by rw [List.length_cons, List.length_cons, t.length]
mutual
theorem Sh.same {H H' : Hp} (s : Same H H') : ∀ {v : V} {d : PyData}, Sh H v d → Sh H' v d
  | _, _, .non => .non
  | _, _, .bl b => .bl b
  | _, _, .int i => .int i
  | _, _, .str x => .str x
  | _, _, .lst h n t => .lst (s _ _ h) n (t.same s)
  | _, _, .tup h t => .tup (s _ _ h) (t.same s)
  | _, _, .dic h t => .dic (s _ _ h) (t.same s)
theorem ShAll.same {H H' : Hp} (s : Same H H') : ∀ {vs : List V} {ds : List PyData}, ShAll H vs ds → ShAll H' vs ds
  | _, _, .nil => .nil
  | _, _, .cons h t => .cons (h.same s) (t.same s)
end
/-- the name of the class of such data -/
def tyD : PyData → String
  | .none => "NoneType"
  | .bool _ => "bool"
  | .int _ => "int"
  | .str _ => "str"
  | .list _ => "list"
  | .tuple _ => "tuple"
  | .dict _ => "dict"
theorem Sh.ty {K : PySem.W.Frag} {H : Hp} {v : V} {d : PyData} (h : Sh H v d) : TyX K H v (.type (tyD d)) := by
  cases h with
  | non => exact .base .non
  | bl b => exact .base (.bl b)
  | int i => exact .base (.int i)
  | str x => exact .base (.str x)
  | lst h _ _ => exact .base (.lst h)
  | tup h _ => exact .base (.tup h)
  | dic h _ => exact .base (.dK h)
section
variable {X : Cx} {pins : List (Addr × Obj)} {σ : L2.St} {H : Hp} {s : Shared}
theorem pairs_keys {P : Program} {w : World} {h : Heap} : ∀ {es : List DictEntry} {kvs : List (Key × Value)}, Pairs (mixKind P w) es kvs → ReadsAll h (es.map (·.key)) (kvs.map fun kv => kD kv.1) []
  | _, _, .nil => .nil
  | _, _, .cons (kv := kv) hk _ t => by
    have r := pairs_keys (h := h) t
    rcases keyIs_shape (k := kv.1) hk with ⟨i, u, e1, e2⟩ | ⟨x, u, e1, e2⟩
    · rw [List.map_cons, List.map_cons, e1, e2]
      exact ReadsAll.cons (as := []) (.int i u) r
    · rw [List.map_cons, List.map_cons, e1, e2]
      exact ReadsAll.cons (as := []) (.str x u) r
theorem pairs_vals {P : Program} {w : World} : ∀ {es : List DictEntry} {kvs : List (Key × Value)}, Pairs (mixKind P w) es kvs → es.map (·.val) = kvs.map (·.2)
  | _, _, .nil => rfl
  | _, _, .cons _ hv t => by rw [List.map_cons, List.map_cons, hv, pairs_vals t]
theorem kv_rel : ∀ {kvs : List (Key × V)} {vs : List (Key × Value)}, KV kvs vs → kvs.map (·.1) = vs.map (·.1) ∧ Vals (kvs.map (·.2)) (vs.map (·.2))
  | _, _, .nil => ⟨rfl, .nil⟩
  | _, _, .cons h t => by
    obtain ⟨a, b⟩ := kv_rel t
    exact ⟨by rw [List.map_cons, List.map_cons, a, h.1], .cons h.2 b⟩
mutual
theorem Sh.reads (I : Inv X pins σ H s) : ∀ (v : V) (d : PyData) (u : Value), Sh H v d → RelV v u → ∃ as, Reads s.heap u d as ∧ sysModules ∉ as
  | _, _, _, .non, r => by cases r; exact ⟨_, .none, List.not_mem_nil⟩
  | _, _, _, .bl b, r => by cases r; exact ⟨_, .bool b, List.not_mem_nil⟩
  | _, _, _, .int i, r => by obtain ⟨t, rfl⟩ := r; exact ⟨_, .int i t, List.not_mem_nil⟩
  | _, _, _, .str x, r => by obtain ⟨t, rfl⟩ := r; exact ⟨_, .str x t, List.not_mem_nil⟩
  | _, _, _, .lst (a := a) (xs := xs) h n t, r => by
    cases r
    obtain ⟨_, its, c, rv, ho⟩ := (show ObjOk X.prog X.w H s.heap a (.lst xs) from I.hok a _ h)
    obtain ⟨as, q, m⟩ := ShAll.reads I _ _ its t rv
    exact ⟨_, .list ho rfl rfl (by simpa using q), fun z => (List.mem_cons.mp z).elim (fun e => n e.symm) m⟩
  | _, _, _, .tup (a := a) (xs := xs) h t, r => by
    cases r
    obtain ⟨_, its, rv, o, ho, hc, c, hd⟩ := (show ObjOk X.prog X.w H s.heap a (.tup xs) from I.hok a _ h)
    obtain ⟨as, q, m⟩ := ShAll.reads I _ _ its t rv
    exact ⟨_, .tuple ho hc hd (by simpa using q), m⟩
  | _, _, _, .dic (a := a) (kvs := kvs) (ds := ds) h t, r => by
    cases r
    obtain ⟨_, low, vs, rel, o, es, ep, ho, hx, hd, _, hp, _⟩ := (show ObjOk X.prog X.w H s.heap a (.dK kvs) from I.hok a _ h)
    obtain ⟨rk, rv⟩ := kv_rel rel
    obtain ⟨as, q, m⟩ := ShAll.reads I _ _ (vs.map (·.2)) t rv
    have k1 : (kvs.map fun kv => kD kv.1) = vs.map fun kv => kD kv.1 := by
      have := congrArg (List.map kD) rk
      rw [List.map_map, List.map_map] at this
      exact this
    have ln : (kvs.map fun kv => kD kv.1).length = ds.length := by
      have := t.length
      rw [List.length_map] at this
      rw [List.length_map, this]
    refine ⟨_, .dict (as := []) (bs := as) ho hx.1 hd ?_ ?_, ?_⟩
    · rw [List.map_fst_zip (Nat.le_of_eq ln), k1]
      exact pairs_keys hp
    · rw [List.map_snd_zip (Nat.le_of_eq ln.symm), pairs_vals hp]
      exact q
    · intro z
      rcases List.mem_cons.mp z with e | e
      · exact absurd low (by rw [← e]; simp)
      · exact m e
theorem ShAll.reads (I : Inv X pins σ H s) : ∀ (vs : List V) (ds : List PyData) (us : List Value), ShAll H vs ds → Vals vs us → ∃ as, ReadsAll s.heap us ds as ∧ sysModules ∉ as
  | _, _, _, .nil, r => by cases r; exact ⟨_, .nil, List.not_mem_nil⟩
  | _, _, _, .cons h t, r => by
    cases r with
    | cons r1 r2 =>
      obtain ⟨as, q1, m1⟩ := Sh.reads I _ _ _ h r1
      obtain ⟨bs, q2, m2⟩ := ShAll.reads I _ _ _ t r2
      exact ⟨_, .cons q1 q2, fun z => (List.mem_append.mp z).elim m1 m2⟩
end
end
def rRepr : List V → Hp → VK → Prop := fun xs H Q => ∃ x d, xs = [x] ∧ Sh H x d ∧ d.showable = true ∧ d.shown.length ≤ sizeLine ∧ d.depth ≤ 50 ∧ Q (.str d.shown) H
theorem call_repr {X : Cx} (nothing : X.A.guards = some []) (hu : X.A.units + 64 < cLine) : CallR X (.builtin "repr") rRepr := by
  intro pins s σ H xs us Q I r h
  obtain ⟨x, d, rfl, sh, able, fits, deep, q⟩ := h
  cases r with
  | @cons _ u _ _ r1 r2 =>
    cases r2
    obtain ⟨as, rd, low⟩ := Sh.reads I _ _ _ sh r1
    have fin : ∀ h' t tk, (∀ b o, s.heap.get? b = some o → h'.get? b = some o) → EP X pins σ Q (.str d.shown t) { s with heap := h', toks := tk } := fun h' t tk kept => ⟨.str d.shown, H, I.kept kept, ⟨t, rfl⟩, q⟩
    cases sh with
    | non => cases r1; exact PySem.P.repr_of_none (fin _ _ _ fun _ _ z => z)
    | bl b => cases r1; exact PySem.P.repr_of_bool (fin _ _ _ fun _ _ z => z)
    | int i => obtain ⟨t, rfl⟩ := r1; exact PySem.P.repr_of_int (of_decide_eq_true able) (fin _ _ _ fun _ _ z => z)
    | str x => obtain ⟨t, rfl⟩ := r1; exact PySem.P.repr_of_str (fin _ _ _ fun _ _ z => z) fits
    | lst _ _ _ => cases r1; exact repr_of_reads' rd able (fun _ => low) nothing (by omega) (fun _ _ z => z) fin fits
    | tup _ _ => cases r1; exact repr_of_reads' rd able (fun _ => low) nothing (by omega) (fun _ _ z => z) fin fits
    | dic _ _ => cases r1; exact repr_of_reads' rd able (fun _ => low) nothing (by omega) (fun _ _ z => z) fin fits
/-- a display's list is none of the interpreter's own -/
def tLstN (t : TA) : TE := fun σ H Q => t σ H fun xs H1 => xs.length ≤ sizeLine ∧ ∀ p, H1 p = none → p ≠ sysModules → Q (.ref p) (upd H1 p (.lst xs))
theorem pe_lstN {X : Cx} {es : List Expr} {t : TA} {pos : Pos} (h : PA X es t) : PE X (.List es pos) (tLstN t) := by
  refine ⟨fun pins s σ H Q I told => wpAny_List_spliced (thn (h.run pos pins s σ H _ I told) ?_)⟩
  rintro us s1 ⟨xs, H1, J, r, small, q⟩
  have free : H1 s1.heap.objs.size = none := J.hok.fresh (Nat.le_refl _)
  refine ⟨by rw [← r.length]; exact small, .ref s1.heap.objs.size, upd H1 s1.heap.objs.size (.lst xs), J.laid (t' := s1.toks) (fun b u z => Heap.get?_push_of_some _ z) (Nat.le_refl _) ⟨small, us, 0, r, Heap.get?_push_size _ rfl⟩, rfl, q _ free (Nat.ne_of_gt J.big)⟩
/-! ### the end of a law whose defs are called where nothing is being shown -/
theorem law_G {P : Program} {w : World} {K : PySem.W.Frag} {mg mb : Str → Option Value} {CX : CXT} {k : Nat} {fa a : Addr} {fd : FuncData} {x : Str} {sp : Sp} {s : Shared} {vs : List Value} {ns : List Int}
    (inK : K.In s.heap) (gl : s.heap.Ns mainGlobals mg) (bl : s.heap.Ns builtinsNs mb) (boot : ∀ y : Str, y ≠ "__name__" → mb y = bootBuiltins y) (lim : s.heap.NoLimit) (ng : s.gens = #[])
    (at_ : s.heap.get? a = some { cls := .type "list", data := .seq vs.toArray }) (are : IntsAre vs ns) (small : ns.length ≤ sizeLine) (room : Room k callerA)
    (F : ∀ bs : Heap, K.In bs → bs.Ns mainGlobals mg → FnG P w K mg bs CX k fa fd [x] sp) (bound : ∀ (s : Shared) (u : Value), BindsTo s fd ⟨[u], []⟩ [(x, u)])
    (told : ∀ H : Hp, Only H → SqL K H a (ns.map V.int) → sp [.ref a] H (fun v _ => v = .bl true) fun _ _ _ => False)
    (noX : ∀ H e s', CX [] H s (fun _ _ _ => False) e s' → False) :
    codeAny (model P w) callerA (.call (.ref fa) ⟨[.ref a], []⟩) (fun r s' => r = .ok (.ret (.bool true)) ∧ OldK s.heap s'.heap ∧ s'.os = s.os ∧ AllBare s'.gens) s := by
  have main : ∀ H : Hp, Only H → SqL K H a (ns.map V.int) → HOk P w H s.heap → (∀ b, H b ≠ none → b = a) → (H a ≠ none → K.lookup a = none) →
      codeAny (model P w) callerA (.call (.ref fa) ⟨[.ref a], []⟩) (fun r s' => r = .ok (.ret (.bool true)) ∧ OldK s.heap s'.heap ∧ s'.os = s.os ∧ AllBare s'.gens) s := by
    intro H only list ok alone out
    have seen : ∀ {b : Addr} {o : Obj}, s.heap.get? b = some o → H b = none → (hidT s.heap H).get? b = some o := fun z n => hidT_get z n
    have dict : ∀ {b : Addr} {o : Obj} {es : Array DictEntry} {ep : Nat}, s.heap.get? b = some o → o.data = .dict es ep → H b = none := by
      intro b o es ep z dz
      refine Classical.byContradiction fun some_ => ?_
      have eb := alone b some_
      rw [eb, at_] at z
      cases z
      cases (show Data.seq vs.toArray _ = Data.dict es ep from dz)
    have names : ∀ {b : Addr} {m : Str → Option Value}, s.heap.Ns b m → (hidT s.heap H).Ns b m := by
      rintro b m ⟨o, es, ep, z, dz, rest⟩
      exact ⟨o, es, ep, seen z (dict z dz), dz, rest⟩
    have inB : K.In (hidT s.heap H) := by
      intro b o z
      refine seen (inK b o z) (Classical.byContradiction fun some_ => ?_)
      have eb := alone b some_
      subst eb
      rw [out some_] at z
      cases z
    obtain ⟨ml, l1, l2⟩ := lim
    have mod : Mod K mg (hidT s.heap H) := ⟨inB, names gl, ⟨mb, names bl, boot⟩, ⟨ml, names l1, l2⟩⟩
    have env : Env0 P w K mg (hidT s.heap H) callerA [] s H := { frames := rfl, mod := mod, bs := fun b o z => of_hidT z, bsz := Nat.le_of_eq (hidT_size _ _), funs := trivial, frf := (fun b hb => by cases (show b ∈ ([] : List Addr) from hb)), hok := ok, bare := .of_eq ng }
    refine codeAny_mono ((F _ inB (names gl)).go callerA rfl room [] s H _ [.ref a] [.ref a] _ _ env (bound s (.ref a)) (.cons rfl .nil) (told H only list)) fun r s2 z => ?_
    match r, z with
    | .error e, z => exact (noX H e s2 z).elim
    | .ok .next, z => exact z.elim
    | .ok .brk, z => exact z.elim
    | .ok .cont, z => exact z.elim
    | .ok (.ret u), ⟨v, H2, os, bare, un, ok2, rel, q⟩ =>
      cases (show v = V.bl true from q)
      cases (show u = Value.bool true from rel)
      refine ⟨rfl, OldK.of_keep fun b o z => ?_, os, bare⟩
      by_cases hb : H b = none
      · exact un.keep b o z hb (fun m => by cases (show b ∈ ([] : List Addr) from m)) (fun m => by cases m)
      · rcases only b with n | ⟨ob, xs, f⟩
        · exact absurd n hb
        · have o1 := (ok b _ f).1
          have o2 := (ok2 b _ (un.frzs b ob _ f)).1
          rw [z] at o1
          rw [Option.some.inj o1]
          exact o2
  have rel := vals_ints are
  cases hk : K.lookup a with
  | some o =>
    have z := inK a o hk
    rw [at_] at z
    cases z
    exact main (fun _ => none) (fun _ => .inl rfl) (.inr ⟨_, vs.toArray, _, hk, rfl, rfl, rfl, by rw [List.size_toArray, are.length]; exact small, by simpa using rel⟩) (fun b u z => by cases z) (fun b z => absurd rfl z) fun z => absurd rfl z
  | none =>
    have on : ∀ b : Addr, b = a → (if b = a then some (HO.frz { cls := .type "list", data := .seq vs.toArray } (.lst (ns.map V.int))) else none) = some (HO.frz { cls := .type "list", data := .seq vs.toArray } (.lst (ns.map V.int))) := fun b e => if_pos e
    refine main (fun b => if b = a then some (.frz { cls := .type "list", data := .seq vs.toArray } (.lst (ns.map V.int))) else none) (fun b => ?_) (.inl (.inr ⟨_, on a rfl⟩)) (fun b u z => ?_) (fun b z => ?_) fun _ => hk
    · rcases Classical.em (b = a) with e | e
      · exact .inr ⟨_, _, on b e⟩
      · exact .inl (if_neg e)
    · rcases Classical.em (b = a) with e | e
      · have := (on b e).symm.trans z
        cases this
        subst e
        exact ⟨at_, by rw [List.length_map]; exact small, vs, _, rel, at_⟩
      · have := (if_neg e).symm.trans z
        cases this
    · exact Classical.byContradiction fun e => z (if_neg e)
theorem walk_G {l : PySem.W.OpenLaw} {n k : Nat} {q : Program} {loose : List Str} {XP : (Str → Option Value) → Heap → Prop} {YP : World → Heap → Prop} {d : DefRec} {K : Params → PySem.W.Frag} {CX : World → CXT} {sp : World → Sp} {x : Str}
    (most : l.most = some n) (small : n ≤ sizeLine) (nodef : d.params.defaults = []) (room : Room k callerA) (inK : ∀ (w : World) (h : Heap), YP w h → (K w.params).In h)
    (F : ∀ (w : World) (mg : Str → Option Value) (fa : Addr) (h : Heap), (K w.params).In h → h.Ns mainGlobals mg → mg d.name = some (.ref fa) →
      ∃ fd : FuncData, (∀ (s : Shared) (u : Value), BindsTo s fd ⟨[u], []⟩ [(x, u)]) ∧ ∀ bs : Heap, (K w.params).In bs → bs.Ns mainGlobals mg → FnG l.prog w (K w.params) mg bs (CX w) k fa fd [x] (sp w))
    (told : ∀ (w : World) (H : Hp) (a : Addr) (ns : List Int), ns.length ≤ n → Only H → SqL (K w.params) H a (ns.map V.int) → sp w [.ref a] H (fun v _ => v = .bl true) fun _ _ _ => False)
    (noX : ∀ (w : World) (H : Hp) (s : Shared) (e : Value) (s' : Shared), CX w [] H s (fun _ _ _ => False) e s' → False) :
    PySem.W.WalkO q loose XP YP l.row.toRowW d [] (fun f vs => PySem.call f vs) := by
  refine Att.attach_call most nodef fun w s₀ s₁ mg mb fa o pm cd doc a vs ns G Y ho hd hcd hmg hobj hints hlen hg => ?_
  obtain ⟨fd, bound, FG⟩ := F w mg fa _ (inK w _ Y) G.T.g hmg
  exact law_G (inK w _ Y) G.T.g G.T.b G.T.builtins G.T.nolimit hg hobj hints (Nat.le_trans hlen small) room FG bound (fun H only list => told w H a ns hlen only list) fun H e s2 => noX w H s₁ e s2

/-! ### the end of a law whose defs are called where nothing is being shown, with tables of code objects -/
def LawAtG (l : PySem.W.OpenLaw) (w : World) (K : PySem.W.Frag) (CX : CXT) (k n : Nat) (x : Str) (mg : Str → Option Value) (f : Addr) (top : Heap) : Prop :=
  ∃ (fd : FuncData) (ts : List (Addr × Addr)) (sp : Sp), (∀ t ∈ ts, top.get? t.2 = some { cls := .none, data := .fields #[] }) ∧ (∀ t ∈ ts, K.lookup t.2 = none) ∧ (∀ t ∈ ts, PySem.W.CodeHd top t.1 t.2) ∧ (∀ (st : Shared) (v : Value), BindsTo st fd ⟨[v], []⟩ [(x, v)]) ∧
    (∀ (H : Hp) (p : Addr) (zs : List Int), zs.length ≤ n → (∀ z ∈ zs, Builtin.Int.intBits z ≤ 1048576) → (∀ t ∈ ts, H t.2 = some (.tbl #[])) → SqL K H p (zs.map V.int) → sp [.ref p] H (fun v _ => v = .bl true) fun _ _ _ => False) ∧
    ∀ under : Heap, K.In under → under.Ns mainGlobals mg → (∀ t ∈ ts, LamX.TabB under mg t.1 t.2) → FnG l.prog w K mg under CX k f fd [x] sp
theorem law_GT {P : Program} {w : World} {K : PySem.W.Frag} {mg mb : Str → Option Value} {CX : CXT} {k : Nat} {f p : Addr} {ts : List (Addr × Addr)} {fd : FuncData} {x : Str} {sp : Sp} {s : Shared} {us : List Value} {zs : List Int}
    (inK : K.In s.heap) (gl : s.heap.Ns mainGlobals mg) (bl : s.heap.Ns builtinsNs mb) (boot : ∀ y : Str, y ≠ "__name__" → mb y = bootBuiltins y) (lim : s.heap.NoLimit) (ng : s.gens = #[])
    (bare : ∀ t ∈ ts, s.heap.get? t.2 = some { cls := .none, data := .fields #[] }) (out : ∀ t ∈ ts, K.lookup t.2 = none) (code : ∀ t ∈ ts, PySem.W.CodeHd s.heap t.1 t.2)
    (bmod : ∃ (m : Addr) (o : Obj), mg "__builtins__" = some (.ref m) ∧ m ≠ builtinsNs ∧ s.heap.get? m = some o ∧ o.cls = .type "module" ∧ o.dict = some builtinsNs ∧ o.data = .plain)
    (script : s.heap.get? p = some { cls := .type "list", data := .seq us.toArray }) (are : IntsAre us zs) (small : zs.length ≤ sizeLine) (room : Room k callerA)
    (F : ∀ under : Heap, K.In under → under.Ns mainGlobals mg → (∀ t ∈ ts, LamX.TabB under mg t.1 t.2) → FnG P w K mg under CX k f fd [x] sp) (bound : ∀ (st : Shared) (v : Value), BindsTo st fd ⟨[v], []⟩ [(x, v)])
    (told : ∀ H : Hp, (∀ t ∈ ts, H t.2 = some (.tbl #[])) → SqL K H p (zs.map V.int) → sp [.ref p] H (fun v _ => v = .bl true) fun _ _ _ => False)
    (noX : ∀ H e st, CX [] H s (fun _ _ _ => False) e st → False) :
    codeAny (model P w) callerA (.call (.ref f) ⟨[.ref p], []⟩) (fun r st => r = .ok (.ret (.bool true)) ∧ OldK s.heap st.heap ∧ st.os = s.os ∧ AllBare st.gens) s := by
  have tabAt : ∀ c ∈ ts.map Prod.snd, s.heap.get? c = some { cls := .none, data := .fields #[] } := by
    intro c hc
    obtain ⟨t, ht, rfl⟩ := List.mem_map.mp hc
    exact bare t ht
  have inTs : ∀ {t : Addr × Addr}, t ∈ ts → t.2 ∈ ts.map Prod.snd := fun ht => List.mem_map_of_mem ht
  have pNo : ¬ p ∈ ts.map Prod.snd := by
    intro hp
    have both := (tabAt p hp).symm.trans script
    have kinds := congrArg (fun o : Option Obj => o.map Obj.cls) both
    simp at kinds
  have main : ∀ H : Hp, (∀ t ∈ ts, H t.2 = some (.tbl #[])) → (∀ c, H c = none ∨ c ∈ ts.map Prod.snd ∨ ∃ o ys, H c = some (.frz o (.lst ys))) → SqL K H p (zs.map V.int) → HOk P w H s.heap → (∀ c, H c ≠ none → c = p ∨ c ∈ ts.map Prod.snd) → (H p ≠ none → K.lookup p = none) →
      codeAny (model P w) callerA (.call (.ref f) ⟨[.ref p], []⟩) (fun r st => r = .ok (.ret (.bool true)) ∧ OldK s.heap st.heap ∧ st.os = s.os ∧ AllBare st.gens) s := by
    intro H tabs kinds list ok alone off
    have free : ∀ {c : Addr} {o : Obj}, s.heap.get? c = some o → (∀ ys m, ¬ o.data = .seq ys m) → ¬ o.data = .fields #[] → H c = none := by
      intro c o ho n1 n2
      refine Classical.byContradiction fun some_ => ?_
      rcases alone c some_ with rfl | hc
      · cases Option.some.inj (ho.symm.trans script)
        exact n1 _ _ rfl
      · cases Option.some.inj (ho.symm.trans (tabAt c hc))
        exact n2 rfl
    have names : ∀ {c : Addr} {m : Str → Option Value}, s.heap.Ns c m → (hidT s.heap H).Ns c m := by
      rintro c m ⟨o, es, ep, ho, dz, more⟩
      refine ⟨o, es, ep, hidT_get ho (free ho (fun ys j z => ?_) fun z => ?_), dz, more⟩ <;> exact Data.noConfusion (dz.symm.trans z)
    have inB : K.In (hidT s.heap H) := by
      intro c o ho
      refine hidT_get (inK c o ho) (Classical.byContradiction fun some_ => ?_)
      rcases alone c some_ with rfl | hc
      · exact absurd (ho.symm.trans (off some_)) (by simp)
      · obtain ⟨t, ht, rfl⟩ := List.mem_map.mp hc
        exact absurd (ho.symm.trans (out t ht)) (by simp)
    obtain ⟨ml, l1, l2⟩ := lim
    have mod : L2.Mod K mg (hidT s.heap H) := ⟨inB, names gl, ⟨mb, names bl, boot⟩, ⟨ml, names l1, l2⟩⟩
    have tables : ∀ t ∈ ts, LamX.TabB (hidT s.heap H) mg t.1 t.2 := by
      intro t ht
      constructor
      · obtain ⟨o, ys, file, tf, flags, tg, inF, text, tt, c1, c2, c3, c4, c5, c6, c7, c8, c9, c10⟩ := code t ht
        refine ⟨o, ys, file, tf, flags, tg, inF, text, tt, hidT_get c1 (free c1 (fun us j z => Data.noConfusion (c3.symm.trans z)) fun z => ?_), c2, c3, c4, c5, c6, c7, c8, c9, c10⟩
        have z2 := c3.symm.trans z
        cases z2
        simp at c4
      · obtain ⟨m, o, b1, b2, b3, b4, b5, b6⟩ := bmod
        refine ⟨m, o, b1, b2, fun z => ?_, fun z => ?_, hidT_get b3 (free b3 (fun us j z => Data.noConfusion (b6.symm.trans z)) fun z => Data.noConfusion (b6.symm.trans z)), b4, b5, b6⟩
        · obtain ⟨o', es, ep, ho, dz, _⟩ := gl
          subst z
          cases Option.some.inj (b3.symm.trans ho)
          exact Data.noConfusion (b6.symm.trans dz)
        · subst z
          cases Option.some.inj (b3.symm.trans (bare t ht))
          exact Data.noConfusion b6
      · intro z
        obtain ⟨o', es, ep, ho, dz, _⟩ := gl
        rw [z] at ho
        cases Option.some.inj (ho.symm.trans (bare t ht))
        exact Data.noConfusion dz
    have env : Env0 P w K mg (hidT s.heap H) callerA [] s H := { frames := rfl, mod := mod, bs := fun c o z => of_hidT z, bsz := Nat.le_of_eq (hidT_size _ _), funs := trivial, frf := (fun c hc => by cases (show c ∈ ([] : List Addr) from hc)), hok := ok, bare := .of_eq ng }
    refine codeAny_mono ((F _ inB (names gl) tables).go callerA rfl room [] s H _ [.ref p] [.ref p] _ _ env (bound s (.ref p)) (.cons rfl .nil) (told H tabs list)) fun r st z => ?_
    match r, z with
    | .error e, z => exact (noX H e st z).elim
    | .ok .next, z => exact z.elim
    | .ok .brk, z => exact z.elim
    | .ok .cont, z => exact z.elim
    | .ok (.ret u), ⟨v, H2, os, bg, un, ok2, rel, q⟩ =>
      cases (show v = V.bl true from q)
      cases (show u = Value.bool true from rel)
      have old : ∀ c o, ¬ c ∈ ts.map Prod.snd → s.heap.get? c = some o → st.heap.get? c = some o := by
        intro c o nc ho
        by_cases hc : H c = none
        · exact un.keep c o ho hc (fun m => by cases (show c ∈ ([] : List Addr) from m)) (fun m => by cases m)
        · rcases kinds c with n | n | ⟨ob, ys, fz⟩
          · exact absurd n hc
          · exact absurd n nc
          · have o1 := (ok c _ fz).1
            have o2 := (ok2 c _ (un.frzs c ob _ fz)).1
            rw [ho] at o1
            rw [Option.some.inj o1]
            exact o2
      have grown : ∀ c ∈ ts.map Prod.snd, ∃ more : Array Value, st.heap.get? c = some { cls := .none, data := .fields more } := by
        intro c hc
        obtain ⟨t, ht, rfl⟩ := List.mem_map.mp hc
        obtain ⟨more, hm⟩ := un.tbls t.2 #[] (tabs t ht)
        exact ⟨_, ok2 t.2 _ hm⟩
      refine ⟨rfl, ⟨fun c o ho => ?_, fun c o ho => ?_⟩, os, bg⟩
      · by_cases hc : c ∈ ts.map Prod.snd
        · obtain ⟨more, hm⟩ := grown c hc
          obtain ⟨t, ht, rfl⟩ := List.mem_map.mp hc
          cases Option.some.inj (ho.symm.trans (bare t ht))
          exact .inr (.inl ⟨((code t ht).tab (bare t ht)).isCodeTable, rfl, #[], more, rfl, by rw [Array.empty_append]; exact hm⟩)
        · exact .inl (old c o hc ho)
      · by_cases hc : c ∈ ts.map Prod.snd
        · obtain ⟨more, hm⟩ := grown c hc
          exact ⟨_, hm⟩
        · exact ⟨o, old c o hc ho⟩
  have rel := vals_ints are
  let base : Hp := fun c => if c ∈ ts.map Prod.snd then some (.tbl #[]) else none
  have onT : ∀ {c : Addr}, c ∈ ts.map Prod.snd → base c = some (.tbl #[]) := fun hc => if_pos hc
  have offT : ∀ {c : Addr}, ¬ c ∈ ts.map Prod.snd → base c = none := fun hc => if_neg hc
  cases hk : K.lookup p with
  | some o =>
    cases Option.some.inj ((inK p o hk).symm.trans script)
    refine main base (fun t ht => onT (inTs ht)) (fun c => ?_) (.inr ⟨_, us.toArray, _, hk, rfl, rfl, rfl, by rw [List.size_toArray, are.length]; exact small, by simpa using rel⟩) (fun c u z => ?_) (fun c z => ?_) fun z => absurd (offT pNo) z
    · rcases Classical.em (c ∈ ts.map Prod.snd) with hc | hc
      · exact .inr (.inl hc)
      · exact .inl (offT hc)
    · rcases Classical.em (c ∈ ts.map Prod.snd) with hc | hc
      · cases Option.some.inj ((onT hc).symm.trans z)
        exact tabAt c hc
      · exact absurd ((offT hc).symm.trans z) (by simp)
    · exact .inr (Classical.byContradiction fun hc => z (offT hc))
  | none =>
    let frz : HO := .frz { cls := .type "list", data := .seq us.toArray } (.lst (zs.map V.int))
    have onP : (fun c => if c = p then some frz else base c) p = some frz := if_pos rfl
    have offP : ∀ {c : Addr}, ¬ c = p → (fun c => if c = p then some frz else base c) c = base c := fun hc => if_neg hc
    refine main (fun c => if c = p then some frz else base c) (fun t ht => ?_) (fun c => ?_) (.inl (.inr ⟨_, onP⟩)) (fun c u z => ?_) (fun c z => ?_) fun _ => hk
    · refine (offP fun e => pNo ?_).trans (onT (inTs ht))
      rw [← e]
      exact inTs ht
    · rcases Classical.em (c = p) with rfl | e
      · exact .inr (.inr ⟨_, _, onP⟩)
      · rcases Classical.em (c ∈ ts.map Prod.snd) with hc | hc
        · exact .inr (.inl hc)
        · exact .inl ((offP e).trans (offT hc))
    · rcases Classical.em (c = p) with rfl | e
      · cases Option.some.inj (onP.symm.trans z)
        exact ⟨script, by rw [List.length_map]; exact small, us, _, rel, script⟩
      · have z := (offP e).symm.trans z
        rcases Classical.em (c ∈ ts.map Prod.snd) with hc | hc
        · cases Option.some.inj ((onT hc).symm.trans z)
          exact tabAt c hc
        · exact absurd ((offT hc).symm.trans z) (by simp)
    · rcases Classical.em (c = p) with e | e
      · exact .inl e
      · exact .inr (Classical.byContradiction fun hc => z ((offP e).trans (offT hc)))
theorem walk_GT {l : PySem.W.OpenLaw} {n k : Nat} {q : Program} {loose : List Str} {XP : (Str → Option Value) → Heap → Prop} {YP : World → Heap → Prop} {d : DefRec} {CX : World → CXT} {x : Str}
    (most : l.most = some n) (small : n ≤ sizeLine) (nodef : d.params.defaults = []) (room : Room k callerA)
    (F : ∀ (w : World) (mg : Str → Option Value) (f : Addr) (top : Heap), YP w top → top.Ns mainGlobals mg → mg d.name = some (.ref f) → ∃ K : PySem.W.Frag, K.In top ∧ LawAtG l w K (CX w) k n x mg f top)
    (noX : ∀ (w : World) (H : Hp) (s : Shared) (e : Value) (st : Shared), CX w [] H s (fun _ _ _ => False) e st → False) :
    PySem.W.WalkO q loose XP YP l.row.toRowW d [] (fun f vs => PySem.call f vs) := by
  refine Att.attach_callB most nodef fun w s0 s mg mb f o pm cd doc p us zs G Y ho hd hcd named script are few bits ng => ?_
  obtain ⟨K, inK, fd, ts, sp, bare, out, code, bound, told, FG⟩ := F w mg f _ Y G.T.g named
  exact law_GT inK G.T.g G.T.b G.T.builtins G.T.nolimit ng bare out code G.T.bmain script are (Nat.le_trans few small) room FG bound (fun H tabs list => told H p zs few bits tabs list) fun H e st => noX w H s e st

/-! ### data made by the law or the program: numbers, truths, texts, lists and tuples of these -/
mutual
inductive Tk (H : Hp) : V → PyData → Prop
  | bl (b : Bool) : Tk H (.bl b) (.bool b)
  | int (i : Int) : Tk H (.int i) (.int i)
  | str (x : Str) : Tk H (.str x) (.str x)
  | lst {a : Addr} {xs : List V} {ds : List PyData} : H a = some (.lst xs) → TkAll H xs ds → Tk H (.ref a) (.list ds)
  | tup {a : Addr} {xs : List V} {ds : List PyData} : H a = some (.tup xs) → TkAll H xs ds → Tk H (.ref a) (.tuple ds)
inductive TkAll (H : Hp) : List V → List PyData → Prop
  | nil : TkAll H [] []
  | cons {v : V} {vs : List V} {d : PyData} {ds : List PyData} : Tk H v d → TkAll H vs ds → TkAll H (v :: vs) (d :: ds)
end
theorem TkAll.length {H : Hp} : ∀ {vs : List V} {ds : List PyData}, TkAll H vs ds → vs.length = ds.length
  | _, _, .nil => rfl
  | _, _, .cons _ t => by rw [List.length_cons, List.length_cons, t.length]
mutual
theorem Tk.same {H H' : Hp} (s : Same H H') : ∀ {v : V} {d : PyData}, Tk H v d → Tk H' v d
  | _, _, .bl b => .bl b
  | _, _, .int i => .int i
  | _, _, .str x => .str x
  | _, _, .lst h t => .lst (s _ _ h) (t.same s)
  | _, _, .tup h t => .tup (s _ _ h) (t.same s)
theorem TkAll.same {H H' : Hp} (s : Same H H') : ∀ {vs : List V} {ds : List PyData}, TkAll H vs ds → TkAll H' vs ds
  | _, _, .nil => .nil
  | _, _, .cons h t => .cons (h.same s) (t.same s)
end
theorem TkAll.get {H : Hp} : ∀ {xs : List V} {ds : List PyData} {j : Nat} {x : V}, TkAll H xs ds → xs[j]? = some x → ∃ d, ds[j]? = some d ∧ Tk H x d
  | _, _, _, _, .nil, h => by simp at h
  | _, _, 0, _, .cons (d := d) a _, h => by
    cases (Option.some.inj h)
    exact ⟨d, rfl, a⟩
  | _, _, j + 1, _, .cons _ t, h => t.get h
theorem TkAll.append {H : Hp} : ∀ {xs ys : List V} {ds es : List PyData}, TkAll H xs ds → TkAll H ys es → TkAll H (xs ++ ys) (ds ++ es)
  | _, _, _, _, .nil, t => t
  | _, _, _, _, .cons a r, t => .cons a (r.append t)
theorem TkAll.ints {H : Hp} : ∀ ns : List Int, TkAll H (ns.map V.int) (ns.map PyData.int)
  | [] => .nil
  | n :: r => .cons (.int n) (TkAll.ints r)
theorem Tk.int_inv {H : Hp} {v : V} {i : Int} (h : Tk H v (.int i)) : v = .int i := by cases h; rfl
theorem Tk.tup_inv {H : Hp} {v : V} {ds : List PyData} (h : Tk H v (.tuple ds)) : ∃ a xs, v = .ref a ∧ H a = some (.tup xs) ∧ TkAll H xs ds := by
  cases h with
  | tup h t => exact ⟨_, _, rfl, h, t⟩
theorem Tk.lst_inv {H : Hp} {v : V} {ds : List PyData} (h : Tk H v (.list ds)) : ∃ a xs, v = .ref a ∧ H a = some (.lst xs) ∧ TkAll H xs ds := by
  cases h with
  | lst h t => exact ⟨_, _, rfl, h, t⟩
theorem TkAll.int_inv {H : Hp} : ∀ {vs : List V} {ns : List Int}, TkAll H vs (ns.map PyData.int) → vs = ns.map V.int
  | _, [], .nil => rfl
  | _, n :: r, .cons h t => by rw [List.map_cons, h.int_inv, t.int_inv]
/-- heaps without one place -/
def hd1 (p : Addr) (H : Hp) : Hp := fun b => if b = p then none else H b
theorem hd1_le {p : Addr} {H : Hp} : Same (hd1 p H) H := fun b o e => by
  unfold hd1 at e
  by_cases h : b = p
  · rw [if_pos h] at e; cases e
  · rw [if_neg h] at e; exact e
theorem hd1_same {p : Addr} {H H' : Hp} (s : Same H H') : Same (hd1 p H) (hd1 p H') := fun b o e => by
  unfold hd1 at e ⊢
  by_cases h : b = p
  · rw [if_pos h] at e; cases e
  · rw [if_neg h] at e ⊢; exact s _ _ e
theorem hd1_upd {p : Addr} {H : Hp} {o : HO} : Same (hd1 p H) (hd1 p (upd H p o)) := fun b x e => by
  unfold hd1 at e ⊢
  by_cases h : b = p
  · rw [if_pos h] at e; cases e
  · rw [if_neg h] at e ⊢; rw [upd_ne h]; exact e
theorem hd1_at {p b : Addr} {H : Hp} (h : b ≠ p) : hd1 p H b = H b := if_neg h
theorem hd1_of {p : Addr} {H H' : Hp} (s : Same H H') (n : H p = none) : Same H (hd1 p H') := fun b o e => by
  rw [hd1_at (ne_of_none e n)]
  exact s _ _ e
theorem same_of_hd1 {p : Addr} {H H' : Hp} {o : HO} (s : Same H (hd1 p H')) : Same H (upd H' p o) := fun b x e => by
  have z := s b x e
  unfold hd1 at z
  by_cases h : b = p
  · rw [if_pos h] at z; cases z
  · rw [if_neg h] at z; rw [upd_ne h]; exact z

/-! ### tables and gates -/
def tabOf (bs : List Bool) : Str := ⟨(bs.map fun b => if b = true then 49 else 48).toArray⟩
def plc (ws : List Int) : Int := ws.foldl (fun p w => 2 * p + w) 0
def gateM (bs : List Bool) (ws : List Int) : Int := if bs.getD (plc ws).toNat false = true then 1 else 0
theorem plc_snoc (ws : List Int) (w : Int) : plc (ws ++ [w]) = 2 * plc ws + w := by
  unfold plc
  rw [List.foldl_append]
  rfl
theorem plc_take {ws : List Int} {i : Nat} {u : Int} (h : ws[i]? = some u) : plc (ws.take (i + 1)) = 2 * plc (ws.take i) + u := by
  rw [List.take_add_one, h]
  exact plc_snoc _ _
theorem plc_bd : ∀ (n : Nat) (ws : List Int), ws.length = n → (∀ w ∈ ws, w = 0 ∨ w = 1) → 0 ≤ plc ws ∧ plc ws < 2 ^ n := by
  intro n
  induction n with
  | zero =>
    intro ws h _
    cases List.eq_nil_of_length_eq_zero h
    decide
  | succ n ih =>
    intro ws h hw
    have hne : ws ≠ [] := fun z => by rw [z] at h; cases h
    obtain ⟨r, x, rfl⟩ : ∃ r x, ws = r ++ [x] := ⟨ws.dropLast, ws.getLast hne, (List.dropLast_concat_getLast hne).symm⟩
    have hr := ih r (by rw [List.length_append] at h; simpa using h) fun w h' => hw w (List.mem_append_left _ h')
    have hx := hw x (by simp)
    rw [plc_snoc, Int.pow_succ]
    omega
theorem gate01 (bs : List Bool) (ws : List Int) : gateM bs ws = 0 ∨ gateM bs ws = 1 := by
  unfold gateM
  split
  · exact .inr rfl
  · exact .inl rfl
theorem int_sign (b : Bool) : PySem.intText? ⟨#[if b = true then 49 else 48]⟩ = some (if b = true then 1 else 0) := by
  cases b <;> decide +kernel
def spGate (K : PySem.W.Frag) : Sp := fun vs H Q _ => ∃ (bs : List Bool) (la : Addr) (ws : List Int), vs = [.str (tabOf bs), .ref la] ∧ SqL K H la (ws.map V.int) ∧ (∀ w ∈ ws, w = 0 ∨ w = 1) ∧ bs.length = 2 ^ ws.length ∧ ws.length ≤ 3 ∧ Q (.int (gateM bs ws)) H
theorem gate_read {bs : List Bool} {ws : List Int} (hw : ∀ w ∈ ws, w = 0 ∨ w = 1) (hb : bs.length = 2 ^ ws.length) (h3 : ws.length ≤ 3) : ∃ b : Bool, 0 ≤ plc ws ∧ plc ws < 2 ^ 63 ∧ plc ws < (tabOf bs).length ∧ (tabOf bs).cps[(plc ws).toNat]? = some (if b = true then 49 else 48) ∧ gateM bs ws = if b = true then 1 else 0 := by
  obtain ⟨p0, p1⟩ := plc_bd _ ws rfl hw
  have p8 : plc ws < 8 := by
    have : (2 : Int) ^ ws.length ≤ 8 := by
      have : ws.length = 0 ∨ ws.length = 1 ∨ ws.length = 2 ∨ ws.length = 3 := by omega
      rcases this with h | h | h | h <;> rw [h] <;> decide
    omega
  have hlt : (plc ws).toNat < bs.length := by
    have : ((2 ^ ws.length : Nat) : Int) = (2 : Int) ^ ws.length := by simp
    omega
  refine ⟨bs[(plc ws).toNat], p0, by omega, ?_, ?_, ?_⟩
  · have : (tabOf bs).length = bs.length := by simp [tabOf, Str.length]
    rw [this]
    omega
  · simp [tabOf, List.getElem?_eq_getElem hlt]
  · unfold gateM
    rw [List.getD_eq_getElem?_getD, List.getElem?_eq_getElem hlt]
    rfl

/-! ### walks -/
theorem gx_tup {α : Type} {K : PySem.W.Frag} {a : Addr} {xs : List V} {g : TG} {tt : TT} {te : TE} {vs : List Nat} {σ0 : L2.St} {End : α → Hp → Prop} {Yd : α → V → Hp → (α → Hp → Prop) → Prop} {a0 : α} {H0 : Hp} (Pv : Nat → α → Hp → Prop) (h0 : Pv 0 a0 H0)
    (hl : ∀ i c H, i ≤ xs.length → Pv i c H → SqT K H a xs)
    (hs : ∀ i x c H, xs[i]? = some x → Pv i c H → g x σ0 H fun σ2 H2 => wipe σ2 vs = σ0 ∧ tt σ2 H2 fun b H3 => if b = true then te σ2 H3 fun y H4 => Yd c y H4 (Pv (i + 1)) else Pv (i + 1) c H3) (hd : ∀ c H, Pv xs.length c H → End c H) :
    ∃ W : Nat → Nat → α → Hp → Prop, (∃ m, W 0 m a0 H0) ∧ tGx (Itt K a) g tt te σ0 vs End Yd W := by
  refine ⟨fun i m c H => m = xs.length - i ∧ i ≤ xs.length ∧ Pv i c H, ⟨xs.length, rfl, Nat.zero_le _, h0⟩, ?_⟩
  rintro i m c H ⟨rfl, hi, p⟩
  by_cases hlt : i < xs.length
  · have hx : xs[i]? = some xs[i] := List.getElem?_eq_getElem hlt
    refine .inr ⟨⟨xs, xs[i], hl i c H hi p, hx⟩, Pv (i + 1), fun c' H' p' => ⟨xs.length - (i + 1), by omega, rfl, hlt, p'⟩, fun x H' y => ?_⟩
    obtain ⟨rfl, y⟩ := y
    exact hs i x c _ (y xs (hl i c _ hi p)) p
  · have e : i = xs.length := by omega
    subst e
    exact .inl ⟨⟨xs, hl _ c H hi p, Nat.le_refl _⟩, hd c H p⟩
theorem lc_zipT {K : PySem.W.Frag} {a b : Addr} {xs ys : List V} {g : TG} {tt : TT} {te : TE} {vs : List Nat} {σ : L2.St} {H1 : Hp} {D : Addr} {Qd : Hp → Prop} (el : xs.length = ys.length) (Pv : Nat → Hp → Prop) (h0 : Pv 0 (upd H1 D (.lst []))) (hl : ∀ i H, i ≤ xs.length → Pv i H → SqT K H a xs ∧ SqT K H b ys)
    (hs : ∀ i x y T H, xs[i]? = some x → ys[i]? = some y → H T = none → Pv i H → g (.ref T) (wipe σ vs) (upd H T (.tup [x, y])) fun σ2 H2 => wipe σ2 vs = wipe σ vs ∧ tt σ2 H2 fun b H3 =>
      if b = true then te σ2 H3 fun y H4 => ∃ acc, H4 D = some (.lst acc) ∧ acc.length < sizeLine ∧ Pv (i + 1) (upd H4 D (.lst (acc ++ [y]))) else Pv (i + 1) H3) (hd : ∀ H, Pv xs.length H → Qd H) :
    ∃ W : Nat → Nat → Hp → Prop, (∃ m, W 0 m (upd H1 D (.lst []))) ∧ ∀ i m H, W i m H →
      ((RZ.ItzT K a b).stop i H ∧ Qd H) ∨ ((RZ.ItzT K a b).go i H ∧ ∃ Nx : Hp → Prop, (∀ H', Nx H' → ∃ m', m' < m ∧ W (i + 1) m' H') ∧ ∀ x H', (RZ.ItzT K a b).yld i H x H' → g x (wipe σ vs) H' fun σ2 H2 => wipe σ2 vs = wipe σ vs ∧ tt σ2 H2 fun b H3 =>
        if b = true then te σ2 H3 fun y H4 => ∃ acc, H4 D = some (.lst acc) ∧ acc.length < sizeLine ∧ Nx (upd H4 D (.lst (acc ++ [y]))) else Nx H3) := by
  refine ⟨fun i m H => m = xs.length - i ∧ i ≤ xs.length ∧ Pv i H, ⟨xs.length, by simp, Nat.zero_le _, h0⟩, ?_⟩
  rintro i m H ⟨rfl, hi, p⟩
  obtain ⟨qx, qy⟩ := hl i H hi p
  by_cases hlt : i < xs.length
  · have hx : xs[i]? = some xs[i] := List.getElem?_eq_getElem hlt
    have hy : ys[i]? = some (ys[i]'(by omega)) := List.getElem?_eq_getElem _
    refine .inr ⟨⟨xs, ys, _, _, qx, qy, hx, hy⟩, Pv (i + 1), fun H' p' => ⟨xs.length - (i + 1), by omega, rfl, hlt, p'⟩, fun x H' y => ?_⟩
    obtain ⟨T, x1, y1, rfl, nT, rfl, e1, e2⟩ := y
    exact hs i x1 y1 T H (e1 xs qx) (e2 ys qy) nT p
  · have e : i = xs.length := by omega
    subst e
    exact .inl ⟨⟨xs, ys, qx, qy, .inl (Nat.le_refl _)⟩, hd H p⟩

/-! ### enumerate(tuple) -/
theorem draws_tuple {P : Program} {w : World} {A : Around} (hA : A.handled = none) (it a : Addr) (items : Array Value) (hne : a ≠ it) : Draws P w A it [it, a] items.size (fun i v => items[i]? = some v) (fun i h => h.IsTupleIter it a i ∧ h.IsTuple a items) where
  live := fun _ _ st => let ⟨o, ho, _⟩ := st.1; ⟨o, ho⟩
  frame := fun _ _ _ st hk => ⟨st.1.at fun o e => hk it (by simp) o e, by
    obtain ⟨o, ho, r⟩ := st.2
    exact ⟨o, hk a (by simp) o ho, r⟩⟩
  item := fun i s Q E hi st hQ => by
    refine RZ.nextOf_tuple_item st.1 st.2 (x := items[i]) (by simp [hi]) fun h' hit' hs' => ?_
    refine hQ _ h' s.toks (by simp [hi]) ⟨hit', ?_⟩ hs'
    obtain ⟨o, ho, r⟩ := st.2
    exact ⟨o, hs'.extBut a o hne ho, r⟩
  done := fun s Q E st hE => RZ.nextOf_tuple_end hA st.1 st.2 (by simp) hE
open PySem.AutoSeq1 in
set_option maxHeartbeats 1000000 in
theorem meets_enumerate_newT (l : Addr) (items : Array Value) (o : Obj) (hc : o.cls = .type "tuple") (n : Nat) (hd : o.data = .seq items n) :
    Meets (Builtin.«enumerate.__new__» ⟨[.type "enumerate", .ref l], []⟩) (fun _ R s => s.heap.get? l = some o ∧
      R (.ok (.ret (.ref (s.heap.push { cls := .type "tuple_iterator", data := .fields #[.ref l, .int 0 0] }).objs.size)))
        { s with heap := (s.heap.push { cls := .type "tuple_iterator", data := .fields #[.ref l, .int 0 0] }).push { cls := .type "enumerate", data := .fields #[.none, .bool false, .ref s.heap.objs.size, rawInt 0, .none, .none] } }) :=
  .of_wp fun prog w A R s h => by
    obtain ⟨hp, g, d, tk, os⟩ := s; obtain ⟨hl, h⟩ := h
    have hsub := sub_enumerate
    have hL : Heap.IsTuple (Shared.heap ⟨hp, g, d, tk, os⟩) l items := ⟨_, hl, hc, n, hd⟩
    wp_walk using wpAny_loadPart' hl
    refine wpAny_stack_any fun st => wpAny_pure ?_
    split
    · rename_i c _ _ _ _ _
      cases (c == Value.type "enumerate")
      · wp_walk using wpAny_loadPart' hl, wpAny_pyIter_tuple hL
        exact ⟨_, rfl, h⟩
      · wp_walk using wpAny_loadPart' hl, wpAny_pyIter_tuple hL
        exact ⟨_, rfl, h⟩
    · wp_walk using wpAny_loadPart' hl, wpAny_pyIter_tuple hL
      exact ⟨_, rfl, h⟩
theorem call_enumerate_tuple {prog : Program} {w : World} {A : Around} {E : Value → Shared → Prop} {s : Shared} {l : Addr} {items : Array Value} {Q : Value → Shared → Prop} (hL : s.heap.IsTuple l items)
    (h : ∀ h', IsEnum h' (s.heap.objs.size + 1) s.heap.objs.size 0 .none → h'.IsTupleIter s.heap.objs.size l 0 → h'.objs.size = s.heap.objs.size + 2 →
      (∀ b o, s.heap.get? b = some o → h'.get? b = some o) → Q (.ref (s.heap.objs.size + 1)) { s with heap := h' }) :
    wpAny (model prog w) A (call (.type "enumerate") [.ref l]) Q E s := by
  obtain ⟨o, hl, hc, n, hd⟩ := hL
  refine callType_new F.called_enumerate (by decide) (F.typeCall_enumerate_1 _) (F.newCall_enumerate_1 _) (fun obj => F.args_object_init_2 obj _) F.entry_enumerate_new
    (meets_enumerate_newT l items o hc n hd) ⟨hl, ?_⟩
  have hz : (s.heap.push { cls := .type "tuple_iterator", data := .fields #[.ref l, .int 0 0] }).objs.size = s.heap.objs.size + 1 := Heap.size_push ..
  show _ ∧ _
  rw [hz]
  have he : IsEnum ((s.heap.push { cls := .type "tuple_iterator", data := .fields #[.ref l, .int 0 0] }).push
      { cls := .type "enumerate", data := .fields #[.none, .bool false, .ref s.heap.objs.size, rawInt 0, .none, .none] }) (s.heap.objs.size + 1) s.heap.objs.size 0 .none := by
    have := Heap.get?_push_size (s.heap.push { cls := .type "tuple_iterator", data := .fields #[.ref l, .int 0 0] })
      (o := { cls := .type "enumerate", data := .fields #[.none, .bool false, .ref s.heap.objs.size, rawInt 0, .none, .none] }) rfl
    rw [hz] at this; exact this
  refine ⟨⟨_, he, rfl⟩, h _ he ⟨_, Heap.get?_push_of_some _ (Heap.get?_push_size _ rfl), rfl, rfl⟩ (by rw [Heap.size_push, hz]) fun b o x => Heap.get?_push_of_some _ (Heap.get?_push_of_some _ x)⟩
/-- the tuple at a, each item in a new pair -/
def IteT (K : PySem.W.Frag) (a : Addr) : It :=
  ⟨fun i H => ∃ (xs : List V) (x : V), SqT K H a xs ∧ xs[i]? = some x, fun i H v H' => ∃ T x, v = .ref T ∧ H T = none ∧ H' = upd H T (.tup [.int (i : Nat), x]) ∧ ∀ xs, SqT K H a xs → xs[i]? = some x, fun i H => ∃ xs : List V, SqT K H a xs ∧ xs.length = i⟩
theorem turn_enumT {P : Program} {w : World} {K : PySem.W.Frag} {elts : List Expr} {kk : Nat} {tpos : Pos} (a e it : Addr) :
    Turn P w K (.Tuple elts kk tpos) (IteT K a) [e, it] e (fun i h => (∃ old, IsEnum h e it ((i : Nat) : Int) old) ∧ h.IsTupleIter it a i ∧ e ≠ it) where
  mem := by simp
  obj := fun i h st b hb => by
    obtain ⟨⟨old, he⟩, ⟨o, ho, hc, hd⟩, _⟩ := st
    have e' : b = e ∨ b = it := by simpa using hb
    rcases e' with z | z
    · rw [z]; exact ⟨_, he, fun v q => nomatch q⟩
    · rw [z]; exact ⟨o, ho, fun v q => by rw [hd] at q; cases q⟩
  keep := fun i h h' st k => let ⟨⟨old, he⟩, hi, hne⟩ := st; ⟨⟨old, k e (by simp) _ he⟩, hi.at fun o q => k it (by simp) o q, hne⟩
  item := by
    intro X hP hw hK hc i pins s σ H E I hf st hg
    subst hP hw hK
    obtain ⟨⟨old, he⟩, hit, hne⟩ := st
    obtain ⟨xs, x, hq, hx⟩ := hg
    obtain ⟨its, rv, p, hz⟩ := I.tuple hq
    obtain ⟨u, hu, ru⟩ := rv.get hx
    have hel : e < s.heap.objs.size := Heap.lt_size he
    have hil : it < s.heap.objs.size := by obtain ⟨_, q, _⟩ := hit; exact Heap.lt_size q
    have hpt : s.heap.IsTuple a its.toArray := p
    have hai : a ≠ it := fun z => by
      obtain ⟨o1, h1, c1, _⟩ := hpt
      obtain ⟨o2, h2, c2, _⟩ := hit
      rw [z, h2] at h1
      cases h1
      rw [c2] at c1
      exact absurd (Value.type.inj c1) (by decide)
    have hae : e ≠ a := fun z => by
      obtain ⟨o1, h1, c1, _⟩ := hpt
      rw [← z, he] at h1
      cases h1
      exact absurd (Value.type.inj c1) (by decide)
    have hil2 : i < its.toArray.size := by
      rw [List.size_toArray]
      exact (List.getElem?_eq_some_iff.mp hu).1
    refine wpAny_pyNext_enum_itemD (draws_tuple (A := X.A.in1) (I.ok.hd hc) it a its.toArray hai) he ⟨hit, hpt⟩ hil2 hne (by simp only [List.mem_cons, List.not_mem_nil, or_false, not_or]; exact ⟨hne, hae⟩) fun y h' tk hy ho hst hT hsz hk => ?_
    have hyu : y = u := by
      have : its[i]? = some y := by simpa using hy
      rw [hu] at this
      exact (Option.some.inj this).symm
    subst hyu
    have hit' := hst.1
    refine ⟨_, rfl, wpAny_letOwnedTupleGo_enum (s := { s with heap := h', toks := tk + 1 }) ho fun h'' he' sb => ?_⟩
    have hT2 : h''.get? s.heap.objs.size = some { cls := .type "tuple", data := .seq #[.int i tk, y] } := (sb.2 _ (Nat.ne_of_gt hel)).trans hT
    have new : ObjOk X.prog X.w (upd H s.heap.objs.size (.tup [.int (i : Nat), x])) h'' s.heap.objs.size (.tup [.int (i : Nat), x]) :=
      ⟨by show 2 ≤ sizeLine; decide, [.int i tk, y], .cons ⟨_, rfl⟩ (.cons ru .nil), ⟨_, hT2, rfl, _, rfl⟩⟩
    have I1 : Inv X pins σ (upd H s.heap.objs.size (.tup [.int (i : Nat), x])) { s with heap := h'', toks := tk + 1 } :=
      I.turnedNew (ch := [e, it]) (fun b ob hb q => (sb.2 b (fun z => hb (by simp [z]))).trans (hk b ob (fun z => hb (by simp [z])) (fun z => hb (by simp [z])) q)) hf (Nat.le_refl _) new
    refine ⟨.ref s.heap.objs.size, _, I1, rfl, ⟨_, x, rfl, I.hok.fresh (Nat.le_refl _), rfl, fun ys hy => by rw [I.tuple_inj hy hq]; exact hx⟩, ⟨⟨y, ?_⟩, hit'.at fun o q => (sb.2 it (Ne.symm hne)).trans q, hne⟩, fun b hb => ?_⟩
    · have e1 : ((i + 1 : Nat) : Int) = (i : Int) + 1 := by omega
      rw [e1]; exact he'
    · have hb' : b < s.heap.objs.size := by
        have e' : b = e ∨ b = it := by simpa using hb
        rcases e' with z | z
        · rw [z]; exact hel
        · rw [z]; exact hil
      rw [upd_ne (Nat.ne_of_lt hb')]
      exact (hf b hb).1
  done := by
    intro X hP hw hK hc i pins s σ H E I hf st hg
    subst hP hw hK
    obtain ⟨⟨old, he⟩, hit, hne⟩ := st
    obtain ⟨xs, hq, hx⟩ := hg
    obtain ⟨its, rv, p, hz⟩ := I.tuple hq
    obtain ⟨f0, f1, f2, f3, f4, f5⟩ := hf it (by simp)
    have hl := rv.length
    have hpt : s.heap.IsTuple a its.toArray := p
    have hai : a ≠ it := fun z => by
      obtain ⟨o1, h1, c1, _⟩ := hpt
      obtain ⟨o2, h2, c2, _⟩ := hit
      rw [z, h2] at h1
      cases h1
      rw [c2] at c1
      exact absurd (Value.type.inj c1) (by decide)
    have hn : i = its.toArray.size := by rw [List.size_toArray]; omega
    exact wpAny_pyNext_enum_endD (draws_tuple (A := X.A.in1) (I.ok.hd hc) it a its.toArray hai) he (by rw [← hn]; exact ⟨hit, hpt⟩) fun h' eb => ⟨rfl, I.turned (t' := s.toks) (fun b o hb q => eb b o hb q) f0 f1 f3 f4 f5⟩
  self := fun A i s Q E st h => let ⟨⟨_, he⟩, _⟩ := st; wpAny_pyIter_enum he h
def iEnumT (K : PySem.W.Frag) (ta : TA) : TI := fun σ H R => ta σ H fun vs H1 => ∃ a xs, vs = [.ref a] ∧ SqT K H1 a xs ∧ R (IteT K a) H1
theorem pi_enumT {X : Cx} {e : Expr} {ta : TA} {p pos tpos : Pos} {elts : List Expr} {kk : Nat} (hg : Gl X "enumerate") (hm : X.mg "enumerate" = none) (ha : PA X [e] ta) (hs : starEach [e] X.env = [(false, eval e X.env)] := by rfl) :
    PI X (.Tuple elts kk tpos) (.Call (.Name "enumerate" p) [e] [] pos) (iEnumT X.K ta) := by
  refine ⟨fun pins s σ H R I h => ?_⟩
  refine Call_ (ld_blt I hg hm boot_enumerate (PyProof.Rows.callWith_type1 (thn (ha.run pos pins s σ H _ I h) fun us s1 ⟨vs, H1, I1, r1, q1⟩ => ?_) hs rfl))
  obtain ⟨a, xs, ex, hq, q⟩ := q1
  subst ex
  cases r1 with
  | cons r rr =>
    cases rr
    cases r
    obtain ⟨its, rv, p', hz⟩ := I1.tuple hq
    refine call_enumerate_tuple p' fun h' he hit hsz hk => wpAny_pyIter_enum he ?_
    have I2 : Inv X pins σ H1 { s1 with heap := h' } := I1.kept (t' := s1.toks) hk
    refine ⟨s1.heap.objs.size + 1, [s1.heap.objs.size + 1, s1.heap.objs.size], _, _, H1, rfl, I2, turn_enumT a (s1.heap.objs.size + 1) s1.heap.objs.size, ⟨⟨.none, he⟩, hit, Nat.succ_ne_self _⟩, fun b hb => ?_, q⟩
    have e' : b = s1.heap.objs.size + 1 ∨ b = s1.heap.objs.size := by simpa using hb
    have hle : s1.heap.objs.size ≤ b := by
      rcases e' with z | z
      · rw [z]; exact Nat.le_add_right _ _
      · rw [z]; exact Nat.le_refl _
    exact I1.fpOk hle (I1.hok.fresh hle)
theorem gx_enum {α : Type} {K : PySem.W.Frag} {a : Addr} {xs : List V} {g : TG} {tt : TT} {te : TE} {vs : List Nat} {σ0 : L2.St} {End : α → Hp → Prop} {Yd : α → V → Hp → (α → Hp → Prop) → Prop} {a0 : α} {H0 : Hp} (Pv : Nat → α → Hp → Prop) (h0 : Pv 0 a0 H0)
    (hl : ∀ i c H, i ≤ xs.length → Pv i c H → SqT K H a xs)
    (hs : ∀ i x T c H, xs[i]? = some x → H T = none → Pv i c H → g (.ref T) σ0 (upd H T (.tup [.int (i : Nat), x])) fun σ2 H2 => wipe σ2 vs = σ0 ∧ tt σ2 H2 fun b H3 => if b = true then te σ2 H3 fun y H4 => Yd c y H4 (Pv (i + 1)) else Pv (i + 1) c H3) (hd : ∀ c H, Pv xs.length c H → End c H) :
    ∃ W : Nat → Nat → α → Hp → Prop, (∃ m, W 0 m a0 H0) ∧ tGx (IteT K a) g tt te σ0 vs End Yd W := by
  refine ⟨fun i m c H => m = xs.length - i ∧ i ≤ xs.length ∧ Pv i c H, ⟨xs.length, rfl, Nat.zero_le _, h0⟩, ?_⟩
  rintro i m c H ⟨rfl, hi, p⟩
  by_cases hlt : i < xs.length
  · have hx : xs[i]? = some xs[i] := List.getElem?_eq_getElem hlt
    refine .inr ⟨⟨xs, xs[i], hl i c H hi p, hx⟩, Pv (i + 1), fun c' H' p' => ⟨xs.length - (i + 1), by omega, rfl, hlt, p'⟩, fun x H' y => ?_⟩
    obtain ⟨T, x1, rfl, nT, rfl, e1⟩ := y
    exact hs i x1 T c H (e1 xs (hl i c _ hi p)) nT p
  · have e : i = xs.length := by omega
    subst e
    exact .inl ⟨⟨xs, hl _ c H hi p, rfl⟩, hd c H p⟩
theorem gx_str {α : Type} {z : Str} {g : TG} {tt : TT} {te : TE} {vs : List Nat} {σ0 : L2.St} {End : α → Hp → Prop} {Yd : α → V → Hp → (α → Hp → Prop) → Prop} {a0 : α} {H0 : Hp} (Pv : Nat → α → Hp → Prop) (h0 : Pv 0 a0 H0)
    (hs : ∀ i x c H, z.cps[i]? = some x → Pv i c H → g (.str ⟨#[x]⟩) σ0 H fun σ2 H2 => wipe σ2 vs = σ0 ∧ tt σ2 H2 fun b H3 => if b = true then te σ2 H3 fun y H4 => Yd c y H4 (Pv (i + 1)) else Pv (i + 1) c H3) (hd : ∀ c H, Pv z.cps.size c H → End c H) :
    ∃ W : Nat → Nat → α → Hp → Prop, (∃ m, W 0 m a0 H0) ∧ tGx (Its z) g tt te σ0 vs End Yd W := by
  refine ⟨fun i m c H => m = z.cps.size - i ∧ i ≤ z.cps.size ∧ Pv i c H, ⟨z.cps.size, rfl, Nat.zero_le _, h0⟩, ?_⟩
  rintro i m c H ⟨rfl, hi, p⟩
  by_cases hlt : i < z.cps.size
  · refine .inr ⟨hlt, Pv (i + 1), fun c' H' p' => ⟨z.cps.size - (i + 1), by omega, rfl, hlt, p'⟩, fun x H' y => ?_⟩
    obtain ⟨rfl, ch, hc, rfl⟩ := y
    exact hs i ch c _ hc p
  · have e : i = z.cps.size := by omega
    subst e
    exact .inl ⟨Nat.le_refl _, hd c H p⟩

/-! ### nets, and the words of nets -/
abbrev Gt := List Bool × List Nat
def gD (g : Gt) : PyData := .tuple [.str (tabOf g.1), .tuple ((g.2.map Int.ofNat).map PyData.int)]
def netD (many : Int) (gs : List Gt) : PyData := .tuple [.int many, .tuple (gs.map gD)]
def rowD (r : List Int) : PyData := .tuple (r.map PyData.int)
def chD (a b : List Int) : PyData := .tuple [rowD a, rowD b]
def GtOk (n : Nat) (g : Gt) : Prop := g.1.length = 2 ^ g.2.length ∧ 1 ≤ g.2.length ∧ g.2.length ≤ 3 ∧ ∀ i ∈ g.2, i < n
def NetOk (n : Nat) (gs : List Gt) : Prop := ∀ k g, gs[k]? = some g → GtOk (n + k) g
def Row01 (r : List Int) : Prop := ∀ x ∈ r, x = 0 ∨ x = 1
mutual
theorem Tk.gr {H H' : Hp} (s : Gr H H') : ∀ {v : V} {d : PyData}, Tk H v d → Tk H' v d
  | _, _, .bl b => .bl b
  | _, _, .int i => .int i
  | _, _, .str x => .str x
  | _, _, .lst h t => .lst (s.lst h) (t.gr s)
  | _, _, .tup h t => .tup (s.tup h) (t.gr s)
theorem TkAll.gr {H H' : Hp} (s : Gr H H') : ∀ {vs : List V} {ds : List PyData}, TkAll H vs ds → TkAll H' vs ds
  | _, _, .nil => .nil
  | _, _, .cons h t => .cons (h.gr s) (t.gr s)
end
theorem Tk.row_inv {H : Hp} {v : V} {r : List Int} (h : Tk H v (rowD r)) : ∃ a, v = .ref a ∧ H a = some (.tup (r.map V.int)) := by
  obtain ⟨a, xs, rfl, ha, t⟩ := h.tup_inv
  rw [t.int_inv] at ha
  exact ⟨a, rfl, ha⟩
theorem Tk.ch_inv {H : Hp} {v : V} {a b : List Int} (h : Tk H v (chD a b)) : ∃ c ra rb, v = .ref c ∧ H c = some (.tup [.ref ra, .ref rb]) ∧ H ra = some (.tup (a.map V.int)) ∧ H rb = some (.tup (b.map V.int)) := by
  obtain ⟨c, xs, rfl, hc, t⟩ := h.tup_inv
  cases t with
  | cons h1 t => cases t with
    | cons h2 t =>
      cases t
      obtain ⟨ra, rfl, ha⟩ := h1.row_inv
      obtain ⟨rb, rfl, hb⟩ := h2.row_inv
      exact ⟨c, ra, rb, rfl, hc, ha, hb⟩
theorem Tk.net_inv {H : Hp} {v : V} {m : Int} {gs : List Gt} (h : Tk H v (netD m gs)) : ∃ n g xs, v = .ref n ∧ H n = some (.tup [.int m, .ref g]) ∧ H g = some (.tup xs) ∧ TkAll H xs (gs.map gD) := by
  obtain ⟨n, xs, rfl, hn, t⟩ := h.tup_inv
  cases t with
  | cons h1 t => cases t with
    | cons h2 t =>
      cases t
      cases h1
      obtain ⟨g, ys, rfl, hg, t2⟩ := h2.tup_inv
      exact ⟨n, g, ys, rfl, hn, hg, t2⟩
theorem Tk.gt_inv {H : Hp} {v : V} {g : Gt} (h : Tk H v (gD g)) : ∃ a i, v = .ref a ∧ H a = some (.tup [.str (tabOf g.1), .ref i]) ∧ H i = some (.tup ((g.2.map Int.ofNat).map V.int)) := by
  obtain ⟨a, xs, rfl, ha, t⟩ := h.tup_inv
  cases t with
  | cons h1 t => cases t with
    | cons h2 t =>
      cases t
      cases h1
      obtain ⟨i, rfl, hi⟩ := (show Tk H _ (rowD (g.2.map Int.ofNat)) from h2).row_inv
      exact ⟨a, i, rfl, ha, hi⟩
theorem TkAll.at {H : Hp} {α : Type} {f : α → PyData} {xs : List V} {ds : List α} (t : TkAll H xs (ds.map f)) {j : Nat} {v : V} (h : xs[j]? = some v) : ∃ x, ds[j]? = some x ∧ Tk H v (f x) := by
  obtain ⟨dx, hdx, tx⟩ := t.get h
  rw [List.getElem?_map] at hdx
  cases hz : ds[j]? with
  | none => rw [hz] at hdx; cases hdx
  | some x =>
    rw [hz] at hdx
    cases Option.some.inj hdx
    exact ⟨x, rfl, tx⟩
theorem TkAll.at' {H : Hp} {α : Type} {f : α → PyData} {xs : List V} {ds : List α} (t : TkAll H xs (ds.map f)) {j : Nat} {x : α} (h : ds[j]? = some x) : ∃ v, xs[j]? = some v ∧ Tk H v (f x) := by
  have hl := t.length
  rw [List.length_map] at hl
  have hj := (List.getElem?_eq_some_iff.mp h).1
  obtain ⟨y, hy, ty⟩ := t.at (List.getElem?_eq_getElem (l := xs) (i := j) (by omega))
  cases Option.some.inj (h.symm.trans hy)
  exact ⟨_, List.getElem?_eq_getElem _, ty⟩
theorem grow_upd {H H' : Hp} {p : Addr} {o : HO} (g : Gr H H') (n : H' p = none) : Gr H (upd H' p o) := g.trans (Gr.none n)
/-- no table, no older list: only the list at D is written -/
def GrD (D : Addr) (H H' : Hp) : Prop := Gr H (hd1 D H')
theorem GrD.gr {D : Addr} {H H' : Hp} (g : GrD D H H') : Gr H H' := g.trans (Gr.of hd1_le)
theorem TabG_hd1 {D P : Addr} {H : Hp} (h : GxR.TabG H P) (n : D ≠ P) : GxR.TabG (hd1 D H) P := by
  obtain ⟨ps, e, t⟩ := h
  exact ⟨ps, by rw [hd1_at (Ne.symm n)]; exact e, t⟩
theorem GrD.new {D : Addr} {H : Hp} {o : HO} (n : H D = none) : GrD D H (upd H D o) := Gr.of (hd1_of (same_upd n) n)
theorem hd1_gr {D : Addr} {H H' : Hp} (g : Gr H H') (hD : ∀ P, GxR.TabG H P → D ≠ P) : Gr (hd1 D H) (hd1 D H') := by
  refine ⟨fun b o n e => ?_, fun b t => ?_⟩
  · have hb : b ≠ D := fun z => by
      unfold hd1 at e
      rw [if_pos z] at e; cases e
    rw [hd1_at hb] at e ⊢
    exact g.1 b o n e
  · obtain ⟨ps, e, t⟩ := t
    have e' := hd1_le _ _ e
    exact TabG_hd1 (g.2 b ⟨ps, e', t⟩) (hD b ⟨ps, e', t⟩)
theorem GrD.then {D : Addr} {H H1 H2 : Hp} {xs : List V} (a : GrD D H H1) (hD : H1 D = some (.lst xs)) (b : Gr H1 H2) : GrD D H H2 := a.trans (hd1_gr b fun P ⟨ps, e, _⟩ z => by
  rw [← z, hD] at e
  cases e)
theorem GrD.set {D : Addr} {H H1 : Hp} {o : HO} (a : GrD D H H1) : GrD D H (upd H1 D o) := a.trans (Gr.of hd1_upd)

end Gk

set_option Elab.async false
set_option linter.all false
set_option maxRecDepth 100000
set_option maxHeartbeats 1000000
namespace Gk
open PySem PySem.Spec PyProof.Rows L2
/-! ### data of tuples alone: no list that is written can harm it -/
mutual
def noL : PyData → Bool
  | .list _ => false
  | .tuple ds => noLs ds
  | _ => true
def noLs : List PyData → Bool
  | [] => true
  | d :: r => noL d && noLs r
end
def Ts (H H' : Hp) : Prop := ∀ b xs, H b = some (HO.tup xs) → H' b = some (.tup xs)
theorem Ts.refl {H : Hp} : Ts H H := fun _ _ e => e
theorem Ts.trans {H H1 H2 : Hp} (a : Ts H H1) (b : Ts H1 H2) : Ts H H2 := fun c xs e => b c xs (a c xs e)
theorem Ts.same {H H' : Hp} (s : Same H H') : Ts H H' := fun b xs e => s _ _ e
theorem Ts.gr {H H' : Hp} (s : Gr H H') : Ts H H' := fun b xs e => s.tup e
theorem Ts.new {H : Hp} {p : Addr} {o : HO} (h : H p = none) : Ts H (upd H p o) := Ts.same (same_upd h)
theorem Ts.set {H : Hp} {p : Addr} {xs ys : List V} (h : H p = some (.lst xs)) : Ts H (upd H p (.lst ys)) := fun b zs e => by
  rw [upd_ne (ne_of e h (by intro z; cases z))]
  exact e
mutual
theorem Tk.ts {H H' : Hp} (s : Ts H H') : ∀ {v : V} {d : PyData}, Tk H v d → noL d = true → Tk H' v d
  | _, _, .bl b, _ => .bl b
  | _, _, .int i, _ => .int i
  | _, _, .str x, _ => .str x
  | _, _, .lst h t, n => by cases n
  | _, _, .tup h t, n => .tup (s _ _ h) (t.ts s n)
theorem TkAll.ts {H H' : Hp} (s : Ts H H') : ∀ {vs : List V} {ds : List PyData}, TkAll H vs ds → noLs ds = true → TkAll H' vs ds
  | _, _, .nil, _ => .nil
  | _, _, .cons (d := d) (ds := ds) h t, n => by
    have n' : noL d = true ∧ noLs ds = true := Bool.and_eq_true_iff.mp n
    exact .cons (h.ts s n'.1) (t.ts s n'.2)
end
theorem noLs_map {α : Type} {f : α → PyData} (h : ∀ x, noL (f x) = true) : ∀ l : List α, noLs (l.map f) = true
  | [] => rfl
  | x :: r => by
    show (noL (f x) && noLs (r.map f)) = true
    rw [h x, noLs_map h r]
    rfl
theorem noL_row (r : List Int) : noL (rowD r) = true := noLs_map (fun _ => rfl) r
theorem noL_gate (g : Gt) : noL (gD g) = true := by
  show (true && (noLs ((g.2.map Int.ofNat).map PyData.int) && true)) = true
  rw [noLs_map (fun _ => rfl)]
  rfl
theorem noL_gates (gs : List Gt) : noLs (gs.map gD) = true := noLs_map noL_gate gs
theorem noL_net (m : Int) (gs : List Gt) : noL (netD m gs) = true := by
  show (true && (noLs (gs.map gD) && true)) = true
  rw [noL_gates]
  rfl
theorem noL_ch (a b : List Int) : noL (chD a b) = true := by
  show (noL (rowD a) && (noL (rowD b) && true)) = true
  rw [noL_row, noL_row]
  rfl

section
variable {P : Program} {w : World} {K : PySem.W.Frag} {mg : Str → Option Value} {base : Heap}
/-! ### the deck whose cells are taken from behind -/
def DeckC (H : Hp) (d l : Addr) (n : Int) : Prop := d ≠ l ∧ ∃ (cs : List Int) (y z : Int), H d = some (.lst [.ref l, .int y, .int z]) ∧ H l = some (.lst (cs.map V.int)) ∧ cs.length ≤ 63 ∧ 0 ≤ z ∧ z ≤ n
theorem DeckC.mono {H : Hp} {d l : Addr} {n m : Int} (D : DeckC H d l n) (h : n ≤ m) : DeckC H d l m := by
  obtain ⟨ne, cs, z, y, h1, h2, h3, h4, h5⟩ := D
  exact ⟨ne, cs, z, y, h1, h2, h3, h4, Int.le_trans h5 h⟩
theorem DeckC.same {H H' : Hp} {d l : Addr} {n : Int} (D : DeckC H d l n) (s : Same H H') : DeckC H' d l n := by
  obtain ⟨ne, cs, z, y, hd, hl, r⟩ := D
  exact ⟨ne, cs, z, y, s _ _ hd, s _ _ hl, r⟩
theorem DeckC.gr {H H' : Hp} {d l : Addr} {n : Int} (D : DeckC H d l n) (s : Gr H H') : DeckC H' d l n := by
  obtain ⟨ne, cs, z, y, hd, hl, r⟩ := D
  exact ⟨ne, cs, z, y, s.lst hd, s.lst hl, r⟩
theorem DeckC.upd {H : Hp} {d l p : Addr} {n : Int} {o : HO} (D : DeckC H d l n) (h1 : p ≠ d) (h2 : p ≠ l) : DeckC (upd H p o) d l n := by
  obtain ⟨ne, cs, z, y, hd, hl, r⟩ := D
  exact ⟨ne, cs, z, y, by rw [upd_ne h1.symm]; exact hd, by rw [upd_ne h2.symm]; exact hl, r⟩
theorem DeckC.off {H : Hp} {d l p : Addr} {n : Int} (D : DeckC H d l n) (h : H p = none) : p ≠ d ∧ p ≠ l := by
  obtain ⟨ne, cs, z, y, hd, hl, r⟩ := D
  exact ⟨(ne_of_none hd h).symm, (ne_of_none hl h).symm⟩
theorem Ts.frC {H H' : Hp} {d l : Addr} {n : Int} (D : DeckC H d l n) (f : Fr d l H H') : Ts H H' := fun b xs e => by
  obtain ⟨ne, cs, z, y, hd, hl, r⟩ := D
  exact f b _ (ne_of e hd (by intro z; cases z)) (ne_of e hl (by intro z; cases z)) e
theorem Fr.upd {d l p : Addr} {H H' : Hp} {o : HO} (f : Fr d l H H') (h : H p = none) : Fr d l H (upd H' p o) := fun b u h1 h2 e => by
  rw [upd_ne (ne_of_none e h)]
  exact f b u h1 h2 e
theorem tab_frC {H H' : Hp} {d l P : Addr} {n : Int} (D : DeckC H d l n) (f : Fr d l H H') (t : GxR.TabG H P) : GxR.TabG H' P := by
  obtain ⟨ps, e, tr⟩ := t
  obtain ⟨ne, cs, z, y, hd, hl, r⟩ := D
  exact ⟨ps, f _ _ (ne_of e hd (by intro z; cases z)) (ne_of e hl (by intro z; cases z)) e, tr⟩
theorem none_of_frC {d l p : Addr} {H H' : Hp} {n : Int} (f : Fr d l H H') (D : DeckC H' d l n) (h : H' p = none) : H p = none := by
  have o := D.off h
  cases z : H p with
  | none => rfl
  | some u => rw [f _ _ o.1 o.2 z] at h; cases h
theorem cut63 {ns : List Int} (h : ns.length ≤ 63) : cutV (ns.map V.int) none (some 63) = ns.map V.int := by
  unfold cutV
  have e : HT.sIx (ns.map V.int).length (ns.map V.int).length (some 63) = min 63 (ns.map V.int).length := HT.sIx_nat _ _ 63
  rw [HT.sIx_none, e, List.length_map, List.drop_zero]
  apply List.take_of_length_le
  rw [List.length_map]
  omega
theorem sq_same {K : PySem.W.Frag} {H H' : Hp} {a : Addr} {xs : List V} (s : Same H H') (h : SqL K H a xs) : SqL K H' a xs := h.imp (fun r => r.imp (fun e => s _ _ e) (fun ⟨ob, e⟩ => ⟨ob, s _ _ e⟩)) id
def sp_deck (K : PySem.W.Frag) : Sp := fun vs H Q _ => ∃ (a : Addr) (ns : List Int), vs = [.ref a] ∧ SqL K H a (ns.map V.int) ∧ ns.length ≤ 63 ∧ ∀ H' d l, Same H H' → DeckC H' d l 0 → Q (.ref d) H'
theorem ok_deck (T : Tx K mg) : FnOk P w K mg base CX0 1 T.f_deck T.fd_deck ["_law_script"] (sp_deck K) := by
  refine T.F_deck.ok sc_deck (fun vs H Q E h => ?_) (fun cdv A outer s H vs Q E hr h => ?_)
  · obtain ⟨a, ns, rfl, _⟩ := h
    rfl
  · obtain ⟨a, ns, rfl, hS, hlen, q⟩ := h
    refine ⟨_, (pss_one (ps_ret (pe_lst (pa_cons (RevL.pe_lstRev rfl (by rfl) T.m_list (by rfl) T.m_reversed (pe_slice sl_list (pv 0) po_none (po_some pe_int))) (pa_cons (pe_op op_add (pe_callB (cr_sum rfl) (by rfl) T.m_sum (by decide +kernel) (pa_cons (pe_slice sl_list (pv 0) po_none (po_some pe_int)) pa_nil)) (pe_callB call_len_seq (by rfl) T.m_len PySem.boot_len (pa_cons (pe_slice sl_list (pv 0) po_none (po_some pe_int)) pa_nil))) (pa_cons pe_int pa_nil)))))), ?_⟩
    refine ⟨.ref a, rfl, 63, rfl, a, _, rfl, hS, fun c1 n1 => ?_⟩
    rw [cut63 hlen]
    have s1 := same_upd (o := HO.lst (ns.map V.int)) n1
    refine ⟨c1, _, rfl, SqL.of upd_same, fun l nl => ?_⟩
    have s2 := same_upd (o := HO.lst (ns.map V.int).reverse) nl
    refine ⟨.ref a, rfl, 63, rfl, a, _, rfl, sq_same (s1.trans s2) hS, fun c3 n3 => ?_⟩
    rw [cut63 hlen]
    have s3 := same_upd (o := HO.lst (ns.map V.int)) n3
    refine ⟨c3, ns, rfl, SqL.of upd_same, .ref a, rfl, 63, rfl, a, _, rfl, sq_same ((s1.trans s2).trans s3) hS, fun c4 n4 => ?_⟩
    rw [cut63 hlen]
    have s4 := same_upd (o := HO.lst (ns.map V.int)) n4
    refine ⟨c4, _, rfl, .inl (SqL.of upd_same), _, _, rfl, rfl, sl3, fun d nd => ?_⟩
    have s5 := same_upd (o := HO.lst [V.ref l, V.int (ns.sum + ((ns.map V.int).length : Nat)), V.int 0]) nd
    have hl4 := s4 _ _ (s3 _ _ (show (upd (upd H c1 (.lst (ns.map V.int))) l (.lst (ns.map V.int).reverse)) l = _ from upd_same))
    refine q _ d l ((((s1.trans s2).trans s3).trans s4).trans s5) ⟨(ne_of_none hl4 nd).symm, ns.reverse, _, 0, upd_same, ?_, by rw [List.length_reverse]; exact hlen, Int.le_refl _, Int.le_refl _⟩
    rw [List.map_reverse]
    exact s5 _ _ hl4
def sp_mixed (K : PySem.W.Frag) : Sp := fun vs H Q _ => ∃ c k : Int, vs = [.int c, .int k] ∧ 0 ≤ k ∧ k < 2000000000 ∧ ∀ v, 0 ≤ v → Q (.int v) H
theorem ok_mixed (T : Tx K mg) : FnOk P w K mg base CX0 1 T.f_mixed T.fd_mixed ["_law_cell", "_law_k"] (sp_mixed K) := by
  refine T.F_mixed.ok sc_mixed (fun vs H Q E h => ?_) (fun cdv A outer s H vs Q E hr h => ?_)
  · obtain ⟨c, k, rfl, _⟩ := h
    rfl
  · obtain ⟨c, k, rfl, k0, k1, q⟩ := h
    refine ⟨_, (pss_cons (ps_set (i := 2) sc_mixed.nd rfl (by first | exact .inl rfl | exact .inr rfl) (pe_op op_mod (pe_op op_mul (pe_op op_add (pe_op op_add (pe_op op_mod (pv 0) pe_int) (pe_op op_mul pe_int (pv 1))) pe_int) pe_int) pe_int)) (pss_cons (ps_set (i := 2) sc_mixed.nd rfl (by first | exact .inl rfl | exact .inr rfl) (pe_op op_mod (pe_op op_add (pe_op op_add (pe_op op_mul (pv 2) (pv 2)) (pe_op op_mul pe_int (pv 1))) pe_int) pe_int)) (pss_one (ps_ret (pe_op op_add (pe_op op_mul (pv 2) pe_int) (pe_op op_mod (pe_op op_add (pe_op op_add (pe_op op_mul (pv 2) (pv 2)) (pe_op op_mul pe_int (pv 2))) (pv 1)) pe_int)))))), ?_⟩
    refine ⟨.int c, rfl, _, _, rfl, rfl, p29, .int k, rfl, 7919, k, rfl, rfl, .inl ⟨by decide, by decide⟩, _, _, rfl, rfl, _, _, rfl, rfl, _, 48271, rfl, rfl, .inr ⟨by decide, by decide⟩, _, _, rfl, rfl, p47, ?_⟩
    dsimp only
    have v0 := Int.emod_nonneg ((c % 2147483629 + 7919 * k + 1) * 48271) (show (2147483647 : Int) ≠ 0 by decide)
    have v1 := Int.emod_lt_of_pos ((c % 2147483629 + 7919 * k + 1) * 48271) (show (0 : Int) < 2147483647 by decide)
    revert v0 v1
    generalize ((c % 2147483629 + 7919 * k + 1) * 48271) % 2147483647 = v
    intro v0 v1
    refine ⟨.int v, rfl, .int v, rfl, v, v, rfl, rfl, .inl ⟨by omega, by omega⟩, .int k, rfl, 69621, k, rfl, rfl, .inl ⟨by decide, by decide⟩, _, _, rfl, rfl, _, _, rfl, rfl, _, _, rfl, rfl, p87, ?_⟩
    dsimp only
    have u0 := Int.emod_nonneg (v * v + 69621 * k + 7) (show (2147483587 : Int) ≠ 0 by decide)
    have u1 := Int.emod_lt_of_pos (v * v + 69621 * k + 7) (show (0 : Int) < 2147483587 by decide)
    revert u0 u1
    generalize (v * v + 69621 * k + 7) % 2147483587 = u
    intro u0 u1
    refine ⟨.int u, rfl, u, 2147483563, rfl, rfl, .inl ⟨by omega, by omega⟩, .int u, rfl, .int u, rfl, u, u, rfl, rfl, .inl ⟨by omega, by omega⟩, .int u, rfl, 16807, u, rfl, rfl, .inl ⟨by decide, by decide⟩, _, _, rfl, rfl, .int k, rfl, _, _, rfl, rfl, _, _, rfl, rfl, (show (0 : Int) < 2147483563 by decide), _, _, rfl, rfl, ?_⟩
    refine q _ ?_
    have a := Int.emod_nonneg (u * u + 16807 * u + k) (show (2147483563 : Int) ≠ 0 by decide)
    have b : 0 ≤ u * 2147483563 := by omega
    omega
def sp_take (K : PySem.W.Frag) : Sp := fun vs H Q _ => ∃ (d l : Addr) (m n : Int), vs = [.ref d, .int m] ∧ DeckC H d l n ∧ n < 1000000000 ∧ 0 < m ∧ m < 1073741824 ∧ ∀ H' v, DeckC H' d l (n + 1) → Fr d l H H' → 0 ≤ v → v < m → Q (.int v) H'
theorem ok_take (T : Tx K mg) : FnOk P w K mg base CX0 2 T.f_take T.fd_take ["_law_deck_here", "_law_most"] (sp_take K) := by
  refine T.F_take.ok sc_take (fun vs H Q E h => ?_) (fun cdv A outer s H vs Q E hr h => ?_)
  · obtain ⟨d, l, m, n, rfl, _⟩ := h
    rfl
  · obtain ⟨d, l, m, n, rfl, D, hn, hm0, hm1, q⟩ := h
    obtain ⟨ne, cs, y, z, hd, hl, hcs, hz0, hz1⟩ := D
    refine ⟨_, (pss_cons (ps_set (i := 2) sc_take.nd rfl (by first | exact .inl rfl | exact .inr rfl) (pe_ix ix_list (pv 0) pe_int (fun _ _ => rfl))) (pss_cons (ps_asg (pe_op op_add (pe_ix ix_list (pv 0) pe_int (fun _ _ => rfl)) pe_int) (pg_sub (pv 0) pe_int set_list)) (pss_cons (ps_if (pt_cmpR (op_eqD hr.units) (pv 2) (pe_lst pa_nil) (nomark _)) (pss_one (ps_ret (pe_op op_mod (pe_call (ok_mixed T) (hr.mono (by decide)) (by rfl) T.g_mixed T.F_mixed.kp T.b_mixed .nil pass0 (pa_cons (pe_ix ix_list (pv 0) pe_int (fun _ _ => rfl)) (pa_cons (pe_ix ix_list (pv 0) pe_int (fun _ _ => rfl)) pa_nil))) (pv 1)))) pss_nil) (pss_cons (ps_set (i := 3) sc_take.nd rfl (by first | exact .inl rfl | exact .inr rfl) (pe_bm0 PySem.F.plainAttrs_list PySem.F.slot_list_pop PySem.F.type_list_pop mt_pop (pv 2))) (pss_cons (ps_if (pt_cmpR op_lt (pv 3) (pe_op op_pow pe_int pe_int) (nomark _)) (pss_one (ps_ret (pe_op op_mod (pe_call (ok_mixed T) (hr.mono (by decide)) (by rfl) T.g_mixed T.F_mixed.kp T.b_mixed .nil pass0 (pa_cons (pv 3) (pa_cons (pe_ix ix_list (pv 0) pe_int (fun _ _ => rfl)) pa_nil))) (pv 1)))) pss_nil) (C8.pss_cut (ps_if (pt_cmpR op_gt (pe_op op_fdiv (pv 3) (pv 1)) pe_int (nomark _)) (pss_one (ps_expr (pe_bm PySem.F.plainAttrs_list PySem.F.slot_list_append PySem.F.type_list_append mt_append (pv 2) (pa_cons (pe_op op_fdiv (pv 3) (pv 1)) pa_nil)))) pss_nil) (pss_one (ps_ret (pe_op op_mod (pv 3) (pv 1)))))))))), ?_⟩
    refine ⟨.ref d, rfl, d, _, 0, .ref l, rfl, rfl, SqL.of hd, rfl, ?_⟩
    refine ⟨.ref d, rfl, d, _, 2, .int z, rfl, rfl, SqL.of hd, rfl, z, 1, rfl, rfl, .ref d, rfl, d, _, 2, 2, rfl, rfl, hd, rfl, ?_⟩
    have hd1 : (upd H d (.lst [.ref l, .int y, .int (z + 1)])) d = some (.lst [.ref l, .int y, .int (z + 1)]) := upd_same
    have hl1 : (upd H d (.lst [.ref l, .int y, .int (z + 1)])) l = some (.lst (cs.map V.int)) := by rw [upd_ne ne.symm]; exact hl
    have fr1 : Fr d l H (upd H d (.lst [.ref l, .int y, .int (z + 1)])) := Fr.d
    have hz2 : 0 ≤ z + 1 := by omega
    have hz3 : z + 1 ≤ n + 1 := by omega
    have hz4 : z + 1 < 2000000000 := by omega
    show tSeq _ _ _ _ (upd H d (.lst [.ref l, .int y, .int (z + 1)]))
    revert hd1 hl1 fr1 hz2 hz3 hz4
    generalize upd H d (.lst [.ref l, .int y, .int (z + 1)]) = H1
    generalize z + 1 = z'
    intro hd1 hl1 fr1 hz2 hz3 hz4
    refine ⟨.ref l, rfl, Nat.zero_le _, fun p np => ?_⟩
    have fr2 : Fr d l H (upd H1 p (.lst [])) := fr1.trans (Fr.new np)
    have hd2 : (upd H1 p (.lst [])) d = some (.lst [.ref l, .int y, .int z']) := same_upd np _ _ hd1
    have hl2 : (upd H1 p (.lst [])) l = some (.lst (cs.map V.int)) := same_upd np _ _ hl1
    refine ⟨.list (cs.map .int), .list [], .lst (SqL.of hl2) (dpInts cs), .lst (SqL.of upd_same) .nil, shInts cs, rfl, _, rfl, ?_⟩
    revert fr2 hd2 hl2
    generalize upd H1 p (.lst []) = H2
    intro fr2 hd2 hl2
    by_cases hc : cs = []
    · subst hc
      refine iteT ?_
      refine ⟨.ref d, rfl, d, _, 1, .int y, rfl, rfl, SqL.of hd2, rfl, .ref d, rfl, d, _, 2, .int z', rfl, rfl, SqL.of hd2, rfl, y, z', rfl, hz2, hz4, fun v v0 => ⟨.int m, rfl, _, _, rfl, rfl, hm0, ?_⟩⟩
      exact q _ _ ⟨ne, [], y, z', hd2, hl2, hcs, hz2, hz3⟩ fr2 (Int.emod_nonneg _ (by omega)) (Int.emod_lt_of_pos _ hm0)
    · obtain ⟨r, c, rfl⟩ : ∃ r c, cs = r ++ [c] := ⟨cs.dropLast, cs.getLast hc, (List.dropLast_concat_getLast hc).symm⟩
      have en : PyData.eqv (.list ((r ++ [c]).map PyData.int)) (.list []) = false := by
        cases r <;> rfl
      rw [en]
      refine iteF ?_
      have la : ((r ++ [c]).map V.int)[((r ++ [c]).map V.int).length - 1]? = some (.int c) := by simp
      refine ⟨.ref l, rfl, .inl ⟨rfl, _, SqL.of hl2⟩, l, _, .int c, rfl, rfl, hl2, la, ?_⟩
      have dl : ((r ++ [c]).map V.int).dropLast = r.map V.int := by rw [List.map_append]; exact List.dropLast_concat
      rw [dl]
      have hd3 : (upd H2 l (.lst (r.map V.int))) d = some (.lst [.ref l, .int y, .int z']) := by rw [upd_ne ne]; exact hd2
      have hl3 : (upd H2 l (.lst (r.map V.int))) l = some (.lst (r.map V.int)) := upd_same
      have fr3 : Fr d l H (upd H2 l (.lst (r.map V.int))) := fr2.trans Fr.l
      have hr63 : r.length + 1 ≤ 63 := by rw [List.length_append] at hcs; exact hcs
      revert hd3 hl3 fr3
      generalize upd H2 l (.lst (r.map V.int)) = H3
      intro hd3 hl3 fr3
      refine ⟨.int c, rfl, _, _, rfl, rfl, ⟨by decide, by decide, by decide⟩, _, _, rfl, rfl, _, rfl, ite2 (fun _ => ?_) (fun _ => ?_)⟩
      · refine ⟨.int c, rfl, .ref d, rfl, d, _, 2, .int z', rfl, rfl, SqL.of hd3, rfl, c, z', rfl, hz2, hz4, fun v v0 => ⟨.int m, rfl, _, _, rfl, rfl, hm0, ?_⟩⟩
        exact q _ _ ⟨ne, r, y, z', hd3, hl3, by omega, hz2, hz3⟩ fr3 (Int.emod_nonneg _ (by omega)) (Int.emod_lt_of_pos _ hm0)
      · refine ⟨fun σ H' => σ = [some (.ref d), some (.int m), some (.ref l), some (.int c)] ∧ ∃ cs : List Int, cs.length ≤ 63 ∧ H' d = some (.lst [.ref l, .int y, .int z']) ∧ H' l = some (.lst (cs.map V.int)) ∧ Fr d l H H', ?_, ?_⟩
        · refine ⟨.int c, rfl, .int m, rfl, _, _, rfl, rfl, ⟨hm0, hm1⟩, _, _, rfl, rfl, _, rfl, ite2 (fun _ => ?_) (fun _ => ?_)⟩
          · refine ⟨.ref l, rfl, .inl ⟨rfl, _, SqL.of hl3⟩, .int c, rfl, .int m, rfl, _, _, rfl, rfl, ⟨hm0, hm1⟩, l, _, _, rfl, rfl, hl3, ?_, ?_⟩
            · rw [List.length_map]
              exact Nat.lt_of_lt_of_le (show r.length < 64 by omega) (by decide)
            · refine ⟨rfl, r ++ [c / m], by rw [List.length_append]; exact hr63, by rw [upd_ne ne]; exact hd3, ?_, fr3.trans Fr.l⟩
              rw [upd_same, List.map_append]
              rfl
          · exact ⟨rfl, r, by omega, hd3, hl3, fr3⟩
        · rintro σ H4 ⟨rfl, cs4, l4, hd4, hl4, fr4⟩
          refine ⟨.int c, rfl, .int m, rfl, _, _, rfl, rfl, hm0, ?_⟩
          exact q _ _ ⟨ne, cs4, y, z', hd4, hl4, l4, hz2, hz3⟩ fr4 (Int.emod_nonneg _ (by omega)) (Int.emod_lt_of_pos _ hm0)

end
end Gk

set_option Elab.async false
set_option linter.all false
set_option maxRecDepth 100000
set_option maxHeartbeats 1000000
set_option pp.maxSteps 1500
set_option pp.deepTerms false
namespace Gk
open PySem PySem.Spec PyProof.Rows L2
/-! ### slices and sums of tuples: what is told stands in a heap that has grown -/
theorem cut_all {xs : List V} {lo hi : Option Int} (h : HT.sIx xs.length 0 lo = 0 ∧ HT.sIx xs.length xs.length hi = xs.length) : cutV xs lo hi = xs := by
  unfold cutV
  rw [h.1, h.2, List.drop_zero, Nat.sub_zero, List.take_length]
theorem same_refl {H : Hp} : Same H H := fun _ _ e => e
theorem slA {K : PySem.W.Frag} {a : Addr} {xs : List V} {lo hi : Option Int} {H : Hp} {Q : VK} (h : H a = some (.tup xs)) (q : ∀ p H', Same H H' → H' p = some (.tup (cutV xs lo hi)) → Q (.ref p) H') : rSlA K (.ref a) lo hi H Q :=
  ⟨a, xs, rfl, SqT.of h, fun w => q a H same_refl (by rw [cut_all w]; exact h), fun _ p np => q p _ (same_upd np) upd_same⟩
theorem slAn {K : PySem.W.Frag} {a : Addr} {xs : List V} {lo : Option Int} {H : Hp} {Q : VK} {σ : L2.St} (h : H a = some (.tup xs)) (q : ∀ p H', Same H H' → H' p = some (.tup (cutV xs lo none)) → Q (.ref p) H') : tNoPart σ H (fun u H3 => rSlA K (.ref a) lo u H3 Q) := slA h q
theorem catA {K : PySem.W.Frag} {a b : Addr} {xs ys : List V} {H : Hp} {Q : VK} (ha : H a = some (.tup xs)) (hb : H b = some (.tup ys)) (hl : xs.length + ys.length ≤ sizeLine) (q : ∀ p H', Same H H' → H' p = some (.tup (xs ++ ys)) → Q (.ref p) H') : rCatA K (.ref a) (.ref b) H Q :=
  ⟨a, b, xs, ys, rfl, rfl, SqT.of ha, SqT.of hb, hl, fun e => q b H same_refl (by rw [e]; exact hb), fun _ e => q a H same_refl (by rw [e, List.append_nil]; exact ha), fun _ _ p np => q p _ (same_upd np) upd_same⟩
theorem cut_to {xs : List V} {k : Nat} : cutV xs none (some (k : Int)) = xs.take k := by
  unfold cutV
  rw [HT.sIx_none, HT.sIx_nat, List.drop_zero, Nat.sub_zero]
  apply List.ext_getElem?
  intro i
  rw [List.getElem?_take, List.getElem?_take]
  by_cases h : i < k
  · rw [if_pos h]
    by_cases h2 : i < xs.length
    · rw [if_pos (by omega)]
    · rw [List.getElem?_eq_none (by omega)]
      split <;> rfl
  · rw [if_neg h, if_neg (by omega)]
theorem cut_from {xs : List V} {k : Nat} : cutV xs (some (k : Int)) none = xs.drop k := by
  unfold cutV
  rw [HT.sIx_none, HT.sIx_nat]
  by_cases h : k ≤ xs.length
  · rw [Nat.min_eq_left h]
    exact List.take_of_length_le (by rw [List.length_drop]; exact Nat.le_refl _)
  · rw [Nat.min_eq_right (by omega), Nat.sub_self, List.take_zero, List.drop_eq_nil_of_le (by omega)]
theorem TkAll.take {H : Hp} : ∀ {xs : List V} {ds : List PyData} (k : Nat), TkAll H xs ds → TkAll H (xs.take k) (ds.take k)
  | _, _, 0, _ => by rw [List.take_zero, List.take_zero]; exact .nil
  | _, _, _ + 1, .nil => .nil
  | _, _, k + 1, .cons a t => .cons a (t.take k)
theorem TkAll.drop {H : Hp} : ∀ {xs : List V} {ds : List PyData} (k : Nat), TkAll H xs ds → TkAll H (xs.drop k) (ds.drop k)
  | _, _, 0, t => t
  | _, _, _ + 1, .nil => .nil
  | _, _, k + 1, .cons _ t => t.drop k
theorem set_put {α : Type} {l : List α} {i : Nat} {x : α} (h : i < l.length) : (l.take i ++ [x]) ++ l.drop (i + 1) = l.set i x := by
  rw [List.set_eq_take_append_cons_drop, if_pos h, List.append_assoc]
  rfl
def rJoinK (K : PySem.W.Frag) : V → List V → Hp → VK → Prop := fun x xs H Q => ∃ a p, ∃ ys : List Str, x = .str a ∧ xs = [.ref p] ∧ (SqL K H p (ys.map V.str) ∨ SqT K H p (ys.map V.str)) ∧ (ys.map (·.length)).sum + ys.length * a.length ≤ 16777216 ∧ Q (.str (Txt.join a ys)) H

/-! ### sizes of what is shown -/
def fineB (n m : Nat) (d : PyData) : Bool := d.showable && (d.leavesShort 200 && (decide (d.weight ≤ n) && decide (d.depth ≤ m)))
theorem fine_iff {n m : Nat} {d : PyData} : fineB n m d = true ↔ d.showable = true ∧ d.leavesShort 200 = true ∧ d.weight ≤ n ∧ d.depth ≤ m := by
  unfold fineB
  rw [Bool.and_eq_true, Bool.and_eq_true, Bool.and_eq_true, decide_eq_true_eq, decide_eq_true_eq]
theorem fine_mono {n m n' m' : Nat} {d : PyData} (h : fineB n m d = true) (a : n ≤ n') (b : m ≤ m') : fineB n' m' d = true := by
  obtain ⟨h1, h2, h3, h4⟩ := fine_iff.mp h
  exact fine_iff.mpr ⟨h1, h2, Nat.le_trans h3 a, Nat.le_trans h4 b⟩
theorem fine_fits {n m : Nat} {d : PyData} (h : fineB n m d = true) (hn : n ≤ 50000) : d.shown.length ≤ sizeLine := by
  obtain ⟨_, h2, h3, _⟩ := fine_iff.mp h
  have := PyData.shown_le 200 (by decide) d h2
  have e : sizeLine = 16777216 := by decide
  rw [e]
  omega
theorem fine_all {n m : Nat} : ∀ {ds : List PyData}, (∀ d ∈ ds, fineB n m d = true) → PyData.showableAll ds = true ∧ PyData.leavesShortAll 200 ds = true ∧ PyData.weightAll ds ≤ ds.length * (n + 1) ∧ PyData.depthAll ds ≤ m
  | [], _ => ⟨rfl, rfl, Nat.zero_le _, Nat.zero_le _⟩
  | d :: r, h => by
    obtain ⟨a1, a2, a3, a4⟩ := fine_iff.mp (h d (List.mem_cons_self ..))
    obtain ⟨b1, b2, b3, b4⟩ := fine_all (ds := r) fun x hx => h x (List.mem_cons_of_mem _ hx)
    refine ⟨?_, ?_, ?_, ?_⟩
    · unfold PyData.showableAll
      rw [a1, b1]
      rfl
    · unfold PyData.leavesShortAll
      rw [a2, b2]
      rfl
    · unfold PyData.weightAll
      rw [List.length_cons, Nat.succ_mul]
      omega
    · unfold PyData.depthAll
      omega
theorem fine_tup {n m k : Nat} {ds : List PyData} (h : ∀ d ∈ ds, fineB n m d = true) (hk : ds.length ≤ k) : fineB (k * (n + 1)) (m + 1) (.tuple ds) = true := by
  obtain ⟨b1, b2, b3, b4⟩ := fine_all h
  refine fine_iff.mpr ⟨b1, b2, ?_, ?_⟩
  · show PyData.weightAll ds ≤ _
    exact Nat.le_trans b3 (Nat.mul_le_mul_right _ hk)
  · show PyData.depthAll ds + 1 ≤ _
    omega
theorem fine_lst {n m k : Nat} {ds : List PyData} (h : ∀ d ∈ ds, fineB n m d = true) (hk : ds.length ≤ k) : fineB (k * (n + 1)) (m + 1) (.list ds) = true := by
  obtain ⟨b1, b2, b3, b4⟩ := fine_all h
  refine fine_iff.mpr ⟨b1, b2, ?_, ?_⟩
  · show PyData.weightAll ds ≤ _
    exact Nat.le_trans b3 (Nat.mul_le_mul_right _ hk)
  · show PyData.depthAll ds + 1 ≤ _
    omega

mutual
theorem Sh.gr {H H' : Hp} (s : Gr H H') : ∀ {v : V} {d : PyData}, Sh H v d → Sh H' v d
  | _, _, .non => .non
  | _, _, .bl b => .bl b
  | _, _, .int i => .int i
  | _, _, .str x => .str x
  | _, _, .lst h n t => .lst (s.lst h) n (t.gr s)
  | _, _, .tup h t => .tup (s.tup h) (t.gr s)
  | _, _, .dic h t => .dic (s.1 _ _ (fun _ z => by cases z) h) (t.gr s)
theorem ShAll.gr {H H' : Hp} (s : Gr H H') : ∀ {vs : List V} {ds : List PyData}, ShAll H vs ds → ShAll H' vs ds
  | _, _, .nil => .nil
  | _, _, .cons h t => .cons (h.gr s) (t.gr s)
end
theorem ShAll.get {H : Hp} : ∀ {xs : List V} {ds : List PyData} {j : Nat} {x : V}, ShAll H xs ds → xs[j]? = some x → ∃ d, ds[j]? = some d ∧ Sh H x d
  | _, _, _, _, .nil, h => by simp at h
  | _, _, 0, _, .cons (d := d) a _, h => by
    cases (Option.some.inj h)
    exact ⟨d, rfl, a⟩
  | _, _, j + 1, _, .cons _ t, h => t.get h
theorem ShAll.append {H : Hp} : ∀ {xs ys : List V} {ds es : List PyData}, ShAll H xs ds → ShAll H ys es → ShAll H (xs ++ ys) (ds ++ es)
  | _, _, _, _, .nil, t => t
  | _, _, _, _, .cons a r, t => .cons a (r.append t)
theorem ShAll.take {H : Hp} : ∀ {xs : List V} {ds : List PyData} (n : Nat), ShAll H xs ds → ShAll H (xs.take n) (ds.take n)
  | _, _, 0, _ => by rw [List.take_zero, List.take_zero]; exact .nil
  | _, _, n + 1, .nil => .nil
  | _, _, n + 1, .cons a r => .cons a (r.take n)
theorem ShAll.drop {H : Hp} : ∀ {xs : List V} {ds : List PyData} (n : Nat), ShAll H xs ds → ShAll H (xs.drop n) (ds.drop n)
  | _, _, 0, h => h
  | _, _, n + 1, .nil => .nil
  | _, _, n + 1, .cons _ r => r.drop n
theorem notT {b : Bool} (h : (!b) = true) : ¬ b = true := by cases b <;> simp_all
theorem notF {b : Bool} (h : ¬ (!b) = true) : b = true := by cases b <;> simp_all

section
variable {P : Program} {w : World} {K : PySem.W.Frag} {mg : Str → Option Value} {base : Heap}
/-! ### kinds of data -/
def isIntD : PyData → Bool
  | .int _ => true
  | .bool _ => true
  | _ => false
def isBoolD : PyData → Bool
  | .bool _ => true
  | _ => false
def isTupD : PyData → Bool
  | .tuple _ => true
  | _ => false
def isStrD : PyData → Bool
  | .str _ => true
  | _ => false
theorem kitInt : ∀ d : PyData, kitB (tyD d) "int" = some (isIntD d)
  | .none => (by decide +kernel : kitB "NoneType" "int" = some false)
  | .bool _ => (by decide +kernel : kitB "bool" "int" = some true)
  | .int _ => (by decide +kernel : kitB "int" "int" = some true)
  | .str _ => (by decide +kernel : kitB "str" "int" = some false)
  | .list _ => (by decide +kernel : kitB "list" "int" = some false)
  | .tuple _ => (by decide +kernel : kitB "tuple" "int" = some false)
  | .dict _ => (by decide +kernel : kitB "dict" "int" = some false)
theorem kitBool : ∀ d : PyData, kitB (tyD d) "bool" = some (isBoolD d)
  | .none => (by decide +kernel : kitB "NoneType" "bool" = some false)
  | .bool _ => (by decide +kernel : kitB "bool" "bool" = some true)
  | .int _ => (by decide +kernel : kitB "int" "bool" = some false)
  | .str _ => (by decide +kernel : kitB "str" "bool" = some false)
  | .list _ => (by decide +kernel : kitB "list" "bool" = some false)
  | .tuple _ => (by decide +kernel : kitB "tuple" "bool" = some false)
  | .dict _ => (by decide +kernel : kitB "dict" "bool" = some false)
theorem kitTup : ∀ d : PyData, kitB (tyD d) "tuple" = some (isTupD d)
  | .none => (by decide +kernel : kitB "NoneType" "tuple" = some false)
  | .bool _ => (by decide +kernel : kitB "bool" "tuple" = some false)
  | .int _ => (by decide +kernel : kitB "int" "tuple" = some false)
  | .str _ => (by decide +kernel : kitB "str" "tuple" = some false)
  | .list _ => (by decide +kernel : kitB "list" "tuple" = some false)
  | .tuple _ => (by decide +kernel : kitB "tuple" "tuple" = some true)
  | .dict _ => (by decide +kernel : kitB "dict" "tuple" = some false)
theorem kitStr : ∀ d : PyData, kitB (tyD d) "str" = some (isStrD d)
  | .none => (by decide +kernel : kitB "NoneType" "str" = some false)
  | .bool _ => (by decide +kernel : kitB "bool" "str" = some false)
  | .int _ => (by decide +kernel : kitB "int" "str" = some false)
  | .str _ => (by decide +kernel : kitB "str" "str" = some true)
  | .list _ => (by decide +kernel : kitB "list" "str" = some false)
  | .tuple _ => (by decide +kernel : kitB "tuple" "str" = some false)
  | .dict _ => (by decide +kernel : kitB "dict" "str" = some false)
def wholeD : PyData → Bool
  | .int _ => true
  | _ => false
def worthD : PyData → Bool
  | .int i => decide (0 ≤ i) && decide (i ≤ 1)
  | _ => false
theorem whole_of : ∀ {d : PyData}, isIntD d = true → wholeD d = !isBoolD d
  | .int _, _ => rfl
  | .bool _, _ => rfl
  | .none, h => by cases h
  | .str _, h => by cases h
  | .list _, h => by cases h
  | .tuple _, h => by cases h
  | .dict _, h => by cases h
theorem whole_not : ∀ {d : PyData}, ¬ isIntD d = true → wholeD d = false
  | .int _, h => absurd rfl h
  | .bool _, h => absurd rfl h
  | .none, _ => rfl
  | .str _, _ => rfl
  | .list _, _ => rfl
  | .tuple _, _ => rfl
  | .dict _, _ => rfl
theorem whole_int : ∀ {d : PyData}, wholeD d = true → ∃ i, d = .int i
  | .int i, _ => ⟨i, rfl⟩
  | .bool _, h => by cases h
  | .none, h => by cases h
  | .str _, h => by cases h
  | .list _, h => by cases h
  | .tuple _, h => by cases h
  | .dict _, h => by cases h
theorem worth_not : ∀ {d : PyData}, ¬ wholeD d = true → worthD d = false
  | .int _, h => absurd rfl h
  | .bool _, _ => rfl
  | .none, _ => rfl
  | .str _, _ => rfl
  | .list _, _ => rfl
  | .tuple _, _ => rfl
  | .dict _, _ => rfl
theorem tup_of : ∀ {d : PyData}, isTupD d = true → ∃ ds, d = .tuple ds
  | .tuple ds, _ => ⟨ds, rfl⟩
  | .bool _, h => by cases h
  | .none, h => by cases h
  | .str _, h => by cases h
  | .list _, h => by cases h
  | .int _, h => by cases h
  | .dict _, h => by cases h
def sp_is_whole (K : PySem.W.Frag) : Sp := fun vs H Q _ => ∃ (v : V) (d : PyData), vs = [v] ∧ Sh H v d ∧ Q (.bl (wholeD d)) H
theorem ok_is_whole (T : Tx K mg) : FnOk P w K mg base CX0 1 T.f_is_whole T.fd_is_whole ["thing"] (sp_is_whole K) := by
  refine T.F_is_whole.ok sc_is_whole (fun vs H Q E h => ?_) (fun cdv A outer s H vs Q E hr h => ?_)
  · obtain ⟨v, d, rfl, _⟩ := h
    rfl
  · obtain ⟨v, d, rfl, sh, q⟩ := h
    refine ⟨_, (pss_one (ps_ret (pe_and (pe_callB call_isi (by rfl) T.m_isinstance (by decide +kernel) (pa_cons (pv 0) (pa_cons (pe_bltn (v := .ty "int") (u := .type "int") (by rfl) T.m_int (by decide +kernel) rfl) pa_nil))) (pe_one (pe_not (pe_callB call_isi (by rfl) T.m_isinstance (by decide +kernel) (pa_cons (pv 0) (pa_cons (pe_bltn (v := .ty "bool") (u := .type "bool") (by rfl) T.m_bool (by decide +kernel) rfl) pa_nil)))))))), ?_⟩
    refine ⟨v, rfl, _, _, _, _, _, rfl, .ty _, sh.ty, kit_ty (kitInt d), _, rfl, ite2 (fun e => ?_) (fun e => ?_)⟩
    · refine ⟨v, rfl, _, _, _, _, _, rfl, .ty _, sh.ty, kit_ty (kitBool d), _, rfl, ?_⟩
      rw [← whole_of e]
      exact q
    · rw [whole_not e] at q
      exact q

/-! ### gates and nets, of anything -/
def sgB (c : Nat) : Bool := decide (c ∈ (Str.ofString "01").cps.toList)
def isSignsD (m : Int) : PyData → Bool
  | .str x => decide ((x.length : Int) = m) && x.cps.toList.all sgB
  | _ => false
def wireD (w : Int) : PyData → Bool
  | .int i => decide (0 ≤ i) && decide (i < w)
  | _ => false
def gateParts (w : Int) (a b : PyData) : Bool :=
  match b with
  | .tuple ins => (decide (1 ≤ ins.length) && decide (ins.length ≤ 3)) && (isSignsD (2 ^ ins.length) a && ins.all (wireD w))
  | _ => false
def isGateD (w : Int) : PyData → Bool
  | .tuple ds => (match ds with
    | [a, b] => gateParts w a b
    | _ => false)
  | _ => false
def gatesD (m : Int) (gs : List PyData) : Bool := (List.range gs.length).all fun k => isGateD (m + (k : Nat)) (gs.getD k .none)
def netParts (a b : PyData) : Bool :=
  match a with
  | .int m => (match b with
    | .tuple gs => (decide (1 ≤ m) && decide (m ≤ 6)) && (decide (gs.length ≠ 0) && gatesD m gs)
    | _ => false)
  | _ => false
def isNetD : PyData → Bool
  | .tuple ds => (match ds with
    | [a, b] => netParts a b
    | _ => false)
  | _ => false
theorem signs_not {m : Int} : ∀ {d : PyData}, ¬ isStrD d = true → isSignsD m d = false
  | .str _, h => absurd rfl h
  | .bool _, _ => rfl
  | .none, _ => rfl
  | .tuple _, _ => rfl
  | .list _, _ => rfl
  | .int _, _ => rfl
  | .dict _, _ => rfl
theorem gate_not {w : Int} : ∀ {d : PyData}, ¬ isTupD d = true → isGateD w d = false
  | .tuple _, h => absurd rfl h
  | .bool _, _ => rfl
  | .none, _ => rfl
  | .str _, _ => rfl
  | .list _, _ => rfl
  | .int _, _ => rfl
  | .dict _, _ => rfl
theorem gate_len {w : Int} : ∀ {ds : List PyData}, ¬ ds.length = 2 → isGateD w (.tuple ds) = false
  | [], _ => rfl
  | [_], _ => rfl
  | [_, _], h => absurd rfl h
  | _ :: _ :: _ :: _, _ => rfl
theorem gate_tup {w : Int} (a : PyData) : ∀ {b : PyData}, ¬ isTupD b = true → gateParts w a b = false
  | .tuple _, h => absurd rfl h
  | .bool _, _ => rfl
  | .none, _ => rfl
  | .str _, _ => rfl
  | .list _, _ => rfl
  | .int _, _ => rfl
  | .dict _, _ => rfl
theorem net_not : ∀ {d : PyData}, ¬ isTupD d = true → isNetD d = false
  | .tuple _, h => absurd rfl h
  | .bool _, _ => rfl
  | .none, _ => rfl
  | .str _, _ => rfl
  | .list _, _ => rfl
  | .int _, _ => rfl
  | .dict _, _ => rfl
theorem net_len : ∀ {ds : List PyData}, ¬ ds.length = 2 → isNetD (.tuple ds) = false
  | [], _ => rfl
  | [_], _ => rfl
  | [_, _], h => absurd rfl h
  | _ :: _ :: _ :: _, _ => rfl
theorem net_int : ∀ {a : PyData} (b : PyData), ¬ wholeD a = true → netParts a b = false
  | .int _, _, h => absurd rfl h
  | .bool _, _, _ => rfl
  | .none, _, _ => rfl
  | .str _, _, _ => rfl
  | .list _, _, _ => rfl
  | .tuple _, _, _ => rfl
  | .dict _, _, _ => rfl
theorem net_tup (m : Int) : ∀ {b : PyData}, ¬ isTupD b = true → netParts (.int m) b = false
  | .tuple _, h => absurd rfl h
  | .bool _, _ => rfl
  | .none, _ => rfl
  | .str _, _ => rfl
  | .list _, _ => rfl
  | .int _, _ => rfl
  | .dict _, _ => rfl
theorem wire_not {w : Int} : ∀ {d : PyData}, ¬ wholeD d = true → wireD w d = false
  | .int _, h => absurd rfl h
  | .bool _, _ => rfl
  | .none, _ => rfl
  | .str _, _ => rfl
  | .list _, _ => rfl
  | .tuple _, _ => rfl
  | .dict _, _ => rfl
theorem strD_of : ∀ {d : PyData}, isStrD d = true → ∃ z, d = .str z
  | .str z, _ => ⟨z, rfl⟩
  | .bool _, h => by cases h
  | .none, h => by cases h
  | .tuple _, h => by cases h
  | .list _, h => by cases h
  | .int _, h => by cases h
  | .dict _, h => by cases h
theorem w_line {x : Str} (h : (PyData.str x).weight ≤ 50000) : x.length ≤ sizeLine := Nat.le_trans (show x.length ≤ 50000 from h) (by decide)
theorem len_eqI {n : Nat} {m : Int} : decide (V.int (n : Int) = V.int m) = decide ((n : Int) = m) := by
  by_cases h : (n : Int) = m
  · rw [decide_eq_true h, decide_eq_true (by rw [h])]
  · rw [decide_eq_false h, decide_eq_false fun z => h (V.int.inj z)]
theorem cps_at {x : Str} {j c : Nat} (h : x.cps[j]? = some c) : x.cps.toList[j]? = some c := by rw [Array.getElem?_toList]; exact h
theorem all_stop {α : Type} {f : α → Bool} {l : List α} {j : Nat} {x : α} (h : l[j]? = some x) (n : ¬ f x = true) : l.all f = false := by
  cases e : l.all f with
  | false => rfl
  | true => exact absurd (List.all_eq_true.mp e x (List.mem_of_getElem? h)) n
theorem all_take {α : Type} {f : α → Bool} {l : List α} {j : Nat} {x : α} (h : l[j]? = some x) (p : (l.take j).all f = true) (hx : f x = true) : (l.take (j + 1)).all f = true := by
  rw [List.take_add_one, h, List.all_append, p, Bool.true_and]
  show (f x && true) = true
  rw [hx]
  rfl
theorem weight_get {ds : List PyData} {j : Nat} {d : PyData} (h : ds[j]? = some d) : d.weight ≤ PyData.weightAll ds := by
  induction ds generalizing j with
  | nil => simp at h
  | cons x r ih =>
    cases j with
    | zero =>
      cases Option.some.inj h
      show d.weight ≤ d.weight + 1 + PyData.weightAll r
      omega
    | succ j =>
      have := ih (j := j) h
      show d.weight ≤ x.weight + 1 + PyData.weightAll r
      omega
theorem two_of {ds : List PyData} (h : ds.length = 2) : ∃ a b, ds = [a, b] := by
  match ds, h with
  | [a, b], _ => exact ⟨a, b, rfl⟩
theorem getD_at {gs : List PyData} {k : Nat} {g : PyData} (h : gs[k]? = some g) : gs.getD k .none = g := by
  rw [List.getD_eq_getElem?_getD, h]
  rfl
theorem gates_no {m : Int} {gs : List PyData} {k : Nat} {g : PyData} (h : gs[k]? = some g) (n : ¬ isGateD (m + (k : Nat)) g = true) : gatesD m gs = false := by
  refine all_stop (j := k) (x := k) ?_ ?_
  · rw [List.getElem?_range (List.getElem?_eq_some_iff.mp h).1]
  · rw [getD_at h]
    exact n
theorem gates_all {m : Int} {gs : List PyData} (h : ∀ k g, gs[k]? = some g → isGateD (m + (k : Nat)) g = true) : gatesD m gs = true := by
  refine List.all_eq_true.mpr fun k hk => ?_
  have hk' := List.mem_range.mp hk
  have e := List.getElem?_eq_getElem hk'
  rw [getD_at e]
  exact h k _ e
theorem ite2' {p : Prop} {b : Bool} {A B : p → Prop} : True := trivial
def sp_is_signs (T : Tx K mg) : Sp := fun vs H Q _ => ∃ (m : Int) (v : V) (d : PyData), vs = [.int m, v] ∧ Sh H v d ∧ d.weight ≤ 50000 ∧ GxR.TabG H T.P_is_signs ∧ ∀ H', Gr H H' → Q (.bl (isSignsD m d)) H'
theorem ok_is_signs (T : Tx K mg) (B : Tb base T) : FnOk P w K mg base CX0 2 T.f_is_signs T.fd_is_signs ["many", "thing"] (sp_is_signs T) := by
  refine okC T.F_is_signs sc_is_signs (fun vs H Q E h => ?_) (fun A outer s H vs Q E hr h => ?_)
  · obtain ⟨m, v, d, rfl, _⟩ := h
    rfl
  · obtain ⟨m, v, d, rfl, sh, wt, tab, q⟩ := h
    refine ⟨_, (pss_one (ps_ret (pe_and (pe_callB call_isi (by rfl) T.m_isinstance (by decide +kernel) (pa_cons (pv 1) (pa_cons (pe_bltn (v := .ty "str") (u := .type "str") (by rfl) T.m_str (by decide +kernel) rfl) pa_nil))) (pe_and (pe_cmpR op_eq (pe_callB call_len_str (by rfl) T.m_len PySem.boot_len (pa_cons (pv 1) pa_nil)) (pv 0) (nomark _)) (pe_one (pe_allX (own := [("sign", 2)]) (k := 0) (hr.mono (by decide)) rfl sc_is_signs.nd (by rfl) T.m_all (by decide +kernel) B.TB_is_signs T.cd_is_signs rfl rfl (by decide +kernel) (blkOk_by (own := [("sign", 2)]) (N := ["many", "thing", "sign"]) (sc := defScope s_is_signs) (by decide +kernel)) (pi_str (pv 1)) (fun _ _ _ _ _ _ _ hr gd => (pg_name (i := 2) sc_is_signs.nd rfl (by first | exact .inl rfl | exact .inr rfl))) (fun _ _ _ _ _ _ _ hr gd => pts_nil) (fun _ _ _ _ _ _ _ hr gd => (pe_cmpR op_in_sign (pv 2) pe_str rfl)) (fun _ => rfl))))))), ?_⟩
    refine ⟨v, rfl, _, _, _, _, _, rfl, .ty _, sh.ty, kit_ty (kitStr d), _, rfl, ite2 (fun e => ?_) (fun e => ?_)⟩
    · obtain ⟨x, rfl⟩ := strD_of e
      cases sh
      refine ⟨.str x, rfl, x, rfl, w_line wt, .int m, rfl, rfl, _, rfl, ?_⟩
      rw [len_eqI]
      refine ite2 (fun e1 => ?_) (fun e1 => ?_)
      · refine ⟨.str x, rfl, x, rfl, tab, fun H2 tb => ?_⟩
        have g2 := Gr.tab tab tb
        refine gx_str (z := x) (fun j _ H' => H' = H2 ∧ (x.cps.toList.take j).all sgB = true) ⟨rfl, rfl⟩ ?_ ?_
        · rintro j c _ H' hx ⟨rfl, ih⟩
          have hc := cps_at hx
          refine ⟨rfl, .str ⟨#[c]⟩, rfl, c, _, rfl, rfl, _, rfl, ite2 (fun z => ⟨rfl, all_take hc ih z⟩) (fun z => ?_)⟩
          have q' := q H' g2
          have : isSignsD m (.str x) = false := by
            show (decide ((x.length : Int) = m) && x.cps.toList.all sgB) = false
            rw [all_stop hc z, Bool.and_false]
          rw [this] at q'
          exact q'
        · rintro _ H' ⟨rfl, ih⟩
          have : x.cps.size = x.cps.toList.length := Array.length_toList.symm
          rw [this, List.take_length] at ih
          have q' := q H' g2
          have : isSignsD m (.str x) = true := by
            show (decide ((x.length : Int) = m) && x.cps.toList.all sgB) = true
            rw [ih, e1]
            rfl
          rw [this] at q'
          exact q'
      · have q' := q H Gr.refl
        have : isSignsD m (.str x) = false := by
          show (decide ((x.length : Int) = m) && x.cps.toList.all sgB) = false
          rw [Bool.eq_false_iff.mpr e1, Bool.false_and]
        rw [this] at q'
        exact q'
    · have q' := q H Gr.refl
      rw [signs_not e] at q'
      exact q'
theorem len2 {n : Nat} : decide (V.int (n : Int) = V.int 2) = decide (n = 2) := by
  rw [len_eqI]
  by_cases z : n = 2
  · rw [decide_eq_true z, decide_eq_true (by omega)]
  · rw [decide_eq_false z, decide_eq_false (by omega)]
theorem wt2 {a b : PyData} (h : (PyData.tuple [a, b]).weight ≤ 50000) : a.weight ≤ 50000 ∧ b.weight ≤ 50000 := by
  have : a.weight + 1 + (b.weight + 1 + 0) ≤ 50000 := h
  omega
theorem wtT {ds : List PyData} (h : (PyData.tuple ds).weight ≤ 50000) : PyData.weightAll ds ≤ 50000 := h
def sp_is_gate (T : Tx K mg) : Sp := fun vs H Q _ => ∃ (w : Int) (v : V) (d : PyData), vs = [.int w, v] ∧ Sh H v d ∧ d.weight ≤ 50000 ∧ GxR.TabG H T.P_is_signs ∧ GxR.TabG H T.P_is_gate ∧ ∀ H', Gr H H' → Q (.bl (isGateD w d)) H'
theorem ok_is_gate (T : Tx K mg) (B : Tb base T) : FnOk P w K mg base CX0 3 T.f_is_gate T.fd_is_gate ["wires", "thing"] (sp_is_gate T) := by
  refine okC T.F_is_gate sc_is_gate (fun vs H Q E h => ?_) (fun A outer s H vs Q E hr h => ?_)
  · obtain ⟨w, v, d, rfl, _⟩ := h
    rfl
  · obtain ⟨wi, v, d, rfl, sh, wt, tab0, tab, q⟩ := h
    refine ⟨_, (pss_cons (ps_if (pw_or (pt_not (pt_val (pe_callB call_isi (by rfl) T.m_isinstance (by decide +kernel) (pa_cons (pv 1) (pa_cons (pe_bltn (v := .ty "tuple") (u := .type "tuple") (by rfl) T.m_tuple (by decide +kernel) rfl) pa_nil))))) (pw_or1 (pt_cmpR op_ne (pe_callB call_len_seq (by rfl) T.m_len PySem.boot_len (pa_cons (pv 1) pa_nil)) pe_int (nomark _)))).pt (pss_one (ps_ret pe_bl)) pss_nil) (pss_cons (ps_asg (pv 1) (pg_tup rfl (pgs_cons (pg_name (i := 2) sc_is_gate.nd rfl (by first | exact .inl rfl | exact .inr rfl)) (pgs_cons (pg_name (i := 3) sc_is_gate.nd rfl (by first | exact .inl rfl | exact .inr rfl)) pgs_nil)))) (pss_cons (ps_if (pw_or (pt_not (pt_val (pe_callB call_isi (by rfl) T.m_isinstance (by decide +kernel) (pa_cons (pv 3) (pa_cons (pe_bltn (v := .ty "tuple") (u := .type "tuple") (by rfl) T.m_tuple (by decide +kernel) rfl) pa_nil))))) (pw_or1 (pt_not (pt_chain op_le op_le pe_int (pe_callB call_len_seq (by rfl) T.m_len PySem.boot_len (pa_cons (pv 3) pa_nil)) (pe_glob (v := .int 3) (by rfl) T.k_MOST_INS.choose_spec ⟨_, rfl⟩))))).pt (pss_one (ps_ret pe_bl)) pss_nil) (pss_one (ps_ret (pe_and (pe_call (ok_is_signs T B) (hr.mono (by decide)) (by rfl) T.g_is_signs T.F_is_signs.kp T.b_is_signs .nil pass0 (pa_cons (pe_op op_shl pe_int (pe_callB call_len_seq (by rfl) T.m_len PySem.boot_len (pa_cons (pv 3) pa_nil))) (pa_cons (pv 2) pa_nil))) (pe_one (pe_allX (own := [("wire", 4)]) (k := 1) (hr.mono (by decide)) rfl sc_is_gate.nd (by rfl) T.m_all (by decide +kernel) B.TB_is_gate T.cd_is_gate rfl rfl (by decide +kernel) (blkOk_by (own := [("wire", 4)]) (N := ["wires", "thing", "table", "ins", "wire"]) (sc := defScope s_is_gate) (by decide +kernel)) (pi_tup (pv 3)) (fun _ _ _ _ _ _ _ hr gd => (pg_name (i := 4) sc_is_gate.nd rfl (by first | exact .inl rfl | exact .inr rfl))) (fun _ _ _ _ _ _ _ hr gd => pts_nil) (fun _ _ _ _ _ _ _ hr gd => (pe_and (pe_call (ok_is_whole T) (hr.mono (by decide)) (by rfl) T.g_is_whole T.F_is_whole.kp T.b_is_whole .nil pass0 (pa_cons (pv 4) pa_nil)) (pe_one (pe_chain op_le op_lt pe_int (pv 4) (pv 0))))) (fun _ => rfl))))))))), ?_⟩
    refine ⟨v, rfl, _, _, _, _, _, rfl, .ty _, sh.ty, kit_ty (kitTup d), _, rfl, ite2 (fun e => ?_) (fun e => ?_)⟩
    · have q' := q H Gr.refl
      rw [gate_not (notT e)] at q'
      exact q'
    obtain ⟨ds, rfl⟩ := tup_of (notF e)
    cases sh with
    | @tup a xs _ h t =>
      have lx := t.length
      refine ⟨.ref a, rfl, a, xs, rfl, .inr (SqT.of h), rfl, _, rfl, ?_⟩
      rw [lx, len2]
      refine ite2 (fun e1 => ?_) (fun e1 => ?_)
      · have q' := q H Gr.refl
        rw [gate_len (fun z => by rw [z] at e1; cases e1)] at q'
        exact q'
      obtain ⟨d0, d1, rfl⟩ := two_of (ds := ds) (of_decide_eq_true (notF e1))
      cases t with
      | @cons v0 _ _ _ t0 t1 =>
        cases t1 with
        | @cons v1 _ _ _ t1 t2 =>
          cases t2
          refine ⟨.ref a, rfl, a, _, rfl, SqT.of h, rfl, _, _, rfl, _, _, rfl, rfl, ?_⟩
          refine ⟨v1, rfl, _, _, _, _, _, rfl, .ty _, t1.ty, kit_ty (kitTup d1), _, rfl, ite2 (fun e2 => ?_) (fun e2 => ?_)⟩
          · have q' := q H Gr.refl
            rw [show isGateD wi (.tuple [d0, d1]) = false from gate_tup d0 (notT e2)] at q'
            exact q'
          obtain ⟨ins, rfl⟩ := tup_of (notF e2)
          cases t1 with
          | @tup b ys _ hb tb =>
            have ly := tb.length
            refine ⟨.ref b, rfl, b, ys, rfl, .inr (SqT.of hb), ?_⟩
            rw [ly]
            have val : isGateD wi (.tuple [d0, .tuple ins]) = ((decide (1 ≤ ins.length) && decide (ins.length ≤ 3)) && (isSignsD (2 ^ ins.length) d0 && ins.all (wireD wi))) := rfl
            rw [val] at q
            have c1 : decide ((1 : Int) ≤ (ins.length : Int)) = decide (1 ≤ ins.length) := decide_eq_decide.mpr (by omega)
            have c3 : decide ((ins.length : Int) ≤ 3) = decide (ins.length ≤ 3) := decide_eq_decide.mpr (by omega)
            refine ⟨1, _, rfl, rfl, _, rfl, ?_⟩
            rw [c1]
            refine ite2 (fun e4 => ?_) (fun e4 => ?_)
            · refine ⟨_, 3, rfl, rfl, _, rfl, ?_⟩
              rw [c3]
              refine ite2 (fun e5 => ?_) (fun e5 => ?_)
              · have q' := q H Gr.refl
                have e5 : decide (ins.length ≤ 3) = false := by simpa using e5
                rw [e5, Bool.and_false, Bool.false_and] at q'
                exact q'
              have e5 : decide (ins.length ≤ 3) = true := by simpa using e5
              rw [e4, e5] at q
              have l3 : ins.length ≤ 3 := of_decide_eq_true e5
              refine ⟨.ref b, rfl, b, ys, rfl, .inr (SqT.of hb), ?_⟩
              rw [ly]
              refine ⟨1, _, rfl, rfl, ⟨by omega, by omega, by decide⟩, v0, rfl, (2 : Int) ^ ins.length, v0, d0, ?_, t0, (wt2 wt).1, tab0, fun H2 g2 => ⟨_, rfl, ite2 (fun e6 => ?_) (fun e6 => ?_)⟩⟩
              · show [V.int ((1 : Int) * 2 ^ ((ins.length : Int)).toNat), v0] = _
                rw [Int.one_mul]
                rfl
              · rw [e6] at q
                have hb2 := g2.tup hb
                have tb2 := tb.gr g2
                have tab2 := g2.2 _ tab
                refine ⟨.ref b, rfl, b, rfl, ⟨_, SqT.of hb2⟩, tab2, fun H3 t3 => ?_⟩
                have g3 := Gr.tab tab2 t3
                have g23 := g2.trans g3
                refine gx_tup (K := K) (a := b) (xs := ys) (fun j _ H' => H' = H3 ∧ (ins.take j).all (wireD wi) = true) ⟨rfl, rfl⟩ (fun j _ H' _ e => by rw [e.1]; exact SqT.of (g3.tup hb2)) ?_ ?_
                · rintro j x _ H' hx ⟨rfl, ih⟩
                  obtain ⟨e0, he0, sh0⟩ := tb2.get hx
                  have stop : ¬ wireD wi e0 = true → Q (.bl false) H' := fun z => by
                    have q' := q H' g23
                    rw [all_stop he0 z] at q'
                    exact q'
                  refine ⟨rfl, x, rfl, x, e0, rfl, sh0.gr g3, _, rfl, ite2 (fun z => ?_) (fun z => ?_)⟩
                  · obtain ⟨u, rfl⟩ := whole_int z
                    cases sh0
                    refine ⟨.int u, rfl, 0, _, rfl, rfl, _, rfl, ite2 (fun z1 => ?_) (fun z1 => ?_)⟩
                    · refine ⟨.int wi, rfl, _, _, rfl, rfl, _, rfl, ite2 (fun z2 => ⟨rfl, all_take he0 ih ?_⟩) (fun z2 => stop ?_)⟩
                      · show (decide (0 ≤ u) && decide (u < wi)) = true
                        rw [z1, z2]
                        rfl
                      · show ¬ (decide (0 ≤ u) && decide (u < wi)) = true
                        rw [Bool.and_eq_true]
                        exact fun k => z2 k.2
                    · refine ⟨false, rfl, iteF (stop ?_)⟩
                      show ¬ (decide (0 ≤ u) && decide (u < wi)) = true
                      rw [Bool.and_eq_true]
                      exact fun k => z1 k.1
                  · exact ⟨false, rfl, iteF (stop fun k => by rw [wire_not z] at k; cases k)⟩
                · rintro _ H' ⟨rfl, ih⟩
                  rw [ly, List.take_length] at ih
                  have q' := q H' g23
                  rw [ih] at q'
                  exact q'
              · have q' := q H2 g2
                rw [Bool.eq_false_iff.mpr e6] at q'
                exact q'
            · have q' := q H Gr.refl
              rw [Bool.eq_false_iff.mpr e4] at q'
              exact ⟨_, rfl, iteT q'⟩
def sp_is_net (T : Tx K mg) : Sp := fun vs H Q _ => ∃ (v : V) (d : PyData), vs = [v] ∧ Sh H v d ∧ d.weight ≤ 50000 ∧ GxR.TabG H T.P_is_signs ∧ GxR.TabG H T.P_is_gate ∧ GxR.TabG H T.P_is_net ∧ ∀ H', Gr H H' → Q (.bl (isNetD d)) H'
theorem ok_is_net (T : Tx K mg) (B : Tb base T) : FnOk P w K mg base CX0 5 T.f_is_net T.fd_is_net ["thing"] (sp_is_net T) := by
  refine okC T.F_is_net sc_is_net (fun vs H Q E h => ?_) (fun A outer s H vs Q E hr h => ?_)
  · obtain ⟨v, d, rfl, _⟩ := h
    rfl
  · obtain ⟨v, d, rfl, sh, wt, tab0, tab1, tab, q⟩ := h
    refine ⟨_, (pss_cons (ps_if (pw_or (pt_not (pt_val (pe_callB call_isi (by rfl) T.m_isinstance (by decide +kernel) (pa_cons (pv 0) (pa_cons (pe_bltn (v := .ty "tuple") (u := .type "tuple") (by rfl) T.m_tuple (by decide +kernel) rfl) pa_nil))))) (pw_or1 (pt_cmpR op_ne (pe_callB call_len_seq (by rfl) T.m_len PySem.boot_len (pa_cons (pv 0) pa_nil)) pe_int (nomark _)))).pt (pss_one (ps_ret pe_bl)) pss_nil) (pss_cons (ps_asg (pv 0) (pg_tup rfl (pgs_cons (pg_name (i := 1) sc_is_net.nd rfl (by first | exact .inl rfl | exact .inr rfl)) (pgs_cons (pg_name (i := 2) sc_is_net.nd rfl (by first | exact .inl rfl | exact .inr rfl)) pgs_nil)))) (pss_cons (ps_if (pw_or (pt_not (pt_val (pe_call (ok_is_whole T) (hr.mono (by decide)) (by rfl) T.g_is_whole T.F_is_whole.kp T.b_is_whole .nil pass0 (pa_cons (pv 1) pa_nil)))) (pw_or1 (pt_not (pt_chain op_le op_le pe_int (pv 1) (pe_glob (v := .int 6) (by rfl) T.k_MOST_INPUTS.choose_spec ⟨_, rfl⟩))))).pt (pss_one (ps_ret pe_bl)) pss_nil) (pss_cons (ps_if (pw_or (pt_not (pt_val (pe_callB call_isi (by rfl) T.m_isinstance (by decide +kernel) (pa_cons (pv 2) (pa_cons (pe_bltn (v := .ty "tuple") (u := .type "tuple") (by rfl) T.m_tuple (by decide +kernel) rfl) pa_nil))))) (pw_or1 (pt_cmpR op_eq (pe_callB call_len_seq (by rfl) T.m_len PySem.boot_len (pa_cons (pv 2) pa_nil)) pe_int (nomark _)))).pt (pss_one (ps_ret pe_bl)) pss_nil) (pss_one (ps_ret (pe_allX (own := [("number", 3), ("gate", 4)]) (k := 3) (hr.mono (by decide)) rfl sc_is_net.nd (by rfl) T.m_all (by decide +kernel) B.TB_is_net T.cd_is_net rfl rfl (by decide +kernel) (blkOk_by (own := [("number", 3), ("gate", 4)]) (N := ["thing", "many", "gates", "number", "gate"]) (sc := defScope s_is_net) (by decide +kernel)) (pi_enumT (by rfl) T.m_enumerate (pa_cons (pv 2) pa_nil)) (fun _ _ _ _ _ _ _ hr gd => (show PG _ _ (gTup K 2 _) from pg_tup rfl (pgs_cons (pg_name (i := 3) sc_is_net.nd rfl (by first | exact .inl rfl | exact .inr rfl)) (pgs_cons (pg_name (i := 4) sc_is_net.nd rfl (by first | exact .inl rfl | exact .inr rfl)) pgs_nil)))) (fun _ _ _ _ _ _ _ hr gd => pts_nil) (fun _ _ _ _ _ _ _ hr gd => (pe_call (ok_is_gate T B) (hr.mono (by decide)) (by rfl) T.g_is_gate T.F_is_gate.kp T.b_is_gate .nil pass0 (pa_cons (pe_op op_add (pv 1) (pv 3)) (pa_cons (pv 4) pa_nil)))) (fun _ => rfl)))))))), ?_⟩
    refine ⟨v, rfl, _, _, _, _, _, rfl, .ty _, sh.ty, kit_ty (kitTup d), _, rfl, ite2 (fun e => ?_) (fun e => ?_)⟩
    · have q' := q H Gr.refl
      rw [net_not (notT e)] at q'
      exact q'
    obtain ⟨ds, rfl⟩ := tup_of (notF e)
    cases sh with
    | @tup a xs _ h t =>
      have lx := t.length
      refine ⟨.ref a, rfl, a, xs, rfl, .inr (SqT.of h), rfl, _, rfl, ?_⟩
      rw [lx, len2]
      refine ite2 (fun e1 => ?_) (fun e1 => ?_)
      · have q' := q H Gr.refl
        rw [net_len (fun z => by rw [z] at e1; cases e1)] at q'
        exact q'
      obtain ⟨d0, d1, rfl⟩ := two_of (ds := ds) (of_decide_eq_true (notF e1))
      cases t with
      | @cons v0 _ _ _ t0 t1 =>
        cases t1 with
        | @cons v1 _ _ _ t1 t2 =>
          cases t2
          refine ⟨.ref a, rfl, a, _, rfl, SqT.of h, rfl, _, _, rfl, _, _, rfl, rfl, ?_⟩
          refine ⟨v0, rfl, v0, d0, rfl, t0, _, rfl, ite2 (fun e3 => ?_) (fun e3 => ?_)⟩
          · have q' := q H Gr.refl
            rw [show isNetD (.tuple [d0, d1]) = false from net_int d1 (notT e3)] at q'
            exact q'
          obtain ⟨m, rfl⟩ := whole_int (notF e3)
          cases t0
          have no : (decide (1 ≤ m) && decide (m ≤ 6)) = false → isNetD (.tuple [.int m, d1]) = false := fun z => by
            show netParts (.int m) d1 = false
            by_cases hb : isTupD d1 = true
            · obtain ⟨ds, rfl⟩ := tup_of hb
              show ((decide (1 ≤ m) && decide (m ≤ 6)) && (decide (ds.length ≠ 0) && gatesD m ds)) = false
              rw [z, Bool.false_and]
            · exact net_tup m hb
          refine ⟨.int m, rfl, 1, _, rfl, rfl, _, rfl, ite2 (fun e4 => ?_) (fun e4 => ?_)⟩
          · refine ⟨_, 6, rfl, rfl, _, rfl, ite2 (fun e5 => ?_) (fun e5 => ?_)⟩
            · have q' := q H Gr.refl
              have e5 : decide (m ≤ 6) = false := by simpa using e5
              rw [no (by rw [e5, Bool.and_false])] at q'
              exact q'
            have e5 : decide (m ≤ 6) = true := by simpa using e5
            refine ⟨v1, rfl, _, _, _, _, _, rfl, .ty _, t1.ty, kit_ty (kitTup d1), _, rfl, ite2 (fun e6 => ?_) (fun e6 => ?_)⟩
            · have q' := q H Gr.refl
              rw [show isNetD (.tuple [.int m, d1]) = false from net_tup m (notT e6)] at q'
              exact q'
            obtain ⟨gs, rfl⟩ := tup_of (notF e6)
            cases t1 with
            | @tup b ys _ hb tb =>
              have ly := tb.length
              have val : isNetD (.tuple [.int m, .tuple gs]) = (decide (gs.length ≠ 0) && gatesD m gs) := by
                show ((decide (1 ≤ m) && decide (m ≤ 6)) && (decide (gs.length ≠ 0) && gatesD m gs)) = _
                rw [e4, e5]
                rfl
              rw [val] at q
              refine ⟨.ref b, rfl, b, ys, rfl, .inr (SqT.of hb), rfl, _, rfl, ?_⟩
              rw [ly, len_eqI]
              refine ite2 (fun e7 => ?_) (fun e7 => ?_)
              · have z : gs.length = 0 := by
                  have := of_decide_eq_true e7
                  omega
                have q' := q H Gr.refl
                rw [z] at q'
                exact q'
              have nz : gs.length ≠ 0 := fun z => e7 (decide_eq_true (by omega))
              rw [decide_eq_true nz, Bool.true_and] at q
              have wg : PyData.weightAll gs ≤ 50000 := wtT (wt2 wt).2
              refine ⟨.ref b, rfl, b, _, rfl, SqT.of hb, tab, fun H2 t2 => ?_⟩
              have g2 := Gr.tab tab t2
              refine gx_enum (K := K) (a := b) (xs := ys) (fun j _ H' => Gr H H' ∧ ∀ k g, k < j → gs[k]? = some g → isGateD (m + (k : Nat)) g = true) ⟨g2, fun k g z => by omega⟩ (fun j _ H' _ e => SqT.of (e.1.tup hb)) ?_ ?_
              · rintro j x Tq _ H' hx nT ⟨gr, ih⟩
                obtain ⟨g, hg, shg⟩ := tb.get hx
                have g3 : Gr H (upd H' Tq (.tup [.int (j : Nat), x])) := gr.trans (Gr.none nT)
                refine ⟨Tq, _, rfl, SqT.of upd_same, rfl, _, _, rfl, _, _, rfl, rfl, rfl, ?_⟩
                refine ⟨.int m, rfl, .int (j : Nat), rfl, _, _, rfl, rfl, x, rfl, m + (j : Nat), x, g, rfl, shg.gr g3, Nat.le_trans (weight_get hg) wg, g3.2 _ tab0, g3.2 _ tab1, fun H4 g4 => ?_⟩
                refine ⟨_, rfl, ite2 (fun z => ⟨g3.trans g4, fun k g' hk hg' => ?_⟩) (fun z => ?_)⟩
                · by_cases e : k = j
                  · rw [e, hg] at hg'
                    obtain rfl := Option.some.inj hg'
                    rw [e]
                    exact z
                  · exact ih k g' (by omega) hg'
                · have q' := q H4 (g3.trans g4)
                  rw [gates_no hg z] at q'
                  exact q'
              · rintro _ H' ⟨gr, ih⟩
                have q' := q H' gr
                rw [gates_all fun k g hk => ih k g (by rw [ly]; exact (List.getElem?_eq_some_iff.mp hk).1) hk] at q'
                exact q'
          · have q' := q H Gr.refl
            rw [no (by rw [Bool.eq_false_iff.mpr e4, Bool.false_and])] at q'
            exact ⟨_, rfl, iteT q'⟩

end
end Gk

set_option Elab.async false
set_option linter.all false
set_option maxRecDepth 100000
set_option maxHeartbeats 1000000
set_option pp.maxSteps 1500
set_option pp.deepTerms false
namespace Gk
open PySem PySem.Spec PyProof.Rows L2
/-! ### range(n) as a value -/
namespace RngV
theorem cr_range1 {X : Cx} : CallR X (.type "range") (fun vs H Q => ∃ n : Int, vs = [V.int n] ∧ ∀ p, H p = none → Q (.ref p) (upd H p (.rng 0 n))) := by
  intro pins s σ H vs us Q I r h
  obtain ⟨n, rfl, q⟩ := h
  obtain ⟨u1, rfl, ri⟩ := vals1 r
  obtain ⟨t, rfl⟩ := ri
  refine call_range_1 ⟨.ref s.heap.objs.size, upd H s.heap.objs.size (.rng 0 n), I.laid (t' := s.toks + 1 + 1) (fun b o e => Heap.get?_push_of_some _ e) (Nat.le_refl _) ?_, rfl, q _ (I.hok.fresh (Nat.le_refl _))⟩
  exact ⟨_, _, _, Heap.get?_push_size _ rfl⟩
end RngV

/-! ### a tuple told backwards: t[::-1]; and == against nothing -/
namespace TupRev
section
open PySem.W PySem.Calls HT
variable {prog : Program} {w : World} {A : Around} {E : Value → Shared → Prop} {s : Shared}
theorem adj_rev (n : Nat) : Builtin.Slice.sliceAdjust none none (-1) (n : Int) = ((n : Int) - 1, -1) := by
  first
    | rfl
    | simp [Builtin.Slice.sliceAdjust]
theorem places_rev (n : Nat) : Builtin.Slice.slicePlaces ((n : Int) - 1) (-1) (-1) = n := by
  unfold Builtin.Slice.slicePlaces
  by_cases h : n = 0
  · subst h
    decide
  · simp
    omega
theorem applied_rev {sl : Addr} {vl vu vs : Value} {n : Nat} {Q : Int × Int × Nat → Shared → Prop} (slice : s.heap.IsSliceOf sl vl vu vs) (pl : IsPart vl none) (pu : IsPart vu none) (ps : IsPart vs (some (-1))) (fin : Q ((n : Int) - 1, -1, n) s) :
    wpAny (model prog w) A (Builtin.Slice.sliceApplied (.ref sl) (pure (n : Int))) Q E s := by
  obtain ⟨o, ho, hc, parts⟩ := id slice
  unfold Builtin.Slice.sliceApplied Builtin.Slice.sliceFields
  refine wpAny_bind (wpAny_bind (wpAny_field ho parts (x := vl) rfl (wpAny_bind (wpAny_field ho parts (x := vu) rfl (wpAny_bind (wpAny_field ho parts (x := vs) rfl (wpAny_pure ?_)))))))
  refine wpAny_bind (slicePart_ ps ?_)
  show wpAny _ _ (if ((-1 : Int) == 0) = true then _ else _) _ _ s
  rw [if_neg (show ¬ _ by decide)]
  refine wpAny_bind (slicePart_ pl (wpAny_bind (slicePart_ pu (wpAny_bind (wpAny_pure (?_))))))
  show wpAny _ _ (match Builtin.Slice.sliceAdjust none none (-1) (n : Int) with | (a, b) => pure (a, (-1 : Int), Builtin.Slice.slicePlaces a b (-1))) _ _ s
  rw [adj_rev]
  show wpAny _ _ (pure ((n : Int) - 1, (-1 : Int), Builtin.Slice.slicePlaces ((n : Int) - 1) (-1) (-1))) _ _ s
  rw [places_rev]
  exact wpAny_pure fin
theorem pick_rev (xs : Array Value) : ((List.range xs.size).filterMap fun (k : Nat) => xs[((xs.size : Int) - 1 + (k : Int) * (-1)).toNat]?).toArray = xs.toList.reverse.toArray := by
  have e : ((List.range xs.size).filterMap fun (k : Nat) => xs[((xs.size : Int) - 1 + (k : Int) * (-1)).toNat]?) = ((List.range xs.size).map fun k => xs.size - 1 - k).filterMap (xs[·]?) := by
    rw [List.filterMap_map]
    congr 1
    funext k
    show xs[((xs.size : Int) - 1 + (k : Int) * (-1)).toNat]? = xs[xs.size - 1 - k]?
    rw [show ((xs.size : Int) - 1 + (k : Int) * (-1)).toNat = xs.size - 1 - k by omega]
  rw [e, krv_range, List.filterMap_reverse, krv_all]
theorem item_rev {t sl : Addr} {xs : Array Value} {vl vu vs : Value} {Q : Value → Shared → Prop} (tup : IsTup s.heap t xs) (slice : s.heap.IsSliceOf sl vl vu vs) (pl : IsPart vl none) (pu : IsPart vu none) (ps : IsPart vs (some (-1)))
    (fin : Q (.ref s.heap.objs.size) { s with heap := s.heap.push { cls := .type "tuple", data := .seq xs.toList.reverse.toArray } }) (few : xs.size ≤ sizeLine) : wpAny (model prog w) A (getItem (.ref t) (.ref sl)) Q E s := by
  have fits : sizeOk (.seq xs.toList.reverse.toArray) := by
    show xs.toList.reverse.toArray.size ≤ sizeLine
    rw [List.size_toArray, List.length_reverse, Array.length_toList]
    exact few
  obtain ⟨o, ho, hc, parts⟩ := id slice
  have ty : s.TypeIs (.ref sl) "slice" := ⟨o, ho, hc⟩
  unfold getItem
  (try with_reducible refine wpAny_holding (?_)); (first | refine wpAny_bind (wpAny_pure (?_)) | skip)
  refine wpAny_bind (wpAny_sequenceKey tup.typeIs (by decide) ?_)
  refine wpAny_bind (wpAny_callSpecial?_slot (name := Str.ofString "__getitem__") tup.typeIs PyProof.Rows.slot_tuple_getitem (wpAny_call_entry PyProof.Rows.slot_tuple_getitem tup.typeIs entry_tuple_getitem ?_ (args_tuple_getitem _ _)))
  show wpAny _ _ (Builtin.Tuple.tupleItemsOf (Value.ref t) >>= _) _ _ s
  refine wpAny_bind (tupleItemsOf_ tup (wpAny_bind (wpAny_typeOf ty ?_)))
  rw [if_pos (show _ by decide)]
  refine wpAny_bind (applied_rev slice pl pu ps ?_)
  have no : ¬ ((((xs.size : Int) - 1) == 0 && (-1 : Int) == 1 && xs.size == xs.size) = true) := by
    intro z
    rw [Bool.and_eq_true, Bool.and_eq_true] at z
    have := z.1.2
    revert this
    decide
  show wpAny _ _ (if ((((xs.size : Int) - 1) == 0 && (-1 : Int) == 1 && xs.size == xs.size)) = true then _ else _) _ _ s
  rw [if_neg no, pick_rev]
  first
    | exact wpAny_bind (m := Builtin.Tuple.tupleExact _) (wpAny_newObj_type (wpAny_pure ⟨_, rfl, wpAny_pure fin⟩) fits)
    | exact wpAny_bind (m := Builtin.Tuple.tupleExact _) (wpAny_newObj_type (wpAny_bind (wpAny_pure (wpAny_pure ⟨_, rfl, wpAny_pure fin⟩))) fits)
    | exact wpAny_bind (wpAny_bind (m := Builtin.Tuple.tupleExact _) (wpAny_newObj_type (wpAny_pure (wpAny_pure ⟨_, rfl, wpAny_pure fin⟩)) fits))
    | exact wpAny_bind (wpAny_bind (m := Builtin.Tuple.tupleExact _) (wpAny_newObj_type (wpAny_pure ⟨_, rfl, wpAny_pure fin⟩) fits))
end
section
variable {X : Cx}
def tRevT (K : PySem.W.Frag) (te : TE) : TE := fun σ H Q => te σ H fun x H1 => ∃ a xs, x = .ref a ∧ SqT K H1 a xs ∧ ∀ p, H1 p = none → Q (.ref p) (upd H1 p (.tup xs.reverse))
theorem pe_revT {e : Expr} {te : TE} {k : Nat} {p1 p2 p3 pos : Pos} (he : PE X e te) : PE X (.Subscript e (.Slice none none (some (.UnaryOp .USub (.Constant (.int 1) k p1) p2)) p3) pos) (tRevT X.K te) := by
  refine ⟨fun pins s σ H Q I told => Subscript_ (thn (he.run pins s σ H _ I told) ?_)⟩
  rintro v s1 ⟨x, H1, I1, r1, a, xs, rfl, tup, q⟩
  cases r1
  have back : PO X (some (.UnaryOp .USub (.Constant (.int 1) k p1) p2)) (tPart (tUn (rU fun i => .int (-i)) (tC (.int 1)))) := po_some (pe_un un_neg pe_int)
  refine wpAny_Slice (thn (po_none.run pins s1 σ H1 (fun o H2 => o = none ∧ H2 = H1) I1 ⟨rfl, rfl⟩) ?_)
  rintro vl s2 ⟨l, H2, I2, pl, rfl, rfl⟩
  refine thn (po_none.run pins s2 σ H2 (fun o H3 => o = none ∧ H3 = H2) I2 ⟨rfl, rfl⟩) ?_
  rintro vu s3 ⟨u, H3, I3, pu, rfl, rfl⟩
  refine thn (back.run pins s3 σ H3 (fun o H4 => o = some (-1) ∧ H4 = H3) I3 ⟨1, rfl, -1, rfl, rfl, rfl⟩) ?_
  rintro vs s4 ⟨o, H4, I4, ps, rfl, rfl⟩
  have J : Inv X pins σ H4 { s4 with heap := s4.heap.push { cls := .type "slice", data := .fields #[vl, vu, vs] } } := I4.kept (t' := s4.toks) fun b ob z => Heap.get?_push_of_some _ z
  obtain ⟨us, r, ht, few⟩ := J.tuple tup
  have ln := r.length
  show wpAny (model X.prog X.w) X.A (subscriptTail e (.Slice none none (some (.UnaryOp .USub (.Constant (.int 1) k p1) p2)) p3) (.ref a) (.ref s4.heap.objs.size)) (EP X pins σ Q) _ _
  refine tail_any (ops := [.ref a, .ref s4.heap.objs.size]) ht.typeIs (PyProof.Rows.slot_tuple_getitem.lookup) ?_ (by with_unfolding_all rfl)
  refine item_rev ht (Heap.IsSliceOf.new _ vl vu vs) pl pu ps ?_ (by rw [List.size_toArray]; omega)
  refine ⟨.ref _, _, J.laid (t' := s4.toks) (o := .tup xs.reverse) (fun b ob z => Heap.get?_push_of_some _ z) (Nat.le_refl _) ?_, rfl, q _ (J.hok.fresh (Nat.le_refl _))⟩
  exact ⟨by rw [List.length_reverse]; exact few, _, r.reverse, IsTup.new _ _⟩
/-- t == () of any tuple -/
def rEqE (K : PySem.W.Frag) : R2 := fun x y H Q => ∃ a b xs, x = .ref a ∧ y = .ref b ∧ SqT K H a xs ∧ SqT K H b [] ∧ Q (.bl xs.isEmpty) H
theorem op_eqE (hu : X.A.units + 64 < cLine) : OpR X (compareOp .Eq) (rEqE X.K) := by
  intro pins s σ H x y v u Q I rx ry h
  obtain ⟨a, b, xs, rfl, rfl, ha, hb, q⟩ := h
  cases rx
  cases ry
  obtain ⟨us, r1, t1, _⟩ := I.tuple ha
  obtain ⟨ws, r2, t2, _⟩ := I.tuple hb
  cases r2
  refine SeqAt.eq_tupleAt (items2 := #[]) (e := fun _ => true) t1 t2 (by omega) (fun j _ h2 => absurd h2 (Nat.not_lt_zero _)) ?_
  have : ((List.range (min us.toArray.size (#[] : Array Value).size)).all (fun _ => true) && us.toArray.size == (#[] : Array Value).size) = xs.isEmpty := by
    cases r1 with
    | nil => rfl
    | cons _ _ => simp
  show EP X pins σ Q (.bool ((List.range (min us.toArray.size (#[] : Array Value).size)).all (fun _ => true) && us.toArray.size == (#[] : Array Value).size)) s
  rw [this]
  exact ⟨.bl _, H, I, rfl, q⟩
/-- l == [] of any list -/
def rEqN (K : PySem.W.Frag) : R2 := fun x y H Q => ∃ a b xs, x = .ref a ∧ y = .ref b ∧ SqL K H a xs ∧ SqL K H b [] ∧ Q (.bl xs.isEmpty) H
theorem op_eqN (hu : X.A.units + 64 < cLine) : OpR X (compareOp .Eq) (rEqN X.K) := by
  intro pins s σ H x y v u Q I rx ry h
  obtain ⟨a, b, xs, rfl, rfl, ha, hb, q⟩ := h
  cases rx
  cases ry
  obtain ⟨us, r1, t1, _⟩ := I.list ha
  obtain ⟨ws, r2, t2, _⟩ := I.list hb
  cases r2
  cases r1 with
  | nil => exact SeqAt.eq_listAt (e := fun _ => true) t1.isList t2.isList rfl (by omega) (fun j h1 _ => absurd h1 (Nat.not_lt_zero _)) ⟨.bl true, H, I, rfl, q⟩
  | cons _ _ => exact SeqAt.eq_list_lengthsAt t1.isList t2.isList (by simp) (by omega) ⟨.bl false, H, I, rfl, q⟩
end
end TupRev

/-! ### numbers, truths among them -/
namespace NumZ
section
variable {X : Cx}
def nz : V → Option Int
  | .int i => some i
  | .bl b => some (if b = true then 1 else 0)
  | _ => none
def rAddZ : R2 := fun x y H Q => ∃ i j, nz x = some i ∧ y = .int j ∧ Q (.int (i + j)) H
theorem op_addZ : OpR X (binaryOp .Add) rAddZ := by
  intro pins s σ H x y v u Q I rx ry h
  obtain ⟨i, j, hx, rfl, q⟩ := h
  cases x with
  | int k =>
    cases Option.some.inj hx
    exact op_add pins s σ H (.int i) (.int j) v u Q I rx ry ⟨i, j, rfl, rfl, q⟩
  | bl b =>
    cases Option.some.inj hx
    cases (show v = Value.bool b from rx)
    obtain ⟨t, rfl⟩ := ry
    exact PySem.IntBool.add_bool_int ⟨.int _, H, I.tok _, ⟨_, rfl⟩, q⟩
  | _ => cases hx
def rSubZ : R2 := fun x y H Q => ∃ i j, nz x = some i ∧ nz y = some j ∧ ((∃ k, x = .int k) ∨ ∃ k, y = .int k) ∧ Q (.int (i - j)) H
theorem op_subZ : OpR X (binaryOp .Sub) rSubZ := by
  intro pins s σ H x y v u Q I rx ry h
  obtain ⟨i, j, hx, hy, one, q⟩ := h
  cases x with
  | int k =>
    cases Option.some.inj hx
    cases y with
    | int m =>
      cases Option.some.inj hy
      exact op_sub pins s σ H (.int i) (.int j) v u Q I rx ry ⟨i, j, rfl, rfl, q⟩
    | bl b =>
      cases Option.some.inj hy
      obtain ⟨t, rfl⟩ := rx
      cases (show u = Value.bool b from ry)
      exact PySem.IntBool.sub_int_bool ⟨.int _, H, I.tok _, ⟨_, rfl⟩, q⟩
    | _ => cases hy
  | bl b =>
    cases Option.some.inj hx
    cases y with
    | int m =>
      cases Option.some.inj hy
      cases (show v = Value.bool b from rx)
      obtain ⟨t, rfl⟩ := ry
      exact PySem.IntBool.sub_bool_int ⟨.int _, H, I.tok _, ⟨_, rfl⟩, q⟩
    | bl c =>
      rcases one with ⟨k, z⟩ | ⟨k, z⟩ <;> cases z
    | _ => cases hy
  | _ => cases hx
def strZ : V → Str
  | .int i => toString i
  | .bl b => if b = true then Str.ofString "True" else Str.ofString "False"
  | _ => Str.empty
def rStrZ : List V → Hp → VK → Prop := fun xs H Q => ∃ x i, xs = [x] ∧ nz x = some i ∧ i.natAbs.log2 < 1920 ∧ Q (.str (strZ x)) H
theorem call_strZ : CallR X (.type "str") rStrZ := by
  intro pins s σ H xs us Q I r h
  obtain ⟨x, i, rfl, hx, small, q⟩ := h
  cases x with
  | int k =>
    cases Option.some.inj hx
    exact call_str_int pins s σ H [.int i] us Q I r ⟨i, rfl, small, q⟩
  | bl b =>
    obtain ⟨u, rfl, ru⟩ := vals1 r
    cases (show u = Value.bool b from ru)
    refine PySem.P.str_of_bool ⟨.str _, H, I.tok _, ⟨_, rfl⟩, ?_⟩
    cases b <;> exact q
  | _ => cases hx
/-- list(t), a list that is none of the interpreter's own -/
def rListN (K : PySem.W.Frag) : List V → Hp → VK → Prop := fun xs H Q => ∃ p ys, xs = [.ref p] ∧ SqT K H p ys ∧ ∀ l, H l = none → l ≠ sysModules → Q (.ref l) (upd H l (.lst ys))
theorem call_listN : CallR X (.type "list") (rListN X.K) := by
  intro pins s σ H xs us Q I r h
  obtain ⟨p, ys, rfl, src, q⟩ := h
  obtain ⟨u, rfl, rx⟩ := vals1 r
  cases rx
  obtain ⟨items, rv, ⟨o, ho, hc, n, hd⟩, few⟩ := I.tuple src
  refine call_list_seq p (.inr rfl) ho hc hd (fun hp c keep made => ?_) (by rw [List.size_toArray, ← rv.length]; exact few)
  exact ⟨.ref s.heap.objs.size, _, I.laid (t' := s.toks) keep (Nat.le_refl _) (show ObjOk X.prog X.w _ hp _ (.lst ys) from ⟨few, items, c, rv, made⟩), rfl, q _ (I.hok.fresh (Nat.le_refl _)) (Nat.ne_of_gt I.big)⟩
end
end NumZ

/-! ### text.count of one sign -/
theorem spl_count (c : Nat) : ∀ (L acc : List Nat), (TL.spl [c] 0 acc L).length = L.count c + 1
  | [], acc => by rw [TL.spl_nil]; rfl
  | d :: r, acc => by
    by_cases h : d = c
    · subst h
      rw [TL.spl_hit (show TL.pre [d] (d :: r) = true from TL.pre_self [d] r), List.count_cons_self]
      show (TL.spl [d] 0 [] r).length + 1 = _
      rw [spl_count d r []]
    · rw [TL.spl_miss (TL.pre_of_head [] r h), spl_count c r _, List.count_cons_of_ne h]
theorem parts_len (x : Str) (n : Nat) : ∀ (cuts : List Nat) (a : Nat), (StrLaws.partsFrom x n a cuts).length = cuts.length + 1
  | [], _ => rfl
  | c :: r, a => by
    show (StrLaws.partsFrom x n (c + n) r).length + 1 = _
    rw [parts_len x n r]
    rfl
theorem count_sign (x : Str) (c : Nat) : Txt.count x ⟨#[c]⟩ = ((x.cps.toList.count c : Nat) : Int) := by
  have hy : TL.tl (⟨#[c]⟩ : Str) ≠ [] := by
    show [c] ≠ []
    simp
  obtain ⟨f, g, hn⟩ := StrLaws.occ_tight x ⟨#[c]⟩ (TL.len1 hy)
  have key := TL.parts_spl hy _ 0 f (Nat.zero_le _) g hn
  have e := congrArg List.length key
  rw [List.length_map, parts_len, List.drop_zero] at e
  have e2 : (TL.spl (TL.tl (⟨#[c]⟩ : Str)) 0 [] (TL.tl x)).length = (TL.tl x).count c + 1 := spl_count c _ _
  rw [e2] at e
  show (((Builtin.Str.occurrences x ⟨#[c]⟩ 0 x.length (x.length + 1)).length : Nat) : Int) = _
  have : (Builtin.Str.occurrences x ⟨#[c]⟩ 0 x.length (x.length + 1)).length = x.cps.toList.count c := by
    have e3 : (TL.tl x).count c = x.cps.toList.count c := rfl
    omega
  rw [this]

end Gk

set_option Elab.async false
set_option linter.all false
set_option maxRecDepth 100000
set_option maxHeartbeats 1000000
set_option pp.maxSteps 1500
set_option pp.deepTerms false
namespace Gk
open PySem PySem.Spec PyProof.Rows L2
section
variable {P : Program} {w : World} {K : PySem.W.Frag} {mg : Str → Option Value} {base : Heap}
/-! ### a whole number; a row that is drawn -/
def sp_whole : Sp := fun vs H Q _ => ∃ (v : V) (d : PyData), vs = [v] ∧ Sh H v d ∧ Q (.bl (wholeD d)) H
theorem ok_whole (T : Tx K mg) : FnOk P w K mg base CX0 1 T.f_whole T.fd_whole ["_law_thing"] sp_whole := by
  refine T.F_whole.ok sc_whole (fun vs H Q E h => ?_) (fun cdv A outer s H vs Q E hr h => ?_)
  · obtain ⟨v, d, rfl, _⟩ := h
    rfl
  · obtain ⟨v, d, rfl, sh, q⟩ := h
    refine ⟨_, (pss_one (ps_ret (pe_and (pe_callB call_isi (by rfl) T.m_isinstance (by decide +kernel) (pa_cons (pv 0) (pa_cons (pe_bltn (v := .ty "int") (u := .type "int") (by rfl) T.m_int (by decide +kernel) rfl) pa_nil))) (pe_one (pe_not (pe_callB call_isi (by rfl) T.m_isinstance (by decide +kernel) (pa_cons (pv 0) (pa_cons (pe_bltn (v := .ty "bool") (u := .type "bool") (by rfl) T.m_bool (by decide +kernel) rfl) pa_nil)))))))), ?_⟩
    refine ⟨v, rfl, _, _, _, _, _, rfl, .ty _, sh.ty, kit_ty (kitInt d), _, rfl, ite2 (fun e => ?_) (fun e => ?_)⟩
    · refine ⟨v, rfl, _, _, _, _, _, rfl, .ty _, sh.ty, kit_ty (kitBool d), _, rfl, ?_⟩
      rw [whole_of e] at q
      exact q
    · rw [whole_not e] at q
      exact q

/-! ### the law's own judges of gates and nets -/
theorem all_next {α : Type} {f : α → Bool} {l : List α} {j : Nat} {x : α} (h : l[j]? = some x) : (l.take (j + 1)).all f = ((l.take j).all f && f x) := by
  rw [List.take_add_one, h, List.all_append]
  show (_ && (f x && true)) = _
  rw [Bool.and_true]
theorem cnt01 : ∀ L : List Nat, L.count 48 + L.count 49 ≤ L.length ∧ ((L.count 48 + L.count 49 = L.length) ↔ L.all sgB = true)
  | [] => ⟨Nat.le_refl _, ⟨fun _ => rfl, fun _ => rfl⟩⟩
  | d :: r => by
    obtain ⟨h1, h2⟩ := cnt01 r
    have z0 : sgB 48 = true := by decide +kernel
    have z1 : sgB 49 = true := by decide +kernel
    by_cases a : d = 48
    · subst a
      rw [List.count_cons_self, List.count_cons_of_ne (by decide : (48 : Nat) ≠ 49), List.length_cons, List.all_cons, z0, Bool.true_and, ← h2]
      exact ⟨by omega, by omega⟩
    by_cases b : d = 49
    · subst b
      rw [List.count_cons_self, List.count_cons_of_ne (by decide : (49 : Nat) ≠ 48), List.length_cons, List.all_cons, z1, Bool.true_and, ← h2]
      exact ⟨by omega, by omega⟩
    rw [List.count_cons_of_ne a, List.count_cons_of_ne b, List.length_cons, List.all_cons]
    have nd : sgB d = false := by
      refine decide_eq_false fun h => ?_
      have e : (Str.ofString "01").cps.toList = [48, 49] := by decide +kernel
      rw [e] at h
      simp at h
      omega
    rw [nd, Bool.false_and]
    exact ⟨by omega, fun k => by omega, fun k => by cases k⟩
theorem gate_str {w : Int} {a : PyData} (h : ¬ isStrD a = true) : ∀ b : PyData, gateParts w a b = false
  | .tuple ins => by
    show ((decide (1 ≤ ins.length) && decide (ins.length ≤ 3)) && (isSignsD (2 ^ ins.length) a && ins.all (wireD w))) = false
    rw [signs_not h, Bool.false_and, Bool.and_false]
  | .bool _ => rfl
  | .none => rfl
  | .str _ => rfl
  | .list _ => rfl
  | .int _ => rfl
  | .dict _ => rfl
theorem in123 (n : Nat) : inV (.int (n : Int)) [V.int 1, V.int 2, V.int 3] = (decide (1 ≤ n) && decide (n ≤ 3)) := by
  have h : ∀ j : Int, eqV (.int j) (.int (n : Int)) = decide (j = n) := fun j => by
    first
      | rfl
      | simp [eqV]
  show (eqV (.int 1) (.int n) || (eqV (.int 2) (.int n) || (eqV (.int 3) (.int n) || false))) = _
  rw [h, h, h, Bool.or_false, Bool.eq_iff_iff]
  simp only [Bool.or_eq_true, Bool.and_eq_true, decide_eq_true_eq]
  omega
def sp_in : Sp := fun vs H Q _ => ∃ (v : V) (d : PyData) (n : Int), vs = [v, .int n] ∧ Sh H v d ∧ ∀ H', Same H H' → Q (.bl (wireD n d)) H'
theorem ok_in (T : Tx K mg) : FnOk P w K mg base CX0 2 T.f_in T.fd_in ["_law_wire", "_law_wires"] sp_in := by
  refine T.F_in.ok sc_in (fun vs H Q E h => ?_) (fun cdv A outer s H vs Q E hr h => ?_)
  · obtain ⟨v, d, n, rfl, _⟩ := h
    rfl
  · obtain ⟨v, d, n, rfl, sh, q⟩ := h
    refine ⟨_, (pss_one (ps_ret (pe_and (pe_call (ok_whole T) (hr.mono (by decide)) (by rfl) T.g_whole T.F_whole.kp T.b_whole .nil pass0 (pa_cons (pv 0) pa_nil)) (pe_one (pe_cmpR op_in_rng (pv 0) (pe_callTy RngV.cr_range1 (by rfl) T.m_range (by decide +kernel) (pa_cons (pv 1) pa_nil)) rfl))))), ?_⟩
    refine ⟨v, rfl, v, d, rfl, sh, _, rfl, ite2 (fun z => ?_) (fun z => ?_)⟩
    · obtain ⟨u, rfl⟩ := whole_int z
      cases sh
      refine ⟨.int u, rfl, .int n, rfl, n, rfl, fun p np => ?_⟩
      exact ⟨u, p, 0, n, rfl, rfl, upd_same, by
        have q' := q _ (same_upd (o := HO.rng 0 n) np)
        have : wireD n (.int u) = decide (0 ≤ u ∧ u < n) := by
          show (decide (0 ≤ u) && decide (u < n)) = _
          rw [Bool.decide_and]
        rw [this] at q'
        exact q'⟩
    · have q' := q H same_refl
      rw [wire_not z] at q'
      exact q'
def sp_l_is_gate (K : PySem.W.Frag) : Sp := fun vs H Q _ => ∃ (v : V) (d : PyData) (n : Int), vs = [v, .int n] ∧ Sh H v d ∧ d.weight ≤ 50000 ∧ ∀ H', Same H H' → Q (.bl (isGateD n d)) H'
theorem ok_l_is_gate (T : Tx K mg) : FnOk P w K mg base CX0 3 T.f_l_is_gate T.fd_l_is_gate ["_law_thing", "_law_wires"] (sp_l_is_gate K) := by
  refine T.F_l_is_gate.ok sc_l_is_gate (fun vs H Q E h => ?_) (fun cdv A outer s H vs Q E hr h => ?_)
  · obtain ⟨v, d, n, rfl, _⟩ := h
    rfl
  · obtain ⟨v, d, n, rfl, sh, wt, q⟩ := h
    refine ⟨_, (pss_cons (ps_if (pw_or (pt_not (pt_val (pe_callB call_isi (by rfl) T.m_isinstance (by decide +kernel) (pa_cons (pv 0) (pa_cons (pe_bltn (v := .ty "tuple") (u := .type "tuple") (by rfl) T.m_tuple (by decide +kernel) rfl) pa_nil))))) (pw_or1 (pt_cmpR op_ne (pe_callB call_len_seq (by rfl) T.m_len PySem.boot_len (pa_cons (pv 0) pa_nil)) pe_int (nomark _)))).pt (pss_one (ps_ret pe_bl)) pss_nil) (pss_cons (ps_asg (pv 0) (pg_tup rfl (pgs_cons (pg_name (i := 2) sc_l_is_gate.nd rfl (by first | exact .inl rfl | exact .inr rfl)) (pgs_cons (pg_name (i := 3) sc_l_is_gate.nd rfl (by first | exact .inl rfl | exact .inr rfl)) pgs_nil)))) (pss_cons (ps_if (pw_or (pt_not (pt_val (pe_callB call_isi (by rfl) T.m_isinstance (by decide +kernel) (pa_cons (pv 2) (pa_cons (pe_bltn (v := .ty "str") (u := .type "str") (by rfl) T.m_str (by decide +kernel) rfl) pa_nil))))) (pw_or (pt_not (pt_val (pe_callB call_isi (by rfl) T.m_isinstance (by decide +kernel) (pa_cons (pv 3) (pa_cons (pe_bltn (v := .ty "tuple") (u := .type "tuple") (by rfl) T.m_tuple (by decide +kernel) rfl) pa_nil))))) (pw_or1 (pt_cmpR op_notIn_seq (pe_callB call_len_seq (by rfl) T.m_len PySem.boot_len (pa_cons (pv 3) pa_nil)) (pe_tup (pa_cons pe_int (pa_cons pe_int (pa_cons pe_int pa_nil)))) rfl)))).pt (pss_one (ps_ret pe_bl)) pss_nil) (pss_cons (ps_if (pw_or (pt_cmpR op_ne (pe_callB call_len_str (by rfl) T.m_len PySem.boot_len (pa_cons (pv 2) pa_nil)) (pe_ix ix_list (pe_lst (pa_cons pe_int (pa_cons pe_int (pa_cons pe_int pa_nil)))) (pe_op op_sub (pe_callB call_len_seq (by rfl) T.m_len PySem.boot_len (pa_cons (pv 3) pa_nil)) pe_int) (fun _ _ => rfl)) (nomark _)) (pw_or1 (pt_cmpR op_ne (pe_op op_add (pe_bm PySem.F.plainAttrs_str PySem.F.slot_str_count PySem.F.type_str_count mt_count (pv 2) (pa_cons pe_str pa_nil)) (pe_bm PySem.F.plainAttrs_str PySem.F.slot_str_count PySem.F.type_str_count mt_count (pv 2) (pa_cons pe_str pa_nil))) (pe_callB call_len_str (by rfl) T.m_len PySem.boot_len (pa_cons (pv 2) pa_nil)) (nomark _)))).pt (pss_one (ps_ret pe_bl)) pss_nil) (pss_one (ps_ret (pe_cmpR (TupRev.op_eqN hr.units) (pe_lc (own := [("_law_wire", 4)]) (by rfl) sc_l_is_gate.nd (pi_tup (pv 3)) (blkOk_by (own := [("_law_wire", 4)]) (N := ["_law_thing", "_law_wires", "_law_table", "_law_ins", "_law_wire"]) (sc := defScope s_l_is_gate) (by decide +kernel)) (fun _ _ _ _ _ => (pg_name (i := 4) sc_l_is_gate.nd rfl (by first | exact .inl rfl | exact .inr rfl))) (fun _ _ _ _ _ => (pts_one (pt_not (pt_val (pe_call (ok_in T) (hr.mono (by decide)) (by rfl) T.g_in T.F_in.kp T.b_in .nil pass0 (pa_cons (pv 4) (pa_cons (pv 1) pa_nil))))))) (fun _ _ _ _ _ => (pv 4))) (pe_lst pa_nil) (nomark _)))))))), ?_⟩
    refine ⟨v, rfl, _, _, _, _, _, rfl, .ty _, sh.ty, kit_ty (kitTup d), _, rfl, ite2 (fun e => ?_) (fun e => ?_)⟩
    · refine ite2 (fun _ => ?_) (fun z => absurd rfl z)
      have q' := q H same_refl
      rw [gate_not (notT e)] at q'
      exact q'
    obtain ⟨ds, rfl⟩ := tup_of (notF e)
    cases sh with
    | @tup a xs _ h t =>
      have lx := t.length
      refine ⟨.ref a, rfl, a, xs, rfl, .inr (SqT.of h), rfl, _, rfl, ?_⟩
      rw [lx, len2]
      refine ite2 (fun e1 => ?_) (fun e1 => ?_)
      · have q' := q H same_refl
        rw [gate_len (fun z => by rw [z] at e1; cases e1)] at q'
        exact q'
      obtain ⟨d0, d1, rfl⟩ := two_of (ds := ds) (of_decide_eq_true (notF e1))
      cases t with
      | @cons v0 _ _ _ t0 t1 =>
        cases t1 with
        | @cons v1 _ _ _ t1 t2 =>
          cases t2
          refine ⟨.ref a, rfl, a, _, rfl, SqT.of h, rfl, _, _, rfl, _, _, rfl, rfl, ?_⟩
          refine ⟨v0, rfl, _, _, _, _, _, rfl, .ty _, t0.ty, kit_ty (kitStr d0), _, rfl, ite2 (fun e2 => ?_) (fun e2 => ?_)⟩
          · refine ite2 (fun _ => ?_) (fun z => absurd rfl z)
            have q' := q H same_refl
            rw [show isGateD n (.tuple [d0, d1]) = false from gate_str (notT e2) d1] at q'
            exact q'
          obtain ⟨x, rfl⟩ := strD_of (notF e2)
          cases t0
          refine ⟨v1, rfl, _, _, _, _, _, rfl, .ty _, t1.ty, kit_ty (kitTup d1), _, rfl, ite2 (fun e3 => ?_) (fun e3 => ?_)⟩
          · refine ite2 (fun _ => ?_) (fun z => absurd rfl z)
            have q' := q H same_refl
            rw [show isGateD n (.tuple [.str x, d1]) = false from gate_tup _ (notT e3)] at q'
            exact q'
          obtain ⟨ins, rfl⟩ := tup_of (notF e3)
          cases t1 with
          | @tup b ys _ hb tb =>
            have ly := tb.length
            have wx : (PyData.str x).weight ≤ 50000 := (wt2 wt).1
            have wi : PyData.weightAll ins ≤ 50000 := wtT (wt2 wt).2
            have val : isGateD n (.tuple [.str x, .tuple ins]) = ((decide (1 ≤ ins.length) && decide (ins.length ≤ 3)) && ((decide ((x.length : Int) = 2 ^ ins.length) && x.cps.toList.all sgB) && ins.all (wireD n))) := rfl
            rw [val] at q
            refine ⟨.ref b, rfl, b, ys, rfl, .inr (SqT.of hb), sl3, fun p1 n1 => ?_⟩
            rw [ly]
            have s1 := same_upd (o := (HO.tup [V.int 1, V.int 2, V.int 3])) n1
            have h1 : upd H p1 (HO.tup [V.int 1, V.int 2, V.int 3]) p1 = some (HO.tup [V.int 1, V.int 2, V.int 3]) := upd_same
            generalize upd H p1 (HO.tup [V.int 1, V.int 2, V.int 3]) = H1 at s1 h1 ⊢
            refine ⟨p1, _, rfl, .inr (SqT.of h1), rfl, rfl, _, rfl, ?_⟩
            have ein : (if true = true then !inV (.int (ins.length : Int)) [V.int 1, V.int 2, V.int 3] else inV (.int (ins.length : Int)) [V.int 1, V.int 2, V.int 3]) = !(decide (1 ≤ ins.length) && decide (ins.length ≤ 3)) := by
              rw [if_pos rfl]
              congr 1
              exact in123 _
            rw [ein]
            refine ite2 (fun e4 => ?_) (fun e4 => ?_)
            · have e4' : (decide (1 ≤ ins.length) && decide (ins.length ≤ 3)) = false := by
                cases z : (decide (1 ≤ ins.length) && decide (ins.length ≤ 3))
                · rfl
                · rw [z] at e4; cases e4
              have q' := q H1 s1
              rw [e4', Bool.false_and] at q'
              exact q'
            have e4' : (decide (1 ≤ ins.length) && decide (ins.length ≤ 3)) = true := by
              cases z : (decide (1 ≤ ins.length) && decide (ins.length ≤ 3))
              · rw [z] at e4; exact absurd rfl e4
              · rfl
            rw [e4', Bool.true_and] at q
            rw [Bool.and_eq_true] at e4'
            have l1 : 1 ≤ ins.length := of_decide_eq_true e4'.1
            have l3 : ins.length ≤ 3 := of_decide_eq_true e4'.2
            refine ⟨.str x, rfl, x, rfl, w_line wx, sl3, fun p2 n2 => ?_⟩
            have s2 := same_upd (o := (HO.lst [V.int 2, V.int 4, V.int 8])) n2
            have h2 : upd H1 p2 (HO.lst [V.int 2, V.int 4, V.int 8]) p2 = some (HO.lst [V.int 2, V.int 4, V.int 8]) := upd_same
            generalize upd H1 p2 (HO.lst [V.int 2, V.int 4, V.int 8]) = H2 at s2 h2 ⊢
            have s12 := s1.trans s2
            have hb2 := s12 _ _ hb
            have hat : atI [V.int 2, V.int 4, V.int 8] ((ins.length : Int) - 1) = some (.int (2 ^ ins.length)) := by
              have : ins.length = 1 ∨ ins.length = 2 ∨ ins.length = 3 := by omega
              rcases this with z | z | z <;> rw [z] <;> rfl
            refine ⟨.ref b, rfl, b, ys, rfl, .inr (SqT.of hb2), ?_⟩
            rw [ly]
            refine ⟨_, _, rfl, rfl, p2, _, _, _, rfl, rfl, SqL.of h2, hat, rfl, _, rfl, ?_⟩
            rw [len_eqI]
            refine ite2 (fun e5 => ?_) (fun e5 => ?_)
            · refine ite2 (fun _ => ?_) (fun z => absurd rfl z)
              have e5' : decide ((x.length : Int) = 2 ^ ins.length) = false := by
                cases z : decide ((x.length : Int) = 2 ^ ins.length)
                · rfl
                · rw [z] at e5; cases e5
              have q' := q H2 s12
              rw [e5', Bool.false_and, Bool.false_and] at q'
              exact q'
            have e5' : decide ((x.length : Int) = 2 ^ ins.length) = true := by
              cases z : decide ((x.length : Int) = 2 ^ ins.length)
              · rw [z] at e5; exact absurd rfl e5
              · rfl
            rw [e5', Bool.true_and] at q
            have z48 : Str.ofString "0" = ⟨#[48]⟩ := by decide +kernel
            have z49 : Str.ofString "1" = ⟨#[49]⟩ := by decide +kernel
            refine ⟨.str x, rfl, rfl, x, Str.ofString "0", rfl, rfl, .str x, rfl, rfl, x, Str.ofString "1", rfl, rfl, _, _, rfl, rfl, .str x, rfl, x, rfl, w_line wx, rfl, _, rfl, ?_⟩
            rw [z48, z49, count_sign, count_sign]
            obtain ⟨cn1, cn2⟩ := cnt01 x.cps.toList
            have lxs : x.length = x.cps.toList.length := Array.length_toList.symm
            have ecn : decide (V.int ((x.cps.toList.count 48 : Nat) + (x.cps.toList.count 49 : Nat) : Int) = V.int (x.length : Int)) = x.cps.toList.all sgB := by
              cases z : x.cps.toList.all sgB
              · refine decide_eq_false fun k => ?_
                have k' := V.int.inj k
                have := cn2.mp (by omega)
                rw [this] at z
                cases z
              · refine decide_eq_true ?_
                have := cn2.mpr z
                congr 1
                omega
            rw [ecn]
            refine ite2 (fun e6 => ?_) (fun e6 => ?_)
            · have e6' : x.cps.toList.all sgB = false := by
                cases z : x.cps.toList.all sgB
                · rfl
                · rw [z] at e6; cases e6
              have q' := q H2 s12
              rw [e6', Bool.false_and] at q'
              exact q'
            have e6' : x.cps.toList.all sgB = true := by
              cases z : x.cps.toList.all sgB
              · rw [z] at e6; exact absurd rfl e6
              · rfl
            rw [e6', Bool.true_and] at q
            have tb2 := tb.same s12
            refine ⟨.ref b, rfl, b, rfl, ⟨_, SqT.of hb2⟩, fun L nL => ?_⟩
            refine lc_tup (K := K) (a := b) (xs := ys) (fun j H' => Same H2 (hd1 L H') ∧ ∃ acc : List V, H' L = some (.lst acc) ∧ acc.length ≤ j ∧ acc.isEmpty = (ins.take j).all (wireD n)) ⟨hd1_of (same_upd nL) nL, [], upd_same, Nat.le_refl _, rfl⟩ (fun j H' _ hP => SqT.of (hd1_le _ _ (hP.1 _ _ hb2))) ?_ ?_
            · rintro j y H3 hy ⟨s3, acc, hL, la, ea⟩
              have hj := (List.getElem?_eq_some_iff.mp hy).1
              obtain ⟨e0, he0, sh0⟩ := tb2.get hy
              have s03 : Same H2 H3 := fun b o e => hd1_le _ _ (s3 _ _ e)
              have nx := all_next (f := wireD n) he0
              refine ⟨rfl, y, rfl, .int n, rfl, y, e0, n, rfl, sh0.same s03, fun H4 s4 => ⟨_, rfl, ?_⟩⟩
              have hL4 := s4 _ _ hL
              have s34 : Same H2 (hd1 L H4) := s3.trans (hd1_same s4)
              refine ite2 (fun nw => ?_) (fun wh => ?_)
              · have bad : wireD n e0 = false := by
                  cases z : wireD n e0
                  · rfl
                  · rw [z] at nw; cases nw
                refine ⟨y, rfl, acc, hL4, Nat.lt_of_le_of_lt la (Nat.lt_of_lt_of_le (show j < 200 by omega) (by decide)), s34.trans hd1_upd, _, upd_same, by rw [List.length_append]; simp only [List.length_cons, List.length_nil]; omega, ?_⟩
                rw [nx, bad, Bool.and_false]
                cases acc <;> rfl
              · have good : wireD n e0 = true := by
                  cases z : wireD n e0
                  · rw [z] at wh; exact absurd rfl wh
                  · rfl
                refine ⟨s34, acc, hL4, Nat.le_succ_of_le la, ?_⟩
                rw [nx, good, Bool.and_true]
                exact ea
            · rintro H3 ⟨s3, acc, hL, la, ea⟩
              refine ⟨Nat.zero_le _, fun p np => ⟨L, p, acc, rfl, rfl, SqL.of (same_upd np _ _ hL), SqL.of upd_same, ?_⟩⟩
              have q' := q _ (s12.trans ((show Same H2 H3 from fun b o e => hd1_le _ _ (s3 _ _ e)).trans (same_upd (o := HO.lst []) np)))
              have : ins.all (wireD n) = acc.isEmpty := by
                rw [ea, ly, List.take_length]
              rw [this] at q'
              exact q'
def sp_l_is_net (K : PySem.W.Frag) : Sp := fun vs H Q _ => ∃ (v : V) (d : PyData), vs = [v] ∧ Sh H v d ∧ d.weight ≤ 50000 ∧ ∀ H', Same H H' → Q (.bl (isNetD d)) H'
theorem ok_l_is_net (T : Tx K mg) : FnOk P w K mg base CX0 4 T.f_l_is_net T.fd_l_is_net ["_law_thing"] (sp_l_is_net K) := by
  refine T.F_l_is_net.ok sc_l_is_net (fun vs H Q E h => ?_) (fun cdv A outer s H vs Q E hr h => ?_)
  · obtain ⟨v, d, rfl, _⟩ := h
    rfl
  · obtain ⟨v, d, rfl, sh, wt, q⟩ := h
    refine ⟨_, (pss_cons (ps_if (pw_or (pt_not (pt_val (pe_callB call_isi (by rfl) T.m_isinstance (by decide +kernel) (pa_cons (pv 0) (pa_cons (pe_bltn (v := .ty "tuple") (u := .type "tuple") (by rfl) T.m_tuple (by decide +kernel) rfl) pa_nil))))) (pw_or (pt_cmpR op_ne (pe_callB call_len_seq (by rfl) T.m_len PySem.boot_len (pa_cons (pv 0) pa_nil)) pe_int (nomark _)) (pw_or1 (pt_not (pt_val (pe_call (ok_whole T) (hr.mono (by decide)) (by rfl) T.g_whole T.F_whole.kp T.b_whole .nil pass0 (pa_cons (pe_ix ix_tup (pv 0) pe_int (fun _ _ => rfl)) pa_nil))))))).pt (pss_one (ps_ret pe_bl)) pss_nil) (pss_cons (ps_asg (pv 0) (pg_tup rfl (pgs_cons (pg_name (i := 1) sc_l_is_net.nd rfl (by first | exact .inl rfl | exact .inr rfl)) (pgs_cons (pg_name (i := 2) sc_l_is_net.nd rfl (by first | exact .inl rfl | exact .inr rfl)) pgs_nil)))) (pss_cons (ps_if (pw_or (pt_cmpR op_lt (pv 1) pe_int (nomark _)) (pw_or (pt_cmpR op_gt (pv 1) pe_int (nomark _)) (pw_or (pt_not (pt_val (pe_callB call_isi (by rfl) T.m_isinstance (by decide +kernel) (pa_cons (pv 2) (pa_cons (pe_bltn (v := .ty "tuple") (u := .type "tuple") (by rfl) T.m_tuple (by decide +kernel) rfl) pa_nil))))) (pw_or1 (pt_cmpR op_eq (pe_callB call_len_seq (by rfl) T.m_len PySem.boot_len (pa_cons (pv 2) pa_nil)) pe_int (nomark _)))))).pt (pss_one (ps_ret pe_bl)) pss_nil) (pss_cons (ps_for PassesOwn.never rfl (pi_range1 (by rfl) T.m_range (pa_cons (pe_callB call_len_seq (by rfl) T.m_len PySem.boot_len (pa_cons (pv 2) pa_nil)) pa_nil)) (pg_name (i := 3) sc_l_is_net.nd rfl (by first | exact .inl rfl | exact .inr rfl)) (pss_one (ps_if (pt_not (pt_val (pe_call (ok_l_is_gate T) (hr.mono (by decide)) (by rfl) T.g_l_is_gate T.F_l_is_gate.kp T.b_l_is_gate .nil pass0 (pa_cons (pe_ix ix_tup (pv 2) (pv 3) (fun _ _ => rfl)) (pa_cons (pe_op op_add (pv 1) (pv 3)) pa_nil))))) (pss_one (ps_ret pe_bl)) pss_nil))) (pss_one (ps_ret pe_bl)))))), ?_⟩
    refine ⟨v, rfl, _, _, _, _, _, rfl, .ty _, sh.ty, kit_ty (kitTup d), _, rfl, ite2 (fun e => ?_) (fun e => ?_)⟩
    · refine ite2 (fun _ => ?_) (fun z => absurd rfl z)
      have q' := q H same_refl
      rw [net_not (notT e)] at q'
      exact q'
    obtain ⟨ds, rfl⟩ := tup_of (notF e)
    cases sh with
    | @tup a xs _ h t =>
      have lx := t.length
      refine ⟨.ref a, rfl, a, xs, rfl, .inr (SqT.of h), rfl, _, rfl, ?_⟩
      rw [lx, len2]
      refine ite2 (fun e1 => ?_) (fun e1 => ?_)
      · refine ite2 (fun _ => ?_) (fun z => absurd rfl z)
        have q' := q H same_refl
        rw [net_len (fun z => by rw [z] at e1; cases e1)] at q'
        exact q'
      obtain ⟨d0, d1, rfl⟩ := two_of (ds := ds) (of_decide_eq_true (notF e1))
      cases t with
      | @cons v0 _ _ _ t0 t1 =>
        cases t1 with
        | @cons v1 _ _ _ t1 t2 =>
          cases t2
          refine ⟨.ref a, rfl, a, _, 0, v0, rfl, rfl, SqT.of h, rfl, v0, d0, rfl, t0, _, rfl, ite2 (fun e3 => ?_) (fun e3 => ?_)⟩
          · have q' := q H same_refl
            rw [show isNetD (.tuple [d0, d1]) = false from net_int d1 (notT e3)] at q'
            exact q'
          obtain ⟨m, rfl⟩ := whole_int (notF e3)
          cases t0
          refine ⟨.ref a, rfl, a, _, rfl, SqT.of h, rfl, _, _, rfl, _, _, rfl, rfl, ?_⟩
          have no : (decide (1 ≤ m) && decide (m ≤ 6)) = false → isNetD (.tuple [.int m, d1]) = false := fun z => by
            show netParts (.int m) d1 = false
            by_cases hb : isTupD d1 = true
            · obtain ⟨ds, rfl⟩ := tup_of hb
              show ((decide (1 ≤ m) && decide (m ≤ 6)) && (decide (ds.length ≠ 0) && gatesD m ds)) = false
              rw [z, Bool.false_and]
            · exact net_tup m hb
          refine ⟨.int m, rfl, _, _, rfl, rfl, _, rfl, ite2 (fun e4 => ?_) (fun e4 => ?_)⟩
          · refine ite2 (fun _ => ?_) (fun z => absurd rfl z)
            have e4 := of_decide_eq_true e4
            have q' := q H same_refl
            rw [no (by rw [decide_eq_false (show ¬ 1 ≤ m by omega), Bool.false_and])] at q'
            exact q'
          have m1 : 1 ≤ m := by
            have : ¬ m < 1 := fun k => e4 (decide_eq_true k)
            omega
          refine ⟨.int m, rfl, _, _, rfl, rfl, _, rfl, ite2 (fun e5 => ?_) (fun e5 => ?_)⟩
          · refine ite2 (fun _ => ?_) (fun z => absurd rfl z)
            have e5 := of_decide_eq_true e5
            have q' := q H same_refl
            rw [no (by rw [decide_eq_false (show ¬ m ≤ 6 by omega), Bool.and_false])] at q'
            exact q'
          have m6 : m ≤ 6 := by
            have : ¬ 6 < m := fun k => e5 (decide_eq_true k)
            omega
          refine ⟨v1, rfl, _, _, _, _, _, rfl, .ty _, t1.ty, kit_ty (kitTup d1), _, rfl, ite2 (fun e6 => ?_) (fun e6 => ?_)⟩
          · refine ite2 (fun _ => ?_) (fun z => absurd rfl z)
            have q' := q H same_refl
            rw [show isNetD (.tuple [.int m, d1]) = false from net_tup m (notT e6)] at q'
            exact q'
          obtain ⟨gs, rfl⟩ := tup_of (notF e6)
          cases t1 with
          | @tup b ys _ hb tb =>
            have ly := tb.length
            have val : isNetD (.tuple [.int m, .tuple gs]) = (decide (gs.length ≠ 0) && gatesD m gs) := by
              show ((decide (1 ≤ m) && decide (m ≤ 6)) && (decide (gs.length ≠ 0) && gatesD m gs)) = _
              rw [decide_eq_true m1, decide_eq_true m6]
              rfl
            rw [val] at q
            refine ⟨.ref b, rfl, b, ys, rfl, .inr (SqT.of hb), rfl, _, rfl, ?_⟩
            rw [ly, len_eqI]
            refine ite2 (fun e7 => ?_) (fun e7 => ?_)
            · have z : gs.length = 0 := by
                have := of_decide_eq_true e7
                omega
              have q' := q H same_refl
              rw [z] at q'
              exact q'
            have nz : gs.length ≠ 0 := fun z => e7 (decide_eq_true (by omega))
            rw [decide_eq_true nz, Bool.true_and] at q
            have wg : PyData.weightAll gs ≤ 50000 := wtT (wt2 wt).2
            have lg : gs.length ≤ 50000 := Nat.le_trans (PyData.length_le_weightAll gs) wg
            refine ⟨.ref b, rfl, b, ys, rfl, .inr (SqT.of hb), ?_⟩
            rw [ly]
            refine ⟨gs.length, rfl, by omega, by omega, for_range (lo := 0) (n := (gs.length : Int).toNat) (fun j σ H' => ∃ y3, σ = [some (.ref a), some (.int m), some (.ref b), y3] ∧ Same H H' ∧ ∀ k g, k < j → gs[k]? = some g → isGateD (m + (k : Nat)) g = true) ⟨_, rfl, same_refl, fun k g z => by omega⟩ ?_ ?_⟩
            · rintro j σ H1 hj ⟨y3, rfl, s1, ih⟩
              have hj' : j < gs.length := by have : j < (gs.length : Int).toNat := hj; omega
              have hy := List.getElem?_eq_getElem (l := ys) (i := j) (by omega)
              obtain ⟨g, hg, shg⟩ := tb.get hy
              refine ⟨.ref b, rfl, .int (0 + (j : Nat)), rfl, b, _, _, _, rfl, rfl, SqT.of (s1 _ _ hb), (by rw [Int.zero_add]; exact atI_nat hy), .int m, rfl, .int (0 + (j : Nat)), rfl, _, _, rfl, rfl, _, g, m + (j : Nat), (by rw [Int.zero_add]; rfl), shg.same s1, Nat.le_trans (weight_get hg) wg, fun H2 s2 => ⟨_, rfl, ?_⟩⟩
              refine ite2 (fun z => ?_) (fun z => ?_)
              · have q' := q H2 (s1.trans s2)
                rw [gates_no hg (fun k => by rw [k] at z; cases z)] at q'
                exact q'
              · refine ⟨_, rfl, s1.trans s2, fun k g' hk hg' => ?_⟩
                by_cases e : k = j
                · rw [e, hg] at hg'
                  obtain rfl := Option.some.inj hg'
                  rw [e]
                  cases y : isGateD (m + (j : Nat)) g
                  · rw [y] at z; exact absurd rfl z
                  · rfl
                · exact ih k g' (by omega) hg'
            · rintro σ H1 ⟨y3, rfl, s1, ih⟩
              have q' := q H1 s1
              rw [gates_all fun k g hk => ih k g (by have := (List.getElem?_eq_some_iff.mp hk).1; omega) hk] at q'
              exact q'

end
end Gk

set_option Elab.async false
set_option linter.all false
set_option maxRecDepth 100000
set_option maxHeartbeats 1000000
set_option pp.maxSteps 1500
set_option pp.deepTerms false
namespace Gk
open PySem PySem.Spec PyProof.Rows L2
/-! ### heaps without some places -/
def hid (as : List Addr) (H : Hp) : Hp := fun b => if b ∈ as then none else H b
theorem hid_at {as : List Addr} {H : Hp} {b : Addr} (h : b ∉ as) : hid as H b = H b := if_neg h
theorem hid_in {as : List Addr} {H : Hp} {b : Addr} (h : b ∈ as) : hid as H b = none := if_pos h
theorem hid_le {as : List Addr} {H : Hp} : Same (hid as H) H := fun b o e => by
  by_cases h : b ∈ as
  · rw [hid_in h] at e; cases e
  · rw [hid_at h] at e; exact e
theorem hid_sub {as bs : List Addr} {H : Hp} (h : ∀ b ∈ bs, b ∈ as) : Same (hid as H) (hid bs H) := fun b o e => by
  by_cases ha : b ∈ as
  · rw [hid_in ha] at e; cases e
  · rw [hid_at ha] at e
    rw [hid_at (fun z => ha (h b z))]
    exact e
theorem hid_same {as : List Addr} {H H' : Hp} (s : Same H H') : Same (hid as H) (hid as H') := fun b o e => by
  by_cases ha : b ∈ as
  · rw [hid_in ha] at e; cases e
  · rw [hid_at ha] at e ⊢
    exact s _ _ e
theorem hid_fr {as : List Addr} {d l : Addr} {H H' : Hp} (f : Fr d l H H') (hd : d ∈ as) (hl : l ∈ as) : Same (hid as H) (hid as H') := fun b o e => by
  by_cases ha : b ∈ as
  · rw [hid_in ha] at e; cases e
  · rw [hid_at ha] at e ⊢
    exact f _ _ (fun z => ha (z ▸ hd)) (fun z => ha (z ▸ hl)) e
theorem hid_upd {as : List Addr} {H : Hp} {p : Addr} {o : HO} (h : p ∈ as) : Same (hid as H) (hid as (upd H p o)) := fun b x e => by
  by_cases ha : b ∈ as
  · rw [hid_in ha] at e; cases e
  · rw [hid_at ha] at e ⊢
    rw [upd_ne (show b ≠ p from fun z => ha (by rw [z]; exact h))]
    exact e

theorem str_len (x : String) : (Str.ofString x).length = x.length := PySem.ofString_length x
/-! ### what is spoilt stays small -/
mutual
def gd (B : Nat) : PyData → Bool
  | .none => true
  | .bool _ => true
  | .int i => decide (i.natAbs ≤ B)
  | .str x => x.cps.toList.all fun c => decide (c < 128)
  | .list xs => gds B xs
  | .tuple xs => gds B xs
  | .dict kvs => kvs.isEmpty
def gds (B : Nat) : List PyData → Bool
  | [] => true
  | x :: r => gd B x && gds B r
end
theorem gds_iff {B : Nat} : ∀ {l : List PyData}, gds B l = true ↔ ∀ x ∈ l, gd B x = true
  | [] => ⟨fun _ x hx => (by cases hx), fun _ => rfl⟩
  | y :: r => by
    show (gd B y && gds B r) = true ↔ _
    rw [Bool.and_eq_true, gds_iff (l := r)]
    exact ⟨fun ⟨a, b⟩ x hx => (List.mem_cons.mp hx).elim (fun e => e ▸ a) (b x), fun h => ⟨h y (List.mem_cons_self ..), fun x hx => h x (List.mem_cons_of_mem _ hx)⟩⟩
mutual
theorem gd_mono {B C : Nat} (h : B ≤ C) : ∀ {d : PyData}, gd B d = true → gd C d = true
  | .none, _ => rfl
  | .bool _, _ => rfl
  | .int _, e => decide_eq_true (Nat.le_trans (of_decide_eq_true e) h)
  | .str _, e => e
  | .list _, e => gds_mono h e
  | .tuple _, e => gds_mono h e
  | .dict _, e => e
theorem gds_mono {B C : Nat} (h : B ≤ C) : ∀ {l : List PyData}, gds B l = true → gds C l = true
  | [], _ => rfl
  | _ :: _, e => by
    have e' := Bool.and_eq_true_iff.mp e
    exact Bool.and_eq_true_iff.mpr ⟨gd_mono h e'.1, gds_mono h e'.2⟩
end
theorem small_log {i : Int} {B : Nat} (h : i.natAbs ≤ B) (hB : B < 2 ^ 190) : i.natAbs.log2 < 190 := by
  by_cases z : i.natAbs = 0
  · rw [z]; decide
  · exact (Nat.log2_lt z).mpr (Nat.lt_of_le_of_lt h hB)
mutual
theorem gd_show {B : Nat} (hB : B < 2 ^ 190) : ∀ {d : PyData}, gd B d = true → d.showable = true ∧ d.leavesShort 200 = true
  | .none, _ => ⟨rfl, rfl⟩
  | .bool _, _ => ⟨rfl, rfl⟩
  | .int i, e => by
    have l := small_log (of_decide_eq_true e) hB
    refine ⟨decide_eq_true (Nat.lt_trans l (by decide)), decide_eq_true ?_⟩
    have := PySem.int_text_length_le (a := i) (k := 190) (by decide) l
    show (Str.ofString (toString i)).length ≤ 200
    rw [str_len]
    omega
  | .str x, e => by
    refine ⟨rfl, ?_⟩
    show (x.cps.toList.all fun c => decide (c < 16 ^ 8)) = true
    refine List.all_eq_true.mpr fun c hc => decide_eq_true (Nat.lt_trans (of_decide_eq_true (List.all_eq_true.mp e c hc)) (by decide))
  | .list _, e => gds_show hB e
  | .tuple _, e => gds_show hB e
  | .dict [], _ => ⟨rfl, rfl⟩
  | .dict (_ :: _), e => by cases e
theorem gds_show {B : Nat} (hB : B < 2 ^ 190) : ∀ {l : List PyData}, gds B l = true → PyData.showableAll l = true ∧ PyData.leavesShortAll 200 l = true
  | [], _ => ⟨rfl, rfl⟩
  | _ :: _, e => by
    have e' := Bool.and_eq_true_iff.mp e
    have a := gd_show hB e'.1
    have b := gds_show hB e'.2
    exact ⟨Bool.and_eq_true_iff.mpr ⟨a.1, b.1⟩, Bool.and_eq_true_iff.mpr ⟨a.2, b.2⟩⟩
end
def Fit (B n m : Nat) (d : PyData) : Prop := gd B d = true ∧ d.weight ≤ n ∧ d.depth ≤ m
def FitL (B n m : Nat) (ds : List PyData) : Prop := gds B ds = true ∧ PyData.weightAll ds ≤ n ∧ PyData.depthAll ds ≤ m
theorem Fit.mono {B n m B' n' m' : Nat} {d : PyData} (h : Fit B n m d) (a : B ≤ B') (b : n ≤ n') (c : m ≤ m') : Fit B' n' m' d := ⟨gd_mono a h.1, Nat.le_trans h.2.1 b, Nat.le_trans h.2.2 c⟩
theorem Fit.tup {B n m : Nat} {ds : List PyData} (h : FitL B n m ds) : Fit B n (m + 1) (.tuple ds) := ⟨h.1, h.2.1, Nat.succ_le_succ h.2.2⟩
theorem Fit.lst {B n m : Nat} {ds : List PyData} (h : FitL B n m ds) : Fit B n (m + 1) (.list ds) := ⟨h.1, h.2.1, Nat.succ_le_succ h.2.2⟩
theorem Fit.inv {B n m : Nat} {ds : List PyData} (h : Fit B n (m + 1) (.tuple ds)) : FitL B n m ds := ⟨h.1, h.2.1, Nat.le_of_succ_le_succ h.2.2⟩
theorem Fit.fine {B n m : Nat} {d : PyData} (h : Fit B n m d) (hB : B < 2 ^ 190) (hn : n ≤ 50000) (hm : m ≤ 50) : d.showable = true ∧ d.shown.length ≤ sizeLine ∧ d.depth ≤ 50 := by
  have s := gd_show hB h.1
  exact ⟨s.1, fine_fits (n := n) (m := m) (fine_iff.mpr ⟨s.1, s.2, h.2.1, h.2.2⟩) hn, Nat.le_trans h.2.2 hm⟩
theorem weight_app : ∀ a b : List PyData, PyData.weightAll (a ++ b) = PyData.weightAll a + PyData.weightAll b
  | [], b => (Nat.zero_add _).symm
  | x :: r, b => by
    show x.weight + 1 + PyData.weightAll (r ++ b) = x.weight + 1 + PyData.weightAll r + PyData.weightAll b
    rw [weight_app r b]
    omega
theorem depth_app : ∀ a b : List PyData, PyData.depthAll (a ++ b) = max (PyData.depthAll a) (PyData.depthAll b)
  | [], b => (Nat.zero_max _).symm
  | x :: r, b => by
    show max x.depth (PyData.depthAll (r ++ b)) = max (max x.depth (PyData.depthAll r)) (PyData.depthAll b)
    rw [depth_app r b, Nat.max_assoc]
theorem FitL.app {B n n' m : Nat} {a b : List PyData} (h : FitL B n m a) (g : FitL B n' m b) : FitL B (n + n') m (a ++ b) := by
  refine ⟨gds_iff.mpr fun x hx => ?_, ?_, ?_⟩
  · rcases List.mem_append.mp hx with z | z
    · exact gds_iff.mp h.1 x z
    · exact gds_iff.mp g.1 x z
  · rw [weight_app]
    exact Nat.add_le_add h.2.1 g.2.1
  · rw [depth_app]
    exact Nat.max_le.mpr ⟨h.2.2, g.2.2⟩
theorem FitL.parts {B n m : Nat} {a b : List PyData} (h : FitL B n m (a ++ b)) : FitL B n m a ∧ FitL B n m b := by
  obtain ⟨h1, h2, h3⟩ := h
  rw [weight_app] at h2
  rw [depth_app] at h3
  exact ⟨⟨gds_iff.mpr fun x hx => gds_iff.mp h1 x (List.mem_append_left _ hx), by omega, by omega⟩, ⟨gds_iff.mpr fun x hx => gds_iff.mp h1 x (List.mem_append_right _ hx), by omega, by omega⟩⟩
theorem FitL.take {B n m : Nat} {a : List PyData} (h : FitL B n m a) (k : Nat) : FitL B n m (a.take k) := by
  rw [← List.take_append_drop k a] at h
  exact h.parts.1
theorem FitL.drop {B n m : Nat} {a : List PyData} (h : FitL B n m a) (k : Nat) : FitL B n m (a.drop k) := by
  rw [← List.take_append_drop k a] at h
  exact h.parts.2
theorem FitL.one {B n m : Nat} {d : PyData} (h : Fit B n m d) : FitL B (n + 1) m [d] := by
  refine ⟨gds_iff.mpr fun x hx => by rw [List.mem_singleton.mp hx]; exact h.1, ?_, ?_⟩
  · show d.weight + 1 + 0 ≤ n + 1
    have := h.2.1
    omega
  · show max d.depth 0 ≤ m
    have := h.2.2
    omega
theorem FitL.get {B n m : Nat} {ds : List PyData} (h : FitL B n m ds) {j : Nat} {d : PyData} (e : ds[j]? = some d) : Fit B n m d := by
  have s : ds = ds.take j ++ [d] ++ ds.drop (j + 1) := by
    obtain ⟨hl, e'⟩ := List.getElem?_eq_some_iff.mp e
    rw [← e', List.append_assoc, List.singleton_append, List.getElem_cons_drop, List.take_append_drop]
  rw [s] at h
  obtain ⟨h1, h2, h3⟩ := h.parts.1.parts.2
  refine ⟨gds_iff.mp h1 d (List.mem_singleton.mpr rfl), ?_, ?_⟩
  · have : d.weight + 1 + 0 ≤ n := h2
    omega
  · have : max d.depth 0 ≤ m := h3
    omega
theorem weight_rev (a : List PyData) : PyData.weightAll a.reverse = PyData.weightAll a := by
  induction a with
  | nil => rfl
  | cons x r ih =>
    rw [List.reverse_cons, weight_app, ih]
    show PyData.weightAll r + (x.weight + 1 + 0) = x.weight + 1 + PyData.weightAll r
    omega
theorem depth_rev (a : List PyData) : PyData.depthAll a.reverse = PyData.depthAll a := by
  induction a with
  | nil => rfl
  | cons x r ih =>
    rw [List.reverse_cons, depth_app, ih]
    show max (PyData.depthAll r) (max x.depth 0) = max x.depth (PyData.depthAll r)
    omega
theorem FitL.rev {B n m : Nat} {a : List PyData} (h : FitL B n m a) : FitL B n m a.reverse :=
  ⟨gds_iff.mpr fun x hx => gds_iff.mp h.1 x (List.mem_reverse.mp hx), by rw [weight_rev]; exact h.2.1, by rw [depth_rev]; exact h.2.2⟩
theorem ShAll.rev {H : Hp} : ∀ {xs : List V} {ds : List PyData}, ShAll H xs ds → ShAll H xs.reverse ds.reverse
  | _, _, .nil => .nil
  | _, _, .cons a r => by
    rw [List.reverse_cons, List.reverse_cons]
    exact (ShAll.rev r).append (.cons a .nil)

end Gk

set_option Elab.async false
set_option linter.all false
set_option maxRecDepth 100000
set_option maxHeartbeats 1000000
set_option pp.maxSteps 1500
set_option pp.deepTerms false
namespace Gk
open PySem PySem.Spec PyProof.Rows L2
section
variable {P : Program} {w : World} {K : PySem.W.Frag} {mg : Str → Option Value} {base : Heap}
/-! ### something put otherwise -/
theorem DeckC.out {H : Hp} {d l p : Addr} {n : Int} (D : DeckC H d l n) (h : H p = none) : p ∉ [d, l] := by
  obtain ⟨a, b⟩ := D.off h
  intro z
  rcases List.mem_cons.mp z with z | z
  · exact a z
  · exact b (List.mem_singleton.mp z)
theorem in_d {d l : Addr} : d ∈ [d, l] := List.mem_cons_self ..
theorem in_l {d l : Addr} : l ∈ [d, l] := List.mem_cons_of_mem _ (List.mem_cons_self ..)
theorem pick_sh {H : Hp} {xs : List V} {ds : List PyData} {B n m : Nat} (t : ShAll H xs ds) (f : ∀ d ∈ ds, Fit B n m d) {j : Int} (h0 : 0 ≤ j) (h1 : j < xs.length) : ∃ x d, atI xs j = some x ∧ Sh H x d ∧ Fit B n m d := by
  obtain ⟨k, rfl⟩ := Int.eq_ofNat_of_zero_le h0
  have hk : k < xs.length := by omega
  obtain ⟨d, hd, td⟩ := t.get (List.getElem?_eq_getElem hk)
  exact ⟨_, d, atI_nat (List.getElem?_eq_getElem hk), td, f d (List.mem_of_getElem? hd)⟩
def sp_put (K : PySem.W.Frag) : Sp := fun vs H Q _ => ∃ (a : Addr) (k : Nat) (v : V) (xs : List V), vs = [.ref a, .int k, v] ∧ H a = some (.tup xs) ∧ k < xs.length ∧ xs.length ≤ 20000 ∧ ∀ r H', Same H H' → H' r = some (.tup (xs.set k v)) → Q (.ref r) H'
theorem ok_put (T : Tx K mg) : FnOk P w K mg base CX0 1 T.f_put T.fd_put ["_law_row", "_law_at", "_law_part"] (sp_put K) := by
  refine T.F_put.ok sc_put (fun vs H Q E h => ?_) (fun cdv A outer s H vs Q E hr h => ?_)
  · obtain ⟨a, k, v, xs, rfl, _⟩ := h
    rfl
  · obtain ⟨a, k, v, xs, rfl, ha, hk, hl, q⟩ := h
    refine ⟨_, (pss_one (ps_ret (pe_op op_catA (pe_op op_catA (pe_slice sl_tupA (pv 0) po_none (po_some (pv 1))) (pe_tup (pa_cons (pv 2) pa_nil))) (pe_slice sl_tupA (pv 0) (po_some (pe_op op_add (pv 1) pe_int)) po_none)))), ?_⟩
    refine ⟨.ref a, rfl, .int k, rfl, (k : Int), rfl, slA ha fun q1 H1 s1 h1 => ?_⟩
    rw [cut_to] at h1
    refine ⟨v, rfl, sl1, fun t nt => ?_⟩
    have s2 := same_upd (o := HO.tup [v]) nt
    refine catA (s2 _ _ h1) upd_same ?_ fun q2 H3 s3 h3 => ?_
    · rw [List.length_take]
      exact Nat.le_trans (show _ ≤ 30000 by simp only [List.length_cons, List.length_nil]; omega) (by decide)
    have s13 := (s1.trans s2).trans s3
    refine ⟨.ref a, rfl, .int k, rfl, _, _, rfl, rfl, ((k + 1 : Nat) : Int), rfl, ?_⟩
    refine slAn (s13 _ _ ha) fun q4 H4 s4 h4 => ?_
    rw [cut_from] at h4
    refine catA (s4 _ _ h3) h4 ?_ fun q5 H5 s5 h5 => ?_
    · rw [List.length_append, List.length_take, List.length_drop]
      exact Nat.le_trans (show _ ≤ 30000 by simp only [List.length_cons, List.length_nil]; omega) (by decide)
    rw [set_put hk] at h5
    exact q q5 H5 ((s13.trans s4).trans s5) h5
def odds : List PyData := [.none, .bool true, .bool false, .tuple [], .list [], .dict [], .int 0, .int 1, .str (Str.ofString ""), .str (Str.ofString "01"), .int (-1), .tuple [.int 0], .str (Str.ofString "0"), .int 46, .int (10 ^ 39)]
theorem odds_ok : (odds.all fun d => gd (10 ^ 39) d && (decide (d.weight ≤ 200) && decide (d.depth ≤ 2))) = true := by decide +kernel
theorem odds_fit {d : PyData} (h : d ∈ odds) : Fit (10 ^ 39) 200 2 d := by
  have z := List.all_eq_true.mp odds_ok d h
  rw [Bool.and_eq_true, Bool.and_eq_true, decide_eq_true_eq, decide_eq_true_eq] at z
  exact z
theorem isStr_of : ∀ {d : PyData}, isStrD d = true → ∃ z, d = .str z
  | .str z, _ => ⟨z, rfl⟩
  | .bool _, h => by cases h
  | .none, h => by cases h
  | .tuple _, h => by cases h
  | .list _, h => by cases h
  | .int _, h => by cases h
  | .dict _, h => by cases h
theorem isInt_of : ∀ {d : PyData}, isIntD d = true → (∃ i, d = .int i) ∨ ∃ b, d = .bool b
  | .int i, _ => .inl ⟨i, rfl⟩
  | .bool b, _ => .inr ⟨b, rfl⟩
  | .str _, h => by cases h
  | .none, h => by cases h
  | .tuple _, h => by cases h
  | .list _, h => by cases h
  | .dict _, h => by cases h
theorem fit_S {B n m : Nat} {l : List Nat} (h : ∀ c ∈ l, c < 128) (hl : l.length ≤ n) : Fit B n m (.str (SX.S l)) := by
  refine ⟨List.all_eq_true.mpr fun c hc => decide_eq_true (h c (by simpa using hc)), ?_, Nat.zero_le _⟩
  show l.toArray.size ≤ n
  rw [List.size_toArray]
  exact hl
theorem nat_chars (n : Nat) : ∀ c ∈ (Nat.repr n).toList, c.toNat < 128 := by
  intro c hc
  have hc' : c ∈ Nat.toDigits 10 n := by
    have e : (Nat.repr n).toList = Nat.toDigits 10 n := by
      unfold Nat.repr
      exact String.toList_ofList
    rw [e] at hc
    exact hc
  have hd := Nat.isDigit_of_mem_toDigits (by decide) (by decide) hc'
  unfold Char.isDigit at hd
  have h2 := of_decide_eq_true (Bool.and_eq_true_iff.mp hd).2
  have h3 : c.toNat ≤ 57 := h2
  omega
theorem int_chars (i : Int) : ∀ c ∈ (toString i).toList, c.toNat < 128 := by
  cases i with
  | ofNat m => exact nat_chars m
  | negSucc m =>
    intro c hc
    have e : toString (Int.negSucc m) = "-" ++ Nat.repr (m + 1) := rfl
    rw [e, String.toList_append] at hc
    rcases List.mem_append.mp hc with h | h
    · have : c = '-' := by simpa using h
      subst this
      decide
    · exact nat_chars _ c h
theorem fit_strZ {B n m k : Nat} {v : V} {i : Int} (hv : NumZ.nz v = some i) (hk : 4 ≤ k) (h : i.natAbs.log2 < k) (hn : k + 1 ≤ n) : Fit B n m (.str (NumZ.strZ v)) := by
  cases v with
  | int j =>
    cases Option.some.inj hv
    have e : NumZ.strZ (.int i) = SX.S ((toString i).toList.map Char.toNat) := Str.ofString_eq_toList _
    rw [e]
    refine fit_S (fun c hc => ?_) ?_
    · obtain ⟨a, ha, rfl⟩ := List.mem_map.mp hc
      exact int_chars i a ha
    · have := PySem.int_text_length_le (a := i) (k := k) (by omega) h
      rw [List.length_map]
      exact Nat.le_trans this hn
  | bl b =>
    cases b
    · have e : NumZ.strZ (.bl false) = SX.S [70, 97, 108, 115, 101] := by decide +kernel
      rw [e]
      exact fit_S (by decide) (show 5 ≤ n by omega)
    · have e : NumZ.strZ (.bl true) = SX.S [84, 114, 117, 101] := by decide +kernel
      rw [e]
      exact fit_S (by decide) (show 4 ≤ n by omega)
  | _ => cases hv
theorem cutS_to (l : List Nat) (k : Nat) : cutS (SX.S l) none (some (k : Int)) = SX.S (l.take k) := by
  unfold cutS
  rw [SX.S_len, HT.sIx_none, HT.sIx_nat, List.drop_zero, Nat.sub_zero]
  show SX.S (l.take (min k l.length)) = SX.S (l.take k)
  by_cases h : k ≤ l.length
  · rw [Nat.min_eq_left h]
  · rw [Nat.min_eq_right (by omega), List.take_length, List.take_of_length_le (by omega)]
theorem cutS_from (l : List Nat) (k : Nat) : cutS (SX.S l) (some (k : Int)) none = SX.S (l.drop k) := by
  unfold cutS
  rw [SX.S_len, HT.sIx_none, HT.sIx_nat]
  show SX.S ((l.drop (min k l.length)).take (l.length - min k l.length)) = SX.S (l.drop k)
  congr 1
  by_cases h : k ≤ l.length
  · rw [Nat.min_eq_left h]
    exact List.take_of_length_le (by rw [List.length_drop]; exact Nat.le_refl _)
  · rw [Nat.min_eq_right (by omega), Nat.sub_self, List.take_zero, List.drop_eq_nil_of_le (by omega)]
/-- the deck, and what else is hidden: all of it stands, and none of it is a tuple -/
structure DA (as : List Addr) (H : Hp) (d l : Addr) (n : Int) : Prop where
  d1 : DeckC H d l n
  hd : d ∈ as
  hl : l ∈ as
  liv : ∀ b ∈ as, ∃ o, H b = some o ∧ ∀ xs, o ≠ HO.tup xs
theorem DA.same {as : List Addr} {H H' : Hp} {d l : Addr} {n : Int} (D : DA as H d l n) (s : Same H H') : DA as H' d l n := ⟨D.d1.same s, D.hd, D.hl, fun b hb => by
  obtain ⟨o, e, no⟩ := D.liv b hb
  exact ⟨o, s _ _ e, no⟩⟩
theorem DA.mono {as : List Addr} {H : Hp} {d l : Addr} {n m : Int} (D : DA as H d l n) (h : n ≤ m) : DA as H d l m := ⟨D.d1.mono h, D.hd, D.hl, D.liv⟩
theorem DA.off {as : List Addr} {H : Hp} {d l p : Addr} {n : Int} (D : DA as H d l n) (h : H p = none) : p ≠ d ∧ p ≠ l := D.d1.off h
theorem DA.out {as : List Addr} {H : Hp} {d l p : Addr} {n : Int} (D : DA as H d l n) (h : H p = none) : p ∉ as := fun z => by
  obtain ⟨o, e, _⟩ := D.liv p z
  rw [h] at e
  cases e
theorem DA.tupOut {as : List Addr} {H : Hp} {d l p : Addr} {n : Int} {xs : List V} (D : DA as H d l n) (h : H p = some (.tup xs)) : p ∉ as := fun z => by
  obtain ⟨o, e, no⟩ := D.liv p z
  rw [h] at e
  exact no xs (Option.some.inj e).symm
theorem DA.fr {as : List Addr} {H H' : Hp} {d l : Addr} {n m : Int} (D : DA as H d l n) (D' : DeckC H' d l m) (f : Fr d l H H') : DA as H' d l m := ⟨D', D.hd, D.hl, fun b hb => by
  obtain ⟨ne, cs, y, z, hd, hl, r⟩ := D'
  by_cases b1 : b = d
  · rw [b1]
    exact ⟨_, hd, fun xs z => by cases z⟩
  by_cases b2 : b = l
  · rw [b2]
    exact ⟨_, hl, fun xs z => by cases z⟩
  obtain ⟨o, e, no⟩ := D.liv b hb
  exact ⟨o, f _ _ b1 b2 e, no⟩⟩
theorem DeckC.da {H : Hp} {d l : Addr} {n : Int} (D : DeckC H d l n) : DA [d, l] H d l n := by
  refine ⟨D, in_d, in_l, fun b hb => ?_⟩
  obtain ⟨ne, cs, y, z, hd, hl, r⟩ := D
  rcases List.mem_cons.mp hb with b1 | b1
  · rw [b1]
    exact ⟨_, hd, fun xs z => by cases z⟩
  · rw [List.mem_singleton.mp b1]
    exact ⟨_, hl, fun xs z => by cases z⟩
theorem sh_tup {as : List Addr} {H : Hp} {d l p : Addr} {n : Int} {xs : List V} {ds : List PyData} (D : DA as H d l n) (h : H p = some (.tup xs)) (t : ShAll (hid as H) xs ds) : Sh (hid as H) (.ref p) (.tuple ds) := .tup (by rw [hid_at (D.tupOut h)]; exact h) t
theorem e39 (B : Nat) : 10 ^ 39 ≤ B + 10 ^ 39 + 10 := Nat.le_trans (Nat.le_add_left _ B) (Nat.le_add_right _ 10)
theorem b39 (B : Nat) : B + 10 ≤ B + 10 ^ 39 + 10 := Nat.add_le_add_right (Nat.le_add_right _ _) 10
theorem six_S : Str.ofString "01 2a-" = SX.S [48, 49, 32, 50, 97, 45] := by decide +kernel
theorem zero_S : Str.ofString "0" = SX.S [48] := by decide +kernel
theorem len_weight : ∀ ds : List PyData, ds.length ≤ PyData.weightAll ds
  | [] => Nat.le_refl _
  | x :: r => by
    show r.length + 1 ≤ x.weight + 1 + PyData.weightAll r
    have := len_weight r
    omega
theorem fit_put {B n m k : Nat} {ds : List PyData} {dk d0 : PyData} (hk : ds[k]? = some dk) (fl : FitL B n m ds) (f0 : Fit B n m d0) : Fit B (n + (n + 1)) (m + 1) (.tuple ((ds.take k ++ [d0]) ++ ds.drop (k + 1))) := by
  have e : ds = ds.take k ++ ([dk] ++ ds.drop (k + 1)) := by
    obtain ⟨hl, e'⟩ := List.getElem?_eq_some_iff.mp hk
    rw [← e', List.singleton_append, List.getElem_cons_drop, List.take_append_drop]
  have w : PyData.weightAll (ds.take k) + (PyData.weightAll [dk] + PyData.weightAll (ds.drop (k + 1))) ≤ n := by
    rw [← weight_app, ← weight_app, ← e]
    exact fl.2.1
  have one := FitL.one f0
  have a : FitL B (n + 1 + n + n) m ((ds.take k ++ [d0]) ++ ds.drop (k + 1)) := by
    have := ((fl.take k).app one).app (fl.drop (k + 1))
    exact ⟨this.1, Nat.le_trans this.2.1 (by omega), this.2.2⟩
  refine Fit.tup ⟨a.1, ?_, a.2.2⟩
  rw [weight_app, weight_app]
  have := one.2.1
  omega
def sp_other (K : PySem.W.Frag) : Sp := fun vs H Q _ => ∃ (as : List Addr) (d l : Addr) (n : Int) (v : V) (dd : PyData) (B N M : Nat), vs = [.ref d, v] ∧ DA as H d l n ∧ n < 1000000 ∧ Sh (hid as H) v dd ∧ Fit B N M dd ∧ B < 2 ^ 180 ∧ N ≤ 10000 ∧
  ∀ v' H' dd', DA as H' d l (n + 4) → Fr d l H H' → Sh (hid as H') v' dd' → Fit (B + 10 ^ 39 + 10) (2 * N + 400) (M + 3) dd' → Q v' H'
theorem ok_other (T : Tx K mg) : FnOk P w K mg base CX0 3 T.f_other T.fd_other ["_law_deck_here", "_law_thing"] (sp_other K) := by
  refine T.F_other.ok sc_other (fun vs H Q E h => ?_) (fun cdv A outer s H vs Q E hr h => ?_)
  · obtain ⟨as, d, l, n, v, dd, B, N, M, rfl, _⟩ := h
    rfl
  · obtain ⟨as, d, l, n, v, dd, B, N, M, rfl, D, hn, sh, fit, hB, hN, q⟩ := h
    refine ⟨_, (pss_cons (ps_set (i := 2) sc_other.nd rfl (by first | exact .inl rfl | exact .inr rfl) (pe_call (ok_take T) (hr.mono (by decide)) (by rfl) T.g_take T.F_take.kp T.b_take .nil pass0 (pa_cons (pv 0) (pa_cons pe_int pa_nil)))) (pss_cons (ps_if (pt_cmpR op_eq (pv 2) pe_int (nomark _)) (pss_cons (ps_set (i := 3) sc_other.nd rfl (by first | exact .inl rfl | exact .inr rfl) (pe_lst (pa_cons pe_non (pa_cons pe_bl (pa_cons pe_bl (pa_cons (pe_tup pa_nil) (pa_cons (pe_lstN pa_nil) (pa_cons pe_dnewK (pa_cons pe_int (pa_cons pe_int (pa_cons pe_str (pa_cons pe_str (pa_cons (pe_un un_neg pe_int) (pa_cons (pe_tup (pa_cons pe_int pa_nil)) (pa_cons pe_str (pa_cons pe_int (pa_cons (pe_op op_pow pe_int pe_int) pa_nil))))))))))))))))) (pss_one (ps_ret (pe_ix ix_list (pv 3) (pe_call (ok_take T) (hr.mono (by decide)) (by rfl) T.g_take T.F_take.kp T.b_take .nil pass0 (pa_cons (pv 0) (pa_cons pe_int pa_nil))) (fun _ _ => rfl))))) pss_nil) (pss_cons (ps_if (pt_val (pe_callB call_isi (by rfl) T.m_isinstance (by decide +kernel) (pa_cons (pv 1) (pa_cons (pe_bltn (v := .ty "str") (u := .type "str") (by rfl) T.m_str (by decide +kernel) rfl) pa_nil)))) (pss_cons (ps_set (i := 4) sc_other.nd rfl (by first | exact .inl rfl | exact .inr rfl) (pe_call (ok_take T) (hr.mono (by decide)) (by rfl) T.g_take T.F_take.kp T.b_take .nil pass0 (pa_cons (pv 0) (pa_cons (pe_op op_add (pe_callB call_len_str (by rfl) T.m_len PySem.boot_len (pa_cons (pv 1) pa_nil)) pe_int) pa_nil)))) (pss_cons (ps_set (i := 5) sc_other.nd rfl (by first | exact .inl rfl | exact .inr rfl) (pe_item_str pe_str (pe_call (ok_take T) (hr.mono (by decide)) (by rfl) T.g_take T.F_take.kp T.b_take .nil pass0 (pa_cons (pv 0) (pa_cons pe_int pa_nil))) (fun _ _ => rfl))) (pss_cons (ps_set (i := 6) sc_other.nd rfl (by first | exact .inl rfl | exact .inr rfl) (pe_lst (pa_cons (pe_op op_add_str (pe_op op_add_str (pe_slice sl_str (pv 1) po_none (po_some (pv 4))) (pv 5)) (pe_slice sl_str (pv 1) (po_some (pv 4)) po_none)) (pa_cons (pe_op op_add_str (pe_op op_add_str (pe_slice sl_str (pv 1) po_none (po_some (pv 4))) (pv 5)) (pe_slice sl_str (pv 1) (po_some (pe_op op_add (pv 4) pe_int)) po_none)) (pa_cons (pe_op op_add_str (pe_slice sl_str (pv 1) po_none (po_some (pv 4))) (pe_slice sl_str (pv 1) (po_some (pe_op op_add (pv 4) pe_int)) po_none)) pa_nil))))) (pss_one (ps_ret (pe_ix ix_list (pe_op op_cat (pv 6) (pe_lst (pa_cons (pe_op op_add_str (pv 1) (pv 1)) (pa_cons (pe_op op_add_str (pv 1) pe_str) (pa_cons (pe_tup (pa_cons (pv 1) pa_nil)) (pa_cons (pe_lstN (pa_cons (pv 1) pa_nil)) pa_nil)))))) (pe_op op_sub (pv 2) pe_int) (fun _ _ => rfl))))))) pss_nil) (pss_cons (ps_if (pt_val (pe_callB call_isi (by rfl) T.m_isinstance (by decide +kernel) (pa_cons (pv 1) (pa_cons (pe_bltn (v := .ty "int") (u := .type "int") (by rfl) T.m_int (by decide +kernel) rfl) pa_nil)))) (pss_one (ps_ret (pe_ix ix_list (pe_lst (pa_cons (pe_op NumZ.op_addZ (pv 1) pe_int) (pa_cons (pe_op NumZ.op_subZ (pv 1) pe_int) (pa_cons (pe_op NumZ.op_subZ (pe_un un_neg pe_int) (pv 1)) (pa_cons (pe_cmpR (op_eqD hr.units) (pv 1) pe_int (nomark _)) (pa_cons (pe_op NumZ.op_addZ (pv 1) pe_int) (pa_cons (pe_callTy NumZ.call_strZ (by rfl) T.m_str (by decide +kernel) (pa_cons (pv 1) pa_nil)) (pa_cons (pe_tup (pa_cons (pv 1) pa_nil)) pa_nil)))))))) (pe_op op_sub (pv 2) pe_int) (fun _ _ => rfl)))) pss_nil) (pss_cons (ps_if (pw_or (pt_not (pt_val (pe_callB call_isi (by rfl) T.m_isinstance (by decide +kernel) (pa_cons (pv 1) (pa_cons (pe_bltn (v := .ty "tuple") (u := .type "tuple") (by rfl) T.m_tuple (by decide +kernel) rfl) pa_nil))))) (pw_or1 (pt_cmpR (TupRev.op_eqE hr.units) (pv 1) (pe_tup pa_nil) (nomark _)))).pt (pss_one (ps_ret (pe_tup (pa_cons (pe_call (ok_take T) (hr.mono (by decide)) (by rfl) T.g_take T.F_take.kp T.b_take .nil pass0 (pa_cons (pv 0) (pa_cons pe_int pa_nil))) pa_nil)))) pss_nil) (pss_cons (ps_set (i := 4) sc_other.nd rfl (by first | exact .inl rfl | exact .inr rfl) (pe_call (ok_take T) (hr.mono (by decide)) (by rfl) T.g_take T.F_take.kp T.b_take .nil pass0 (pa_cons (pv 0) (pa_cons (pe_callB call_len_seq (by rfl) T.m_len PySem.boot_len (pa_cons (pv 1) pa_nil)) pa_nil)))) (pss_cons (ps_set (i := 6) sc_other.nd rfl (by first | exact .inl rfl | exact .inr rfl) (pe_lst (pa_cons (pe_op op_catA (pe_slice sl_tupA (pv 1) po_none (po_some (pv 4))) (pe_slice sl_tupA (pv 1) (po_some (pe_op op_add (pv 4) pe_int)) po_none)) (pa_cons (pe_op op_catA (pe_slice sl_tupA (pv 1) po_none (po_some (pe_op op_add (pv 4) pe_int))) (pe_slice sl_tupA (pv 1) (po_some (pv 4)) po_none)) (pa_cons (TupRev.pe_revT (pv 1)) (pa_cons (pe_callTy NumZ.call_listN (by rfl) T.m_list (by decide +kernel) (pa_cons (pv 1) pa_nil)) pa_nil)))))) (pss_one (ps_ret (pe_ix ix_list (pe_op op_cat (pv 6) (pe_lst (pa_cons (pe_call (ok_put T) (hr.mono (by decide)) (by rfl) T.g_put T.F_put.kp T.b_put .nil pass0 (pa_cons (pv 1) (pa_cons (pv 4) (pa_cons (pe_ix ix_tup (pv 1) pe_int (fun _ _ => rfl)) pa_nil)))) (pa_cons (pe_op op_catA (pv 1) (pe_tup (pa_cons (pe_ix ix_tup (pv 1) (pv 4) (fun _ _ => rfl)) pa_nil))) (pa_cons (pe_ix ix_tup (pv 1) (pv 4) (fun _ _ => rfl)) pa_nil))))) (pe_op op_sub (pv 2) pe_int) (fun _ _ => rfl))))))))))), ?_⟩
    refine ⟨.ref d, rfl, d, l, 8, _, rfl, D.d1, by omega, by decide, by decide, fun H1 way D1 fr1 w0 w1 => ?_⟩
    replace D1 := D.fr D1 fr1
    have sh1 : Sh (hid as H1) v dd := sh.same (hid_fr fr1 D.hd D.hl)
    have shH : Sh H1 v dd := sh1.same hid_le
    have fin : ∀ v' H' dd' m, DA as H' d l (n + m) → m ≤ 4 → Fr d l H H' → Sh (hid as H') v' dd' → Fit (B + 10 ^ 39 + 10) (2 * N + 400) (M + 3) dd' → Q v' H' := fun v' H' dd' m a b c e f => q v' H' dd' (a.mono (by omega)) c e f
    refine ⟨.int way, rfl, rfl, _, rfl, ite2 (fun _ => ?_) (fun zw => ?_)⟩
    · -- one of the odd things
      refine ⟨Nat.zero_le _, fun p1 n1 => ⟨Nat.zero_le _, fun p2 n2 m2 => fun p3 n3 => ?_⟩⟩
      refine ⟨1, rfl, sl1, fun p4 n4 => ⟨_, _, rfl, rfl, ⟨by decide, by decide, by decide⟩, (show 15 ≤ sizeLine by decide), fun p5 n5 => ?_⟩⟩
      have s1 := same_upd (o := HO.tup []) n1
      have s2 := same_upd (o := HO.lst []) n2
      have s3 := same_upd (o := HO.dK []) n3
      have s4 := same_upd (o := HO.tup [V.int 0]) n4
      have s5 := same_upd (o := HO.lst [V.non, .bl true, .bl false, .ref p1, .ref p2, .ref p3, .int 0, .int 1, .str (Str.ofString ""), .str (Str.ofString "01"), .int (-1), .ref p4, .str (Str.ofString "0"), .int 46, .int (10 ^ 39)]) n5
      have sA := (((s1.trans s2).trans s3).trans s4).trans s5
      have D5 := D1.same sA
      have o1 := D1.out n1
      have o2 := (D1.same s1).out n2
      have o3 := (D1.same (s1.trans s2)).out n3
      have o4 := (D1.same ((s1.trans s2).trans s3)).out n4
      have o5 := (D1.same (((s1.trans s2).trans s3).trans s4)).off n5
      have e1 := s5 _ _ (s4 _ _ (s3 _ _ (s2 _ _ (show (upd H1 p1 (.tup [])) p1 = _ from upd_same))))
      have e2 := s5 _ _ (s4 _ _ (s3 _ _ (show (upd (upd H1 p1 (.tup [])) p2 (.lst [])) p2 = _ from upd_same)))
      have e3 := s5 _ _ (s4 _ _ (show (upd (upd (upd H1 p1 (.tup [])) p2 (.lst [])) p3 (.dK [])) p3 = _ from upd_same))
      have e4 := s5 _ _ (show (upd (upd (upd (upd H1 p1 (.tup [])) p2 (.lst [])) p3 (.dK [])) p4 (.tup [.int 0])) p4 = _ from upd_same)
      have e5 : (upd (upd (upd (upd (upd H1 p1 (.tup [])) p2 (.lst [])) p3 (.dK [])) p4 (.tup [.int 0])) p5 (.lst [V.non, .bl true, .bl false, .ref p1, .ref p2, .ref p3, .int 0, .int 1, .str (Str.ofString ""), .str (Str.ofString "01"), .int (-1), .ref p4, .str (Str.ofString "0"), .int 46, .int (10 ^ 39)])) p5 = _ := upd_same
      generalize h5 : upd _ p5 _ = H5
      replace sA : Same H1 H5 := by rw [← h5]; exact sA
      replace D5 : DA as H5 d l (n + 1) := by rw [← h5]; exact D5
      replace e1 : H5 p1 = some (.tup []) := by rw [← h5]; exact e1
      replace e2 : H5 p2 = some (.lst []) := by rw [← h5]; exact e2
      replace e3 : H5 p3 = some (.dK []) := by rw [← h5]; exact e3
      replace e4 : H5 p4 = some (.tup [.int 0]) := by rw [← h5]; exact e4
      replace e5 : H5 p5 = some (.lst [V.non, .bl true, .bl false, .ref p1, .ref p2, .ref p3, .int 0, .int 1, .str (Str.ofString ""), .str (Str.ofString "01"), .int (-1), .ref p4, .str (Str.ofString "0"), .int 46, .int (10 ^ 39)]) := by rw [← h5]; exact e5
      refine ⟨.ref p5, rfl, .ref d, rfl, d, l, 15, _, rfl, D5.d1, by omega, by decide, by decide, fun H6 u D6 fr6 u0 u1 => ?_⟩
      replace D6 := D5.fr D6 fr6
      have e5' := fr6 _ _ o5.1 o5.2 e5
      have hid6 : Same (hid as H5) (hid as H6) := hid_fr fr6 D.hd D.hl
      have all : ShAll (hid as H6) [V.non, .bl true, .bl false, .ref p1, .ref p2, .ref p3, .int 0, .int 1, .str (Str.ofString ""), .str (Str.ofString "01"), .int (-1), .ref p4, .str (Str.ofString "0"), .int 46, .int (10 ^ 39)] odds :=
        .cons .non (.cons (.bl _) (.cons (.bl _) (.cons (.tup (hid6 _ _ (by rw [hid_at o1]; exact e1)) .nil) (.cons (.lst (hid6 _ _ (by rw [hid_at o2]; exact e2)) m2 .nil) (.cons (.dic (kvs := []) (hid6 _ _ (by rw [hid_at o3]; exact e3)) .nil) (.cons (.int _) (.cons (.int _) (.cons (.str _) (.cons (.str _) (.cons (.int _) (.cons (.tup (hid6 _ _ (by rw [hid_at o4]; exact e4)) (.cons (.int _) .nil)) (.cons (.str _) (.cons (.int _) (.cons (.int _) .nil))))))))))))))
      obtain ⟨x, dx, hx, sx, fx⟩ := pick_sh all (fun d hd => odds_fit hd) u0 u1
      exact ⟨p5, _, u, x, rfl, rfl, SqL.of e5', hx, fin x H6 dx 2 (by rw [show n + 2 = n + 1 + 1 by omega]; exact D6) (by decide) ((fr1.trans (Fr.of sA)).trans fr6) sx (fx.mono (e39 B) (by omega) (by omega))⟩
    have w1' : 1 ≤ way := by
      have : way ≠ 0 := fun z => zw (decide_eq_true (by rw [z]))
      omega
    refine ⟨v, rfl, _, _, _, _, _, rfl, .ty _, shH.ty, kit_ty (kitStr dd), _, rfl, ite2 (fun e => ?_) (fun e => ?_)⟩
    · -- a text
      obtain ⟨z, rfl⟩ := isStr_of e
      have hv : v = .str z := by cases shH; rfl
      subst hv
      obtain ⟨ls, rfl⟩ : ∃ ls, z = SX.S ls := ⟨z.cps.toList, (SX.S_tl z).symm⟩
      have c128 : ∀ c ∈ ls, c < 128 := fun c hc => of_decide_eq_true (List.all_eq_true.mp fit.1 c (by simpa using hc))
      have ll : ls.length ≤ N := by
        have := fit.2.1
        have : ls.toArray.size ≤ N := this
        rw [List.size_toArray] at this
        exact this
      have zl : (SX.S ls).length ≤ sizeLine := by
        rw [SX.S_len]
        exact Nat.le_trans (Nat.le_trans ll hN) (by decide)
      have big : ∀ k : Nat, k ≤ 3 * N + 100 → k ≤ sizeLine := fun k hk => Nat.le_trans hk (Nat.le_trans (show 3 * N + 100 ≤ 40000 by omega) (by decide))
      refine ⟨.ref d, rfl, .str (SX.S ls), rfl, _, rfl, zl, _, _, rfl, rfl, ?_⟩
      rw [SX.S_len]
      refine ⟨d, l, _, _, rfl, D1.d1, by omega, by omega, by omega, fun H2 a2 D2 fr2 a0 a1 => ?_⟩
      replace D2 := D1.fr D2 fr2
      obtain ⟨k, rfl⟩ := Int.eq_ofNat_of_zero_le a0
      refine ⟨.ref d, rfl, d, l, 6, _, rfl, D2.d1, by omega, by decide, by decide, fun H3 c D3 fr3 c0 c1 => ?_⟩
      replace D3 := D2.fr D3 fr3
      obtain ⟨cn, rfl⟩ := Int.eq_ofNat_of_zero_le c0
      obtain ⟨cc, hcc, c128'⟩ : ∃ cc, [48, 49, 32, 50, 97, 45][cn]? = some cc ∧ cc < 128 := by
        have : cn = 0 ∨ cn = 1 ∨ cn = 2 ∨ cn = 3 ∨ cn = 4 ∨ cn = 5 := by omega
        rcases this with rfl | rfl | rfl | rfl | rfl | rfl <;> exact ⟨_, rfl, by decide⟩
      refine ⟨Str.ofString "01 2a-", (cn : Int), cc, rfl, rfl, by omega, by omega, by rw [six_S, SX.S_len]; exact c1, by rw [six_S]; show ([48, 49, 32, 50, 97, 45] : List Nat).toArray[cn]? = some cc; rw [List.getElem?_toArray]; exact hcc, ?_⟩
      have mem1 : ∀ (a b : List Nat), (∀ x ∈ a, x < 128) → (∀ x ∈ b, x < 128) → ∀ x ∈ a ++ b, x < 128 := fun a b ha hb x hx => (List.mem_append.mp hx).elim (ha x) (hb x)
      have tk : ∀ j, ∀ x ∈ ls.take j, x < 128 := fun j x hx => c128 x (List.mem_of_mem_take hx)
      have dr : ∀ j, ∀ x ∈ ls.drop j, x < 128 := fun j x hx => c128 x (List.mem_of_mem_drop hx)
      have on : ∀ x ∈ [cc], x < 128 := fun x hx => by rw [List.mem_singleton.mp hx]; exact c128'
      have tkl : ∀ j, (ls.take j).length ≤ N := fun j => by rw [List.length_take]; omega
      have drl : ∀ j, (ls.drop j).length ≤ N := fun j => Nat.le_trans (by rw [List.length_drop]; exact Nat.sub_le _ _) ll
      have k1 : (fun i j : Int => V.int (i + j)) (k : Int) 1 = V.int ((k + 1 : Nat) : Int) := by
        show V.int ((k : Int) + 1) = _
        rfl
      -- some
      refine ⟨.str (SX.S ls), rfl, .int (k : Nat), rfl, (k : Int), rfl, SX.S ls, rfl, zl, .str ⟨#[cc]⟩, rfl, _, _, rfl, rfl, ?_, ?_⟩
      · rw [cutS_to, SX.S_len]
        have := tkl k
        exact big _ (show (ls.take k).length + 1 ≤ _ by omega)
      refine ⟨.str (SX.S ls), rfl, .int (k : Nat), rfl, (k : Int), rfl, ?_⟩
      refine ⟨SX.S ls, rfl, zl, _, _, rfl, rfl, ?_, ?_⟩
      · rw [cutS_to, cutS_from, show (⟨#[cc]⟩ : Str) = SX.S [cc] from rfl, SX.S_cat, SX.S_len, SX.S_len, List.length_append]
        have := tkl k
        have := drl k
        exact big _ (show (ls.take k).length + 1 + (ls.drop k).length ≤ _ by omega)
      have k1' : ((k : Int) + 1) = ((k + 1 : Nat) : Int) := rfl
      refine ⟨.str (SX.S ls), rfl, .int (k : Nat), rfl, (k : Int), rfl, SX.S ls, rfl, zl, .str ⟨#[cc]⟩, rfl, _, _, rfl, rfl, ?_, ?_⟩
      · rw [cutS_to, SX.S_len]
        have := tkl k
        exact big _ (show (ls.take k).length + 1 ≤ _ by omega)
      refine ⟨.str (SX.S ls), rfl, .int (k : Nat), rfl, _, _, rfl, rfl, ((k + 1 : Nat) : Int), rfl, ?_⟩
      refine ⟨SX.S ls, rfl, zl, _, _, rfl, rfl, ?_, ?_⟩
      · rw [cutS_to, cutS_from, show (⟨#[cc]⟩ : Str) = SX.S [cc] from rfl, SX.S_cat, SX.S_len, SX.S_len, List.length_append]
        have := tkl k
        have := drl (k + 1)
        exact big _ (show (ls.take k).length + 1 + (ls.drop (k + 1)).length ≤ _ by omega)
      refine ⟨.str (SX.S ls), rfl, .int (k : Nat), rfl, (k : Int), rfl, SX.S ls, rfl, zl, .str (SX.S ls), rfl, .int (k : Nat), rfl, _, _, rfl, rfl, ((k + 1 : Nat) : Int), rfl, ?_⟩
      refine ⟨SX.S ls, rfl, zl, _, _, rfl, rfl, ?_, sl3, fun p1 n1 => ?_⟩
      · rw [cutS_to, cutS_from, SX.S_len, SX.S_len]
        have := tkl k
        have := drl (k + 1)
        exact big _ (show (ls.take k).length + (ls.drop (k + 1)).length ≤ _ by omega)
      have l1 : (⟨#[cc]⟩ : Str) = SX.S [cc] := rfl
      rw [cutS_to, cutS_from, cutS_from, l1, SX.S_cat, SX.S_cat, SX.S_cat, SX.S_cat]
      have s4 := same_upd (o := HO.lst [V.str (SX.S ((ls.take k ++ [cc]) ++ ls.drop k)), .str (SX.S ((ls.take k ++ [cc]) ++ ls.drop (k + 1))), .str (SX.S (ls.take k ++ ls.drop (k + 1)))]) n1
      refine ⟨.ref p1, rfl, .str (SX.S ls), rfl, .str (SX.S ls), rfl, _, _, rfl, rfl, ?_, ?_⟩
      · rw [SX.S_len]
        exact big _ (by omega)
      refine ⟨.str (SX.S ls), rfl, _, _, rfl, rfl, ?_, .str (SX.S ls), rfl, sl1, fun p2 n2 => ⟨.str (SX.S ls), rfl, sl1, fun p3 n3 m3 => ⟨sl4, fun p4 n4 => ?_⟩⟩⟩
      · rw [zero_S, SX.S_len, SX.S_len]
        exact big _ (show ls.length + 1 ≤ _ by omega)
      rw [zero_S, SX.S_cat, SX.S_cat]
      have s5 := same_upd (o := HO.tup [V.str (SX.S ls)]) n2
      have s6 := same_upd (o := HO.lst [V.str (SX.S ls)]) n3
      have s7 := same_upd (o := HO.lst [V.str (SX.S (ls ++ ls)), .str (SX.S (ls ++ [48])), .ref p2, .ref p3]) n4
      refine ⟨p1, p4, _, _, rfl, rfl, s7 _ _ (s6 _ _ (s5 _ _ upd_same)), upd_same, (show 3 + 4 ≤ sizeLine by decide), fun p5 n5 => ?_⟩
      have D4 := D3.same s4
      have o2 := D4.out n2
      have o3 := (D4.same s5).out n3
      have s8 := same_upd (o := HO.lst ([V.str (SX.S ((ls.take k ++ [cc]) ++ ls.drop k)), .str (SX.S ((ls.take k ++ [cc]) ++ ls.drop (k + 1))), .str (SX.S (ls.take k ++ ls.drop (k + 1)))] ++ [V.str (SX.S (ls ++ ls)), .str (SX.S (ls ++ [48])), .ref p2, .ref p3])) n5
      have e2 := s8 _ _ (s7 _ _ (s6 _ _ (show (upd (upd H3 p1 _) p2 (.tup [V.str (SX.S ls)])) p2 = _ from upd_same)))
      have e3 := s8 _ _ (s7 _ _ (show (upd (upd (upd H3 p1 _) p2 (.tup [V.str (SX.S ls)])) p3 (.lst [V.str (SX.S ls)])) p3 = _ from upd_same))
      have sA := (((s4.trans s5).trans s6).trans s7).trans s8
      generalize h9 : upd _ p5 _ = H9
      replace sA : Same H3 H9 := by rw [← h9]; exact sA
      replace e2 : H9 p2 = some (.tup [V.str (SX.S ls)]) := by rw [← h9]; exact e2
      replace e3 : H9 p3 = some (.lst [V.str (SX.S ls)]) := by rw [← h9]; exact e3
      have e9 : H9 p5 = some (.lst [V.str (SX.S ((ls.take k ++ [cc]) ++ ls.drop k)), .str (SX.S ((ls.take k ++ [cc]) ++ ls.drop (k + 1))), .str (SX.S (ls.take k ++ ls.drop (k + 1))), V.str (SX.S (ls ++ ls)), .str (SX.S (ls ++ [48])), .ref p2, .ref p3]) := by rw [← h9]; exact upd_same
      have f0 : ∀ (l' : List Nat), (∀ x ∈ l', x < 128) → l'.length ≤ 2 * N + 1 → Fit (B + 10 ^ 39 + 10) (2 * N + 400) (M + 3) (.str (SX.S l')) := fun l' h1 h2 => fit_S h1 (by omega)
      have fz := f0 ls c128 (by omega)
      have all : ShAll (hid as H9) [V.str (SX.S ((ls.take k ++ [cc]) ++ ls.drop k)), .str (SX.S ((ls.take k ++ [cc]) ++ ls.drop (k + 1))), .str (SX.S (ls.take k ++ ls.drop (k + 1))), V.str (SX.S (ls ++ ls)), .str (SX.S (ls ++ [48])), .ref p2, .ref p3] [.str (SX.S ((ls.take k ++ [cc]) ++ ls.drop k)), .str (SX.S ((ls.take k ++ [cc]) ++ ls.drop (k + 1))), .str (SX.S (ls.take k ++ ls.drop (k + 1))), .str (SX.S (ls ++ ls)), .str (SX.S (ls ++ [48])), .tuple [.str (SX.S ls)], .list [.str (SX.S ls)]] :=
        .cons (.str _) (.cons (.str _) (.cons (.str _) (.cons (.str _) (.cons (.str _) (.cons (.tup (by rw [hid_at o2]; exact e2) (.cons (.str _) .nil)) (.cons (.lst (by rw [hid_at o3]; exact e3) m3 (.cons (.str _) .nil)) .nil))))))
      have t1 : ∀ x ∈ [48], x < 128 := fun x hx => by rw [List.mem_singleton.mp hx]; decide
      have fits : ∀ dd ∈ [PyData.str (SX.S ((ls.take k ++ [cc]) ++ ls.drop k)), .str (SX.S ((ls.take k ++ [cc]) ++ ls.drop (k + 1))), .str (SX.S (ls.take k ++ ls.drop (k + 1))), .str (SX.S (ls ++ ls)), .str (SX.S (ls ++ [48])), .tuple [.str (SX.S ls)], .list [.str (SX.S ls)]], Fit (B + 10 ^ 39 + 10) (2 * N + 400) (M + 3) dd := by
        have a1 := tkl k
        have a2 := drl k
        have a3 := drl (k + 1)
        have sml : ls.length ≤ N := ll
        have w1 : Fit (B + 10 ^ 39 + 10) N (M + 2) (.str (SX.S ls)) := fit_S c128 ll
        intro dd hdd
        rcases List.mem_cons.mp hdd with rfl | hdd
        · exact f0 _ (mem1 _ _ (mem1 _ _ (tk k) on) (dr k)) (by rw [List.length_append, List.length_append, List.length_take, List.length_drop]; simp only [List.length_cons, List.length_nil]; omega)
        rcases List.mem_cons.mp hdd with rfl | hdd
        · exact f0 _ (mem1 _ _ (mem1 _ _ (tk k) on) (dr (k + 1))) (by rw [List.length_append, List.length_append, List.length_take, List.length_drop]; simp only [List.length_cons, List.length_nil]; omega)
        rcases List.mem_cons.mp hdd with rfl | hdd
        · exact f0 _ (mem1 _ _ (tk k) (dr (k + 1))) (by rw [List.length_append, List.length_take, List.length_drop]; omega)
        rcases List.mem_cons.mp hdd with rfl | hdd
        · exact f0 _ (mem1 _ _ c128 c128) (by rw [List.length_append]; omega)
        rcases List.mem_cons.mp hdd with rfl | hdd
        · exact f0 _ (mem1 _ _ c128 t1) (by rw [List.length_append]; simp only [List.length_cons, List.length_nil]; omega)
        rcases List.mem_cons.mp hdd with rfl | hdd
        · exact (Fit.tup (FitL.one w1)).mono (Nat.le_refl _) (by omega) (Nat.le_refl _)
        · rw [List.mem_singleton.mp hdd]
          exact (Fit.lst (FitL.one w1)).mono (Nat.le_refl _) (by omega) (Nat.le_refl _)
      obtain ⟨x, dx, hx, sx, fx⟩ := pick_sh all fits (j := way - 1) (by omega) (show way - 1 < 7 by omega)
      refine ⟨.int way, rfl, _, _, rfl, rfl, p5, _, way - 1, x, rfl, rfl, SqL.of e9, hx, ?_⟩
      exact fin x _ dx 3 ((D3.same sA).mono (by omega)) (by decide) (((fr1.trans fr2).trans fr3).trans (Fr.of sA)) sx fx
    refine ⟨v, rfl, _, _, _, _, _, rfl, .ty _, shH.ty, kit_ty (kitInt dd), _, rfl, ite2 (fun ei => ?_) (fun ei => ?_)⟩
    · -- a number
      obtain ⟨i, hi, bi, dp, shp⟩ : ∃ i, NumZ.nz v = some i ∧ i.natAbs ≤ B + 1 ∧ Dp K H1 v dd ∧ SeqAt.shaped dd = true := by
        rcases isInt_of ei with ⟨i, rfl⟩ | ⟨b, rfl⟩
        · have hv : v = .int i := by cases shH; rfl
          subst hv
          exact ⟨i, rfl, Nat.le_trans (of_decide_eq_true fit.1) (Nat.le_succ _), .int i, rfl⟩
        · have hv : v = .bl b := by cases shH; rfl
          subst hv
          refine ⟨_, rfl, ?_, .bl b, rfl⟩
          cases b <;> simp
      have lg : i.natAbs.log2 < 1920 := Nat.lt_trans (small_log (B := B + 1) bi (by omega)) (by decide)
      refine ⟨v, rfl, i, 1, hi, rfl, v, rfl, i, 1, hi, rfl, .inr ⟨_, rfl⟩, 1, rfl, v, rfl, -1, i, rfl, hi, .inl ⟨_, rfl⟩, v, rfl, dd, .int 1, dp, .int 1, shp, rfl, v, rfl, i, 6, hi, rfl, v, rfl, v, i, rfl, hi, lg, v, rfl, sl1, fun p1 n1 => ⟨(show 7 ≤ sizeLine by decide), fun p2 n2 => ?_⟩⟩
      have s1 := same_upd (o := HO.tup [v]) n1
      have o1 := D1.out n1
      have s2 := same_upd (o := HO.lst [V.int (i + 1), .int (i - 1), .int (-1 - i), .bl (PyData.eqv dd (.int 1)), .int (i + 6), .str (NumZ.strZ v), .ref p1]) n2
      have e1 := s2 _ _ (show (upd H1 p1 (.tup [v])) p1 = _ from upd_same)
      have sA := s1.trans s2
      generalize h9 : upd _ p2 _ = H9
      replace sA : Same H1 H9 := by rw [← h9]; exact sA
      replace e1 : H9 p1 = some (.tup [v]) := by rw [← h9]; exact e1
      have e9 : H9 p2 = some (.lst [V.int (i + 1), .int (i - 1), .int (-1 - i), .bl (PyData.eqv dd (.int 1)), .int (i + 6), .str (NumZ.strZ v), .ref p1]) := by rw [← h9]; exact upd_same
      have all : ShAll (hid as H9) [V.int (i + 1), .int (i - 1), .int (-1 - i), .bl (PyData.eqv dd (.int 1)), .int (i + 6), .str (NumZ.strZ v), .ref p1] [.int (i + 1), .int (i - 1), .int (-1 - i), .bool (PyData.eqv dd (.int 1)), .int (i + 6), .str (NumZ.strZ v), .tuple [dd]] :=
        .cons (.int _) (.cons (.int _) (.cons (.int _) (.cons (.bl _) (.cons (.int _) (.cons (.str _) (.cons (.tup (by rw [hid_at o1]; exact e1) (.cons (sh1.same (hid_same sA)) .nil)) .nil))))))
      have fI : ∀ j : Int, j.natAbs ≤ B + 9 → Fit (B + 10 ^ 39 + 10) (2 * N + 400) (M + 3) (.int j) := fun j hj => by
        refine ⟨decide_eq_true (Nat.le_trans hj (Nat.le_trans (by omega) (b39 B))), ?_, Nat.zero_le _⟩
        show (if j == 0 then 0 else j.natAbs.log2 + 1) ≤ _
        split
        · exact Nat.zero_le _
        · have := small_log (B := B + 9) hj (by omega)
          omega
      have fits : ∀ x ∈ [PyData.int (i + 1), .int (i - 1), .int (-1 - i), .bool (PyData.eqv dd (.int 1)), .int (i + 6), .str (NumZ.strZ v), .tuple [dd]], Fit (B + 10 ^ 39 + 10) (2 * N + 400) (M + 3) x := by
        intro x hx
        rcases List.mem_cons.mp hx with rfl | hx
        · exact fI _ (by omega)
        rcases List.mem_cons.mp hx with rfl | hx
        · exact fI _ (by omega)
        rcases List.mem_cons.mp hx with rfl | hx
        · exact fI _ (by omega)
        rcases List.mem_cons.mp hx with rfl | hx
        · exact ⟨rfl, Nat.zero_le _, Nat.zero_le _⟩
        rcases List.mem_cons.mp hx with rfl | hx
        · exact fI _ (by omega)
        rcases List.mem_cons.mp hx with rfl | hx
        · exact fit_strZ (k := 200) hi (by decide) (by have := small_log (B := B + 1) bi (by omega); omega) (by omega)
        · rw [List.mem_singleton.mp hx]
          exact (Fit.tup (FitL.one fit)).mono (Nat.le_trans (Nat.le_add_right B 10) (b39 B)) (by omega) (by omega)
      obtain ⟨x, dx, hx, sx, fx⟩ := pick_sh all fits (j := way - 1) (by omega) (show way - 1 < 7 by omega)
      refine ⟨.int way, rfl, _, _, rfl, rfl, p2, _, way - 1, x, rfl, rfl, SqL.of e9, hx, ?_⟩
      exact fin x _ dx 1 (D1.same sA) (by decide) (fr1.trans (Fr.of sA)) sx fx
    · have f3 : ∀ u : Int, 0 ≤ u → u < 3 → Fit (B + 10 ^ 39 + 10) (2 * N + 400) (M + 3) (.tuple [.int u]) := fun u a b => by
        have f : Fit 3 399 0 (.int u) := by
          refine ⟨decide_eq_true (by omega), ?_, Nat.zero_le _⟩
          show (if u == 0 then 0 else u.natAbs.log2 + 1) ≤ _
          split
          · exact Nat.zero_le _
          · have := small_log (i := u) (B := 3) (by omega) (by decide)
            omega
        exact (Fit.tup (FitL.one f)).mono (Nat.le_trans (show 3 ≤ B + 10 by omega) (b39 B)) (by omega) (by omega)
      refine ⟨v, rfl, _, _, _, _, _, rfl, .ty _, shH.ty, kit_ty (kitTup dd), _, rfl, ite2 (fun nt => ?_) (fun it => ?_)⟩
      · refine ite2 (fun _ => ?_) (fun z => absurd rfl z)
        refine ⟨.ref d, rfl, d, l, 3, _, rfl, D1.d1, by omega, by decide, by decide, fun H2 u D2 fr2 u0 u1 => ⟨sl1, fun p np => ?_⟩⟩
        replace D2 := D1.fr D2 fr2
        have s3 := same_upd (o := HO.tup [V.int u]) np
        exact fin (.ref p) _ _ 2 ((D2.same s3).mono (by omega)) (by decide) ((fr1.trans fr2).trans (Fr.of s3)) (sh_tup (D2.same s3) upd_same (.cons (.int _) .nil)) (f3 u u0 u1)
      have it' : isTupD dd = true := by
        cases hb : isTupD dd
        · rw [hb] at it
          exact absurd rfl it
        · rfl
      obtain ⟨ds, rfl⟩ := tup_of it'
      cases sh1 with
      | @tup a xs _ ha0 t =>
        have ha : H1 a = some (.tup xs) := hid_le _ _ ha0
        have oa := D1.tupOut ha
        have oad : a ≠ d := fun z => oa (by rw [z]; exact D.hd)
        have oal : a ≠ l := fun z => oa (by rw [z]; exact D.hl)
        refine ⟨.ref a, rfl, Nat.zero_le _, fun p0 n0 => ⟨a, p0, xs, rfl, rfl, SqT.of (same_upd n0 _ _ ha), SqT.of upd_same, _, rfl, ?_⟩⟩
        have s0 := same_upd (o := HO.tup []) n0
        generalize hh2 : upd H1 p0 _ = H2
        replace s0 : Same H1 H2 := by rw [← hh2]; exact s0
        clear hh2
        have D2 := D1.same s0
        refine ite2 (fun em => ?_) (fun ne => ?_)
        · refine ⟨.ref d, rfl, d, l, 3, _, rfl, D2.d1, by omega, by decide, by decide, fun H3 u D3 fr3 u0 u1 => ⟨sl1, fun p np => ?_⟩⟩
          replace D3 := D2.fr D3 fr3
          have s3 := same_upd (o := HO.tup [V.int u]) np
          exact fin (.ref p) _ _ 2 ((D3.same s3).mono (by omega)) (by decide) (((fr1.trans (Fr.of s0)).trans fr3).trans (Fr.of s3)) (sh_tup (D3.same s3) upd_same (.cons (.int _) .nil)) (f3 u u0 u1)
        obtain ⟨x0, hx0⟩ : ∃ x0, xs[0]? = some x0 := by
          cases xs with
          | nil => exact absurd rfl ne
          | cons y r => exact ⟨y, rfl⟩
        have pos : 0 < xs.length := (List.getElem?_eq_some_iff.mp hx0).1
        obtain ⟨m, rfl⟩ : ∃ m, M = m + 1 := by
          cases M with
          | zero => exact absurd fit.2.2 (Nat.not_succ_le_zero _)
          | succ m => exact ⟨m, rfl⟩
        have fl : FitL B N m ds := fit.inv
        have lx := t.length
        have lN : xs.length ≤ N := by
          rw [lx]
          exact Nat.le_trans (len_weight ds) fl.2.1
        have big : ∀ k : Nat, k ≤ 2 * N + 100 → k ≤ sizeLine := fun k hk => Nat.le_trans hk (Nat.le_trans (show 2 * N + 100 ≤ 40000 by omega) (by decide))
        have tkl : ∀ j, (xs.take j).length ≤ N := fun j => by rw [List.length_take]; omega
        have drl : ∀ j, (xs.drop j).length ≤ N := fun j => Nat.le_trans (by rw [List.length_drop]; exact Nat.sub_le _ _) lN
        refine ⟨.ref d, rfl, .ref a, rfl, a, xs, rfl, .inr (SqT.of (s0 _ _ ha)), d, l, _, _, rfl, D2.d1, by omega, by omega, by omega, fun H3 ki D3 fr3 k0 k1 => ?_⟩
        replace D3 := D2.fr D3 fr3
        obtain ⟨k, rfl⟩ := Int.eq_ofNat_of_zero_le k0
        have hk : k < xs.length := by omega
        have ha3 : H3 a = some (.tup xs) := fr3 _ _ oad oal (s0 _ _ ha)
        have t3 : ShAll (hid as H3) xs ds := t.same ((hid_same s0).trans (hid_fr fr3 D.hd D.hl))
        -- t[:at] + t[at + 1:]
        refine ⟨.ref a, rfl, .int k, rfl, (k : Int), rfl, slA ha3 fun q1 H4 s4 h4 => ?_⟩
        rw [cut_to] at h4
        refine ⟨.ref a, rfl, .int k, rfl, _, _, rfl, rfl, ((k + 1 : Nat) : Int), rfl, slAn (s4 _ _ ha3) fun q2 H5 s5 h5 => ?_⟩
        rw [cut_from] at h5
        refine catA (s5 _ _ h4) h5 ?_ fun q3 H6 s6 h6 => ?_
        · have := tkl k
          have := drl (k + 1)
          exact big _ (by omega)
        have g6 := (s4.trans s5).trans s6
        -- t[:at + 1] + t[at:]
        refine ⟨.ref a, rfl, .int k, rfl, _, _, rfl, rfl, ((k + 1 : Nat) : Int), rfl, slA (g6 _ _ ha3) fun q4 H7 s7 h7 => ?_⟩
        rw [cut_to] at h7
        refine ⟨.ref a, rfl, .int k, rfl, (k : Int), rfl, slAn ((g6.trans s7) _ _ ha3) fun q5 H8 s8 h8 => ?_⟩
        rw [cut_from] at h8
        refine catA (s8 _ _ h7) h8 ?_ fun q6 H9 s9 h9 => ?_
        · have := tkl (k + 1)
          have := drl k
          exact big _ (by omega)
        have g9 := ((g6.trans s7).trans s8).trans s9
        -- t[::-1], list(t)
        refine ⟨.ref a, rfl, a, xs, rfl, SqT.of (g9 _ _ ha3), fun q7 n7 => ?_⟩
        have s10 := same_upd (o := HO.tup xs.reverse) n7
        have h10 : (upd H9 q7 (.tup xs.reverse)) q7 = _ := upd_same
        generalize hh10 : upd H9 q7 _ = H10
        replace s10 : Same H9 H10 := by rw [← hh10]; exact s10
        replace h10 : H10 q7 = some (.tup xs.reverse) := by rw [← hh10]; exact h10
        clear hh10
        refine ⟨.ref a, rfl, a, xs, rfl, SqT.of ((g9.trans s10) _ _ ha3), fun q8 n8 m8 => ?_⟩
        have s11 := same_upd (o := HO.lst xs) n8
        have o8 := (D3.same (g9.trans s10)).out n8
        have h11 : (upd H10 q8 (.lst xs)) q8 = _ := upd_same
        generalize hh11 : upd H10 q8 _ = H11
        replace s11 : Same H10 H11 := by rw [← hh11]; exact s11
        replace h11 : H11 q8 = some (.lst xs) := by rw [← hh11]; exact h11
        clear hh11
        refine ⟨(show 4 ≤ sizeLine by decide), fun q9 n9 => ?_⟩
        have s12 := same_upd (o := HO.lst [V.ref q3, .ref q6, .ref q7, .ref q8]) n9
        have h12 : (upd H11 q9 (.lst [V.ref q3, .ref q6, .ref q7, .ref q8])) q9 = _ := upd_same
        generalize hh12 : upd H11 q9 _ = H12
        replace s12 : Same H11 H12 := by rw [← hh12]; exact s12
        replace h12 : H12 q9 = some (.lst [V.ref q3, .ref q6, .ref q7, .ref q8]) := by rw [← hh12]; exact h12
        clear hh12
        have g12 := ((g9.trans s10).trans s11).trans s12
        have ha12 := g12 _ _ ha3
        -- put, one more, the part
        refine ⟨.ref q9, rfl, .ref a, rfl, .int k, rfl, .ref a, rfl, a, xs, 0, x0, rfl, rfl, SqT.of ha12, atI_nat (j := 0) hx0, a, k, x0, xs, rfl, ha12, hk, by omega, fun r1 H13 s13 h13 => ?_⟩
        obtain ⟨xk, hxk⟩ : ∃ xk, xs[k]? = some xk := ⟨_, List.getElem?_eq_getElem hk⟩
        have ha13 := s13 _ _ ha12
        refine ⟨.ref a, rfl, .ref a, rfl, .int k, rfl, a, xs, (k : Int), xk, rfl, rfl, SqT.of ha13, atI_nat hxk, sl1, fun r2 n14 => ?_⟩
        have s14 := same_upd (o := HO.tup [xk]) n14
        have h14 : (upd H13 r2 (.tup [xk])) r2 = _ := upd_same
        generalize hh14 : upd H13 r2 _ = H14
        replace s14 : Same H13 H14 := by rw [← hh14]; exact s14
        replace h14 : H14 r2 = some (.tup [xk]) := by rw [← hh14]; exact h14
        clear hh14
        refine catA (s14 _ _ ha13) h14 ?_ fun r3 H15 s15 h15 => ?_
        · exact big _ (show xs.length + 1 ≤ _ by omega)
        have ha15 := s15 _ _ (s14 _ _ ha13)
        refine ⟨.ref a, rfl, .int k, rfl, a, xs, (k : Int), xk, rfl, rfl, SqT.of ha15, atI_nat hxk, (show 3 ≤ sizeLine by decide), fun r4 n16 => ?_⟩
        have s16 := same_upd (o := HO.lst [V.ref r1, .ref r3, xk]) n16
        have h16 : (upd H15 r4 (.lst [V.ref r1, .ref r3, xk])) r4 = _ := upd_same
        generalize hh16 : upd H15 r4 _ = H16
        replace s16 : Same H15 H16 := by rw [← hh16]; exact s16
        replace h16 : H16 r4 = some (.lst [V.ref r1, .ref r3, xk]) := by rw [← hh16]; exact h16
        clear hh16
        have g16 := ((s13.trans s14).trans s15).trans s16
        refine ⟨q9, r4, _, _, rfl, rfl, g16 _ _ h12, h16, (show 4 + 3 ≤ sizeLine by decide), fun r5 n17 => ?_⟩
        have s17 := same_upd (o := HO.lst ([V.ref q3, .ref q6, .ref q7, .ref q8] ++ [V.ref r1, .ref r3, xk])) n17
        have h17 : (upd H16 r5 (.lst ([V.ref q3, .ref q6, .ref q7, .ref q8] ++ [V.ref r1, .ref r3, xk]))) r5 = _ := upd_same
        generalize hh17 : upd H16 r5 _ = H17
        replace s17 : Same H16 H17 := by rw [← hh17]; exact s17
        replace h17 : H17 r5 = some (.lst [V.ref q3, .ref q6, .ref q7, .ref q8, .ref r1, .ref r3, xk]) := by rw [← hh17]; exact h17
        clear hh17
        have gA := (g12.trans g16).trans s17
        have t17 := t3.same (hid_same gA)
        have D17 := D3.same gA
        obtain ⟨d0, hd0, sd0⟩ := t17.get hx0
        obtain ⟨dk, hdk, sdk⟩ := t17.get hxk
        have z16 := g16.trans s17
        have z11 := s12.trans z16
        have z10 := s11.trans z11
        have z9 := s10.trans z10
        have e3 := ((s7.trans s8).trans (s9.trans z9)) _ _ h6
        have e6 := z9 _ _ h9
        have e7 := z10 _ _ h10
        have e8 := z11 _ _ h11
        have e1 := (((s14.trans s15).trans s16).trans s17) _ _ h13
        rw [← set_put hk] at e1
        have e15 := (s16.trans s17) _ _ h15
        have all : ShAll (hid as H17) [V.ref q3, .ref q6, .ref q7, .ref q8, .ref r1, .ref r3, xk] [.tuple (ds.take k ++ ds.drop (k + 1)), .tuple (ds.take (k + 1) ++ ds.drop k), .tuple ds.reverse, .list ds, .tuple ((ds.take k ++ [d0]) ++ ds.drop (k + 1)), .tuple (ds ++ [dk]), dk] :=
          .cons (sh_tup D17 e3 ((t17.take k).append (t17.drop (k + 1)))) (.cons (sh_tup D17 e6 ((t17.take (k + 1)).append (t17.drop k))) (.cons (sh_tup D17 e7 t17.rev) (.cons (.lst (by rw [hid_at o8]; exact e8) m8 t17) (.cons (sh_tup D17 e1 (((t17.take k).append (.cons sd0 .nil)).append (t17.drop (k + 1)))) (.cons (sh_tup D17 e15 (t17.append (.cons sdk .nil))) (.cons sdk .nil))))))
        have wB : B ≤ B + 10 ^ 39 + 10 := Nat.le_trans (Nat.le_add_right B 10) (b39 B)
        have cl : ∀ n' m' x, Fit B n' m' x → n' ≤ 2 * N + 400 → m' ≤ m + 1 + 3 → Fit (B + 10 ^ 39 + 10) (2 * N + 400) (m + 1 + 3) x := fun n' m' x f a b => f.mono wB a b
        have f0 := fl.get hd0
        have fk := fl.get hdk
        have fits : ∀ x ∈ [PyData.tuple (ds.take k ++ ds.drop (k + 1)), .tuple (ds.take (k + 1) ++ ds.drop k), .tuple ds.reverse, .list ds, .tuple ((ds.take k ++ [d0]) ++ ds.drop (k + 1)), .tuple (ds ++ [dk]), dk], Fit (B + 10 ^ 39 + 10) (2 * N + 400) (m + 1 + 3) x := by
          intro x hx
          rcases List.mem_cons.mp hx with rfl | hx
          · exact cl _ _ _ (Fit.tup ((fl.take k).app (fl.drop (k + 1)))) (by omega) (by omega)
          rcases List.mem_cons.mp hx with rfl | hx
          · exact cl _ _ _ (Fit.tup ((fl.take (k + 1)).app (fl.drop k))) (by omega) (by omega)
          rcases List.mem_cons.mp hx with rfl | hx
          · exact cl _ _ _ (Fit.tup fl.rev) (by omega) (by omega)
          rcases List.mem_cons.mp hx with rfl | hx
          · exact cl _ _ _ (Fit.lst fl) (by omega) (by omega)
          rcases List.mem_cons.mp hx with rfl | hx
          · exact cl _ _ _ (fit_put hdk fl f0) (by omega) (by omega)
          rcases List.mem_cons.mp hx with rfl | hx
          · exact cl _ _ _ (Fit.tup (fl.app (FitL.one fk))) (by omega) (by omega)
          · rw [List.mem_singleton.mp hx]
            exact cl _ _ _ fk (by omega) (by omega)
        obtain ⟨x, dx, hx, sx, fx⟩ := pick_sh all fits (j := way - 1) (by omega) (show way - 1 < 7 by omega)
        refine ⟨.int way, rfl, _, _, rfl, rfl, r5, _, way - 1, x, rfl, rfl, SqL.of h17, hx, ?_⟩
        exact fin x _ dx 2 (D17.mono (by omega)) (by decide) (((fr1.trans (Fr.of s0)).trans fr3).trans (Fr.of gA)) sx fx

end
end Gk

set_option Elab.async false
set_option linter.all false
set_option maxRecDepth 100000
set_option maxHeartbeats 1000000
set_option pp.maxSteps 1500
set_option pp.deepTerms false
namespace Gk
open PySem PySem.Spec PyProof.Rows L2
section
variable {P : Program} {w : World} {K : PySem.W.Frag} {mg : Str → Option Value} {base : Heap}
/-! ### something spoilt within -/
theorem never_ok {f : Addr} {fd : FuncData} {ps : List Str} : FnOk P w K mg base CX0 0 f fd ps (fun _ _ _ _ => False) := ⟨fun _ _ _ _ h => h.elim, fun _ _ _ _ _ _ _ _ _ _ _ _ _ h => h.elim⟩
def sp_spoilt (K : PySem.W.Frag) (e : Nat) : Sp := fun vs H Q _ => ∃ (as : List Addr) (d l : Addr) (n : Int) (v : V) (dd : PyData) (B N M : Nat), vs = [.ref d, v, .int (e : Int)] ∧ DA as H d l n ∧ n + 10 * (e : Int) < 900000 ∧ Sh (hid as H) v dd ∧ Fit B N M dd ∧ B < 2 ^ 180 ∧ N ≤ 10000 ∧
  ∀ v' H' dd', DA as H' d l (n + 5 + 2 * (e : Int)) → Fr d l H H' → Sh (hid as H') v' dd' → Fit (B + 10 ^ 39 + 10) (2 * N + 400 + e) (M + 3) dd' → Q v' H'
theorem ok_spoilt0 (T : Tx K mg) : FnOk P w K mg base CX0 4 T.f_spoilt T.fd_spoilt ["_law_deck_here", "_law_thing", "_law_deep"] (sp_spoilt K 0) := by
  refine T.F_spoilt.ok sc_spoilt (fun vs H Q E h => ?_) (fun cdv A outer s H vs Q E hr h => ?_)
  · obtain ⟨as, d, l, n, v, dd, B, N, M, rfl, _⟩ := h
    rfl
  · obtain ⟨as, d, l, n, v, dd, B, N, M, rfl, D, hn, sh, fit, hB, hN, q⟩ := h
    refine ⟨_, (pss_cons (ps_if (pw_or (pt_cmpR op_eq (pv 2) pe_int (nomark _)) (pw_or (pt_not (pt_val (pe_callB call_isi (by rfl) T.m_isinstance (by decide +kernel) (pa_cons (pv 1) (pa_cons (pe_bltn (v := .ty "tuple") (u := .type "tuple") (by rfl) T.m_tuple (by decide +kernel) rfl) pa_nil))))) (pw_or (pt_cmpR (TupRev.op_eqE hr.units) (pv 1) (pe_tup pa_nil) (nomark _)) (pw_or1 (pt_cmpR op_eq (pe_call (ok_take T) (hr.mono (by decide)) (by rfl) T.g_take T.F_take.kp T.b_take .nil pass0 (pa_cons (pv 0) (pa_cons pe_int pa_nil))) pe_int (nomark _)))))).pt (pss_one (ps_ret (pe_call (ok_other T) (hr.mono (by decide)) (by rfl) T.g_other T.F_other.kp T.b_other .nil pass0 (pa_cons (pv 0) (pa_cons (pv 1) pa_nil))))) pss_nil) (pss_cons (ps_set (i := 3) sc_spoilt.nd rfl (by first | exact .inl rfl | exact .inr rfl) (pe_call (ok_take T) (hr.mono (by decide)) (by rfl) T.g_take T.F_take.kp T.b_take .nil pass0 (pa_cons (pv 0) (pa_cons (pe_callB call_len_seq (by rfl) T.m_len PySem.boot_len (pa_cons (pv 1) pa_nil)) pa_nil)))) (pss_one (ps_ret (pe_call (ok_put T) (hr.mono (by decide)) (by rfl) T.g_put T.F_put.kp T.b_put .nil pass0 (pa_cons (pv 1) (pa_cons (pv 3) (pa_cons (pe_call (never_ok) (hr.mono (by decide)) (by rfl) T.g_spoilt T.F_spoilt.kp T.b_spoilt .nil pass0 (pa_cons (pv 0) (pa_cons (pe_ix ix_tup (pv 1) (pv 3) (fun _ _ => rfl)) (pa_cons (pe_op op_sub (pv 2) pe_int) pa_nil)))) pa_nil)))))))), ?_⟩
    refine ⟨.int 0, rfl, rfl, _, rfl, ite2 (fun _ => ?_) (fun z => absurd rfl z)⟩
    refine ite2 (fun _ => ?_) (fun z => absurd rfl z)
    refine ⟨.ref d, rfl, v, rfl, as, d, l, n, v, dd, B, N, M, rfl, D, by omega, sh, fit, hB, hN, fun v' H' dd' D' fr' sh' fit' => ?_⟩
    exact q v' H' dd' (D'.mono (by omega)) fr' sh' (fit'.mono (Nat.le_refl _) (by omega) (Nat.le_refl _))
theorem FitL.mono {B n m B' n' m' : Nat} {ds : List PyData} (h : FitL B n m ds) (a : B ≤ B') (b : n ≤ n') (c : m ≤ m') : FitL B' n' m' ds := ⟨gds_iff.mpr fun x hx => gd_mono a (gds_iff.mp h.1 x hx), Nat.le_trans h.2.1 b, Nat.le_trans h.2.2 c⟩
theorem fit_put2 {B n n' m k : Nat} {ds : List PyData} {dk d0 : PyData} (hk : ds[k]? = some dk) (fl : FitL B n m ds) (f0 : Fit B n' m d0) : Fit B (n + n' + 1) (m + 1) (.tuple ((ds.take k ++ [d0]) ++ ds.drop (k + 1))) := by
  have e : ds = ds.take k ++ ([dk] ++ ds.drop (k + 1)) := by
    obtain ⟨hl, e'⟩ := List.getElem?_eq_some_iff.mp hk
    rw [← e', List.singleton_append, List.getElem_cons_drop, List.take_append_drop]
  have w : PyData.weightAll (ds.take k) + (PyData.weightAll [dk] + PyData.weightAll (ds.drop (k + 1))) ≤ n := by
    rw [← weight_app, ← weight_app, ← e]
    exact fl.2.1
  have one := FitL.one f0
  have a := ((fl.take k).app one).app (fl.drop (k + 1))
  refine Fit.tup ⟨a.1, ?_, a.2.2⟩
  rw [weight_app, weight_app]
  have := one.2.1
  omega
theorem fit_put3 {B n m k c : Nat} {ds : List PyData} {dk d0 : PyData} (hk : ds[k]? = some dk) (fl : FitL B n m ds) (f0 : Fit B (2 * dk.weight + c) m d0) : Fit B (2 * n + c) (m + 1) (.tuple ((ds.take k ++ [d0]) ++ ds.drop (k + 1))) := by
  have e : ds = ds.take k ++ ([dk] ++ ds.drop (k + 1)) := by
    obtain ⟨hl, e'⟩ := List.getElem?_eq_some_iff.mp hk
    rw [← e', List.singleton_append, List.getElem_cons_drop, List.take_append_drop]
  have w : PyData.weightAll (ds.take k) + ((dk.weight + 1 + 0) + PyData.weightAll (ds.drop (k + 1))) ≤ n := by
    have h : PyData.weightAll (ds.take k) + (PyData.weightAll [dk] + PyData.weightAll (ds.drop (k + 1))) ≤ n := by
      rw [← weight_app, ← weight_app, ← e]
      exact fl.2.1
    exact h
  have one := FitL.one f0
  have a := ((fl.take k).app one).app (fl.drop (k + 1))
  refine Fit.tup ⟨a.1, ?_, a.2.2⟩
  rw [weight_app, weight_app]
  have := f0.2.1
  have e1 : PyData.weightAll [d0] = d0.weight + 1 + 0 := rfl
  rw [e1]
  omega
theorem ok_spoilt1 (T : Tx K mg) : FnOk P w K mg base CX0 5 T.f_spoilt T.fd_spoilt ["_law_deck_here", "_law_thing", "_law_deep"] (sp_spoilt K 1) := by
  refine T.F_spoilt.ok sc_spoilt (fun vs H Q E h => ?_) (fun cdv A outer s H vs Q E hr h => ?_)
  · obtain ⟨as, d, l, n, v, dd, B, N, M, rfl, _⟩ := h
    rfl
  · obtain ⟨as, d, l, n, v, dd, B, N, M, rfl, D, hn, sh, fit, hB, hN, q⟩ := h
    refine ⟨_, (pss_cons (ps_if (pw_or (pt_cmpR op_eq (pv 2) pe_int (nomark _)) (pw_or (pt_not (pt_val (pe_callB call_isi (by rfl) T.m_isinstance (by decide +kernel) (pa_cons (pv 1) (pa_cons (pe_bltn (v := .ty "tuple") (u := .type "tuple") (by rfl) T.m_tuple (by decide +kernel) rfl) pa_nil))))) (pw_or (pt_cmpR (TupRev.op_eqE hr.units) (pv 1) (pe_tup pa_nil) (nomark _)) (pw_or1 (pt_cmpR op_eq (pe_call (ok_take T) (hr.mono (by decide)) (by rfl) T.g_take T.F_take.kp T.b_take .nil pass0 (pa_cons (pv 0) (pa_cons pe_int pa_nil))) pe_int (nomark _)))))).pt (pss_one (ps_ret (pe_call (ok_other T) (hr.mono (by decide)) (by rfl) T.g_other T.F_other.kp T.b_other .nil pass0 (pa_cons (pv 0) (pa_cons (pv 1) pa_nil))))) pss_nil) (pss_cons (ps_set (i := 3) sc_spoilt.nd rfl (by first | exact .inl rfl | exact .inr rfl) (pe_call (ok_take T) (hr.mono (by decide)) (by rfl) T.g_take T.F_take.kp T.b_take .nil pass0 (pa_cons (pv 0) (pa_cons (pe_callB call_len_seq (by rfl) T.m_len PySem.boot_len (pa_cons (pv 1) pa_nil)) pa_nil)))) (pss_one (ps_ret (pe_call (ok_put T) (hr.mono (by decide)) (by rfl) T.g_put T.F_put.kp T.b_put .nil pass0 (pa_cons (pv 1) (pa_cons (pv 3) (pa_cons (pe_call (ok_spoilt0 T) (hr.mono (by decide)) (by rfl) T.g_spoilt T.F_spoilt.kp T.b_spoilt .nil pass0 (pa_cons (pv 0) (pa_cons (pe_ix ix_tup (pv 1) (pv 3) (fun _ _ => rfl)) (pa_cons (pe_op op_sub (pv 2) pe_int) pa_nil)))) pa_nil)))))))), ?_⟩
    have oth : ∀ H1 (j : Int) X, DA as H1 d l (n + j) → 0 ≤ j → j ≤ 1 → Fr d l H H1 → Sh (hid as H1) v dd → sp_other K [.ref d, v] H1 Q X := fun H1 j X D1 j0 j1 fr1 sh1 =>
      ⟨as, d, l, n + j, v, dd, B, N, M, rfl, D1, by omega, sh1, fit, hB, hN, fun v' H' dd' D' fr' sh' fit' => q v' H' dd' (D'.mono (by omega)) (fr1.trans fr') sh' (fit'.mono (Nat.le_refl _) (by omega) (Nat.le_refl _))⟩
    have shH : Sh H v dd := sh.same hid_le
    refine ⟨_, rfl, rfl, _, rfl, ite2 (fun z => ?_) (fun _ => ?_)⟩
    · exact absurd (V.int.inj (of_decide_eq_true z)) (by decide)
    refine ⟨v, rfl, _, _, _, _, _, rfl, .ty _, shH.ty, kit_ty (kitTup dd), _, rfl, ite2 (fun nt => ?_) (fun it => ?_)⟩
    · refine ite2 (fun _ => ?_) (fun z => absurd rfl z)
      exact ⟨.ref d, rfl, v, rfl, oth H 0 E0 (D.mono (by omega)) (by decide) (by decide) (fun _ _ _ _ e => e) sh⟩
    have it' : isTupD dd = true := by
      cases hb : isTupD dd
      · rw [hb] at it
        exact absurd rfl it
      · rfl
    obtain ⟨ds, rfl⟩ := tup_of it'
    obtain ⟨a, xs, rfl, ha0, t⟩ : ∃ a xs, v = .ref a ∧ hid as H a = some (.tup xs) ∧ ShAll (hid as H) xs ds := by
      cases sh with
      | @tup a xs _ ha0 t => exact ⟨a, xs, rfl, ha0, t⟩
    have ha : H a = some (.tup xs) := hid_le _ _ ha0
    have oa := D.tupOut ha
    have oad : a ≠ d := fun z => oa (by rw [z]; exact D.hd)
    have oal : a ≠ l := fun z => oa (by rw [z]; exact D.hl)
    refine ⟨.ref a, rfl, Nat.zero_le _, fun p0 n0 => ⟨a, p0, xs, rfl, rfl, SqT.of (same_upd n0 _ _ ha), SqT.of upd_same, _, rfl, ?_⟩⟩
    have s0 := same_upd (o := HO.tup []) n0
    generalize hh2 : upd H p0 _ = H2
    replace s0 : Same H H2 := by rw [← hh2]; exact s0
    clear hh2
    have D2 := D.same s0
    refine ite2 (fun em => ?_) (fun ne => ?_)
    · refine ite2 (fun _ => ?_) (fun z => absurd rfl z)
      exact ⟨.ref d, rfl, .ref a, rfl, oth H2 0 E0 (D2.mono (by omega)) (by decide) (by decide) (Fr.of s0) (sh.same (hid_same s0))⟩
    refine ⟨.ref d, rfl, d, l, 5, _, rfl, D2.d1, by omega, by decide, by decide, fun H3 u D3 fr3 u0 u1 => ⟨rfl, _, rfl, ?_⟩⟩
    replace D3 := D2.fr D3 fr3
    have f3 := (Fr.of s0).trans fr3
    have sh3 := sh.same (hid_fr f3 D.hd D.hl)
    refine ite2 (fun _ => ?_) (fun _ => ?_)
    · exact ⟨.ref d, rfl, .ref a, rfl, oth H3 1 E0 D3 (by decide) (by decide) f3 sh3⟩
    have pos : 0 < xs.length := by
      cases xs with
      | nil => exact absurd rfl ne
      | cons y r => exact Nat.succ_pos _
    obtain ⟨m, rfl⟩ : ∃ m, M = m + 1 := by
      cases M with
      | zero => exact absurd fit.2.2 (Nat.not_succ_le_zero _)
      | succ m => exact ⟨m, rfl⟩
    have fl : FitL B N m ds := fit.inv
    have lx := t.length
    have lN : xs.length ≤ N := by
      rw [lx]
      exact Nat.le_trans (len_weight ds) fl.2.1
    have ha3 : H3 a = some (.tup xs) := f3 _ _ oad oal ha
    refine ⟨.ref d, rfl, .ref a, rfl, a, xs, rfl, .inr (SqT.of ha3), d, l, _, _, rfl, D3.d1, by omega, by omega, by omega, fun H4 ki D4 fr4 k0 k1 => ?_⟩
    replace D4 := D3.fr D4 fr4
    obtain ⟨k, rfl⟩ := Int.eq_ofNat_of_zero_le k0
    have hk : k < xs.length := by omega
    have f4 := f3.trans fr4
    have ha4 : H4 a = some (.tup xs) := f4 _ _ oad oal ha
    obtain ⟨xk, hxk⟩ : ∃ xk, xs[k]? = some xk := ⟨_, List.getElem?_eq_getElem hk⟩
    obtain ⟨dk, hdk, sdk⟩ := (t.same (hid_fr f4 D.hd D.hl)).get hxk
    have fk := fl.get hdk
    refine ⟨.ref a, rfl, .int k, rfl, .ref d, rfl, .ref a, rfl, .int k, rfl, a, xs, (k : Int), xk, rfl, rfl, SqT.of ha4, atI_nat hxk, _, rfl, _, _, rfl, rfl, ?_⟩
    refine ⟨as, d, l, _, xk, dk, B, dk.weight, m, rfl, D4, by omega, sdk, ⟨fk.1, Nat.le_refl _, fk.2.2⟩, hB, Nat.le_trans fk.2.1 hN, fun v' H5 dd' D5 fr5 sh5 fit5 => ?_⟩
    have f5 := f4.trans fr5
    refine ⟨a, k, v', xs, rfl, f5 _ _ oad oal ha, hk, by omega, fun r H6 s6 h6 => ?_⟩
    rw [← set_put hk] at h6
    have D6 := D5.same s6
    have t6 : ShAll (hid as H6) xs ds := t.same (hid_fr (f5.trans (Fr.of s6)) D.hd D.hl)
    have wB : B ≤ B + 10 ^ 39 + 10 := Nat.le_trans (Nat.le_add_right B 10) (b39 B)
    refine q _ _ _ (D6.mono (by omega)) (f5.trans (Fr.of s6)) (sh_tup D6 h6 (((t6.take k).append (.cons (sh5.same (hid_same s6)) .nil)).append (t6.drop (k + 1)))) ?_
    exact (fit_put3 (c := 400 + 0) hdk (fl.mono wB (Nat.le_refl _) (by omega)) (fit5.mono (Nat.le_refl _) (by omega) (Nat.le_refl _))).mono (Nat.le_refl _) (by omega) (by omega)
theorem ok_spoilt2 (T : Tx K mg) : FnOk P w K mg base CX0 6 T.f_spoilt T.fd_spoilt ["_law_deck_here", "_law_thing", "_law_deep"] (sp_spoilt K 2) := by
  refine T.F_spoilt.ok sc_spoilt (fun vs H Q E h => ?_) (fun cdv A outer s H vs Q E hr h => ?_)
  · obtain ⟨as, d, l, n, v, dd, B, N, M, rfl, _⟩ := h
    rfl
  · obtain ⟨as, d, l, n, v, dd, B, N, M, rfl, D, hn, sh, fit, hB, hN, q⟩ := h
    refine ⟨_, (pss_cons (ps_if (pw_or (pt_cmpR op_eq (pv 2) pe_int (nomark _)) (pw_or (pt_not (pt_val (pe_callB call_isi (by rfl) T.m_isinstance (by decide +kernel) (pa_cons (pv 1) (pa_cons (pe_bltn (v := .ty "tuple") (u := .type "tuple") (by rfl) T.m_tuple (by decide +kernel) rfl) pa_nil))))) (pw_or (pt_cmpR (TupRev.op_eqE hr.units) (pv 1) (pe_tup pa_nil) (nomark _)) (pw_or1 (pt_cmpR op_eq (pe_call (ok_take T) (hr.mono (by decide)) (by rfl) T.g_take T.F_take.kp T.b_take .nil pass0 (pa_cons (pv 0) (pa_cons pe_int pa_nil))) pe_int (nomark _)))))).pt (pss_one (ps_ret (pe_call (ok_other T) (hr.mono (by decide)) (by rfl) T.g_other T.F_other.kp T.b_other .nil pass0 (pa_cons (pv 0) (pa_cons (pv 1) pa_nil))))) pss_nil) (pss_cons (ps_set (i := 3) sc_spoilt.nd rfl (by first | exact .inl rfl | exact .inr rfl) (pe_call (ok_take T) (hr.mono (by decide)) (by rfl) T.g_take T.F_take.kp T.b_take .nil pass0 (pa_cons (pv 0) (pa_cons (pe_callB call_len_seq (by rfl) T.m_len PySem.boot_len (pa_cons (pv 1) pa_nil)) pa_nil)))) (pss_one (ps_ret (pe_call (ok_put T) (hr.mono (by decide)) (by rfl) T.g_put T.F_put.kp T.b_put .nil pass0 (pa_cons (pv 1) (pa_cons (pv 3) (pa_cons (pe_call (ok_spoilt1 T) (hr.mono (by decide)) (by rfl) T.g_spoilt T.F_spoilt.kp T.b_spoilt .nil pass0 (pa_cons (pv 0) (pa_cons (pe_ix ix_tup (pv 1) (pv 3) (fun _ _ => rfl)) (pa_cons (pe_op op_sub (pv 2) pe_int) pa_nil)))) pa_nil)))))))), ?_⟩
    have oth : ∀ H1 (j : Int) X, DA as H1 d l (n + j) → 0 ≤ j → j ≤ 1 → Fr d l H H1 → Sh (hid as H1) v dd → sp_other K [.ref d, v] H1 Q X := fun H1 j X D1 j0 j1 fr1 sh1 =>
      ⟨as, d, l, n + j, v, dd, B, N, M, rfl, D1, by omega, sh1, fit, hB, hN, fun v' H' dd' D' fr' sh' fit' => q v' H' dd' (D'.mono (by omega)) (fr1.trans fr') sh' (fit'.mono (Nat.le_refl _) (by omega) (Nat.le_refl _))⟩
    have shH : Sh H v dd := sh.same hid_le
    refine ⟨_, rfl, rfl, _, rfl, ite2 (fun z => ?_) (fun _ => ?_)⟩
    · exact absurd (V.int.inj (of_decide_eq_true z)) (by decide)
    refine ⟨v, rfl, _, _, _, _, _, rfl, .ty _, shH.ty, kit_ty (kitTup dd), _, rfl, ite2 (fun nt => ?_) (fun it => ?_)⟩
    · refine ite2 (fun _ => ?_) (fun z => absurd rfl z)
      exact ⟨.ref d, rfl, v, rfl, oth H 0 E0 (D.mono (by omega)) (by decide) (by decide) (fun _ _ _ _ e => e) sh⟩
    have it' : isTupD dd = true := by
      cases hb : isTupD dd
      · rw [hb] at it
        exact absurd rfl it
      · rfl
    obtain ⟨ds, rfl⟩ := tup_of it'
    obtain ⟨a, xs, rfl, ha0, t⟩ : ∃ a xs, v = .ref a ∧ hid as H a = some (.tup xs) ∧ ShAll (hid as H) xs ds := by
      cases sh with
      | @tup a xs _ ha0 t => exact ⟨a, xs, rfl, ha0, t⟩
    have ha : H a = some (.tup xs) := hid_le _ _ ha0
    have oa := D.tupOut ha
    have oad : a ≠ d := fun z => oa (by rw [z]; exact D.hd)
    have oal : a ≠ l := fun z => oa (by rw [z]; exact D.hl)
    refine ⟨.ref a, rfl, Nat.zero_le _, fun p0 n0 => ⟨a, p0, xs, rfl, rfl, SqT.of (same_upd n0 _ _ ha), SqT.of upd_same, _, rfl, ?_⟩⟩
    have s0 := same_upd (o := HO.tup []) n0
    generalize hh2 : upd H p0 _ = H2
    replace s0 : Same H H2 := by rw [← hh2]; exact s0
    clear hh2
    have D2 := D.same s0
    refine ite2 (fun em => ?_) (fun ne => ?_)
    · refine ite2 (fun _ => ?_) (fun z => absurd rfl z)
      exact ⟨.ref d, rfl, .ref a, rfl, oth H2 0 E0 (D2.mono (by omega)) (by decide) (by decide) (Fr.of s0) (sh.same (hid_same s0))⟩
    refine ⟨.ref d, rfl, d, l, 5, _, rfl, D2.d1, by omega, by decide, by decide, fun H3 u D3 fr3 u0 u1 => ⟨rfl, _, rfl, ?_⟩⟩
    replace D3 := D2.fr D3 fr3
    have f3 := (Fr.of s0).trans fr3
    have sh3 := sh.same (hid_fr f3 D.hd D.hl)
    refine ite2 (fun _ => ?_) (fun _ => ?_)
    · exact ⟨.ref d, rfl, .ref a, rfl, oth H3 1 E0 D3 (by decide) (by decide) f3 sh3⟩
    have pos : 0 < xs.length := by
      cases xs with
      | nil => exact absurd rfl ne
      | cons y r => exact Nat.succ_pos _
    obtain ⟨m, rfl⟩ : ∃ m, M = m + 1 := by
      cases M with
      | zero => exact absurd fit.2.2 (Nat.not_succ_le_zero _)
      | succ m => exact ⟨m, rfl⟩
    have fl : FitL B N m ds := fit.inv
    have lx := t.length
    have lN : xs.length ≤ N := by
      rw [lx]
      exact Nat.le_trans (len_weight ds) fl.2.1
    have ha3 : H3 a = some (.tup xs) := f3 _ _ oad oal ha
    refine ⟨.ref d, rfl, .ref a, rfl, a, xs, rfl, .inr (SqT.of ha3), d, l, _, _, rfl, D3.d1, by omega, by omega, by omega, fun H4 ki D4 fr4 k0 k1 => ?_⟩
    replace D4 := D3.fr D4 fr4
    obtain ⟨k, rfl⟩ := Int.eq_ofNat_of_zero_le k0
    have hk : k < xs.length := by omega
    have f4 := f3.trans fr4
    have ha4 : H4 a = some (.tup xs) := f4 _ _ oad oal ha
    obtain ⟨xk, hxk⟩ : ∃ xk, xs[k]? = some xk := ⟨_, List.getElem?_eq_getElem hk⟩
    obtain ⟨dk, hdk, sdk⟩ := (t.same (hid_fr f4 D.hd D.hl)).get hxk
    have fk := fl.get hdk
    refine ⟨.ref a, rfl, .int k, rfl, .ref d, rfl, .ref a, rfl, .int k, rfl, a, xs, (k : Int), xk, rfl, rfl, SqT.of ha4, atI_nat hxk, _, rfl, _, _, rfl, rfl, ?_⟩
    refine ⟨as, d, l, _, xk, dk, B, dk.weight, m, rfl, D4, by omega, sdk, ⟨fk.1, Nat.le_refl _, fk.2.2⟩, hB, Nat.le_trans fk.2.1 hN, fun v' H5 dd' D5 fr5 sh5 fit5 => ?_⟩
    have f5 := f4.trans fr5
    refine ⟨a, k, v', xs, rfl, f5 _ _ oad oal ha, hk, by omega, fun r H6 s6 h6 => ?_⟩
    rw [← set_put hk] at h6
    have D6 := D5.same s6
    have t6 : ShAll (hid as H6) xs ds := t.same (hid_fr (f5.trans (Fr.of s6)) D.hd D.hl)
    have wB : B ≤ B + 10 ^ 39 + 10 := Nat.le_trans (Nat.le_add_right B 10) (b39 B)
    refine q _ _ _ (D6.mono (by omega)) (f5.trans (Fr.of s6)) (sh_tup D6 h6 (((t6.take k).append (.cons (sh5.same (hid_same s6)) .nil)).append (t6.drop (k + 1)))) ?_
    exact (fit_put3 (c := 400 + 1) hdk (fl.mono wB (Nat.le_refl _) (by omega)) (fit5.mono (Nat.le_refl _) (by omega) (Nat.le_refl _))).mono (Nat.le_refl _) (by omega) (by omega)
theorem ok_spoilt3 (T : Tx K mg) : FnOk P w K mg base CX0 7 T.f_spoilt T.fd_spoilt ["_law_deck_here", "_law_thing", "_law_deep"] (sp_spoilt K 3) := by
  refine T.F_spoilt.ok sc_spoilt (fun vs H Q E h => ?_) (fun cdv A outer s H vs Q E hr h => ?_)
  · obtain ⟨as, d, l, n, v, dd, B, N, M, rfl, _⟩ := h
    rfl
  · obtain ⟨as, d, l, n, v, dd, B, N, M, rfl, D, hn, sh, fit, hB, hN, q⟩ := h
    refine ⟨_, (pss_cons (ps_if (pw_or (pt_cmpR op_eq (pv 2) pe_int (nomark _)) (pw_or (pt_not (pt_val (pe_callB call_isi (by rfl) T.m_isinstance (by decide +kernel) (pa_cons (pv 1) (pa_cons (pe_bltn (v := .ty "tuple") (u := .type "tuple") (by rfl) T.m_tuple (by decide +kernel) rfl) pa_nil))))) (pw_or (pt_cmpR (TupRev.op_eqE hr.units) (pv 1) (pe_tup pa_nil) (nomark _)) (pw_or1 (pt_cmpR op_eq (pe_call (ok_take T) (hr.mono (by decide)) (by rfl) T.g_take T.F_take.kp T.b_take .nil pass0 (pa_cons (pv 0) (pa_cons pe_int pa_nil))) pe_int (nomark _)))))).pt (pss_one (ps_ret (pe_call (ok_other T) (hr.mono (by decide)) (by rfl) T.g_other T.F_other.kp T.b_other .nil pass0 (pa_cons (pv 0) (pa_cons (pv 1) pa_nil))))) pss_nil) (pss_cons (ps_set (i := 3) sc_spoilt.nd rfl (by first | exact .inl rfl | exact .inr rfl) (pe_call (ok_take T) (hr.mono (by decide)) (by rfl) T.g_take T.F_take.kp T.b_take .nil pass0 (pa_cons (pv 0) (pa_cons (pe_callB call_len_seq (by rfl) T.m_len PySem.boot_len (pa_cons (pv 1) pa_nil)) pa_nil)))) (pss_one (ps_ret (pe_call (ok_put T) (hr.mono (by decide)) (by rfl) T.g_put T.F_put.kp T.b_put .nil pass0 (pa_cons (pv 1) (pa_cons (pv 3) (pa_cons (pe_call (ok_spoilt2 T) (hr.mono (by decide)) (by rfl) T.g_spoilt T.F_spoilt.kp T.b_spoilt .nil pass0 (pa_cons (pv 0) (pa_cons (pe_ix ix_tup (pv 1) (pv 3) (fun _ _ => rfl)) (pa_cons (pe_op op_sub (pv 2) pe_int) pa_nil)))) pa_nil)))))))), ?_⟩
    have oth : ∀ H1 (j : Int) X, DA as H1 d l (n + j) → 0 ≤ j → j ≤ 1 → Fr d l H H1 → Sh (hid as H1) v dd → sp_other K [.ref d, v] H1 Q X := fun H1 j X D1 j0 j1 fr1 sh1 =>
      ⟨as, d, l, n + j, v, dd, B, N, M, rfl, D1, by omega, sh1, fit, hB, hN, fun v' H' dd' D' fr' sh' fit' => q v' H' dd' (D'.mono (by omega)) (fr1.trans fr') sh' (fit'.mono (Nat.le_refl _) (by omega) (Nat.le_refl _))⟩
    have shH : Sh H v dd := sh.same hid_le
    refine ⟨_, rfl, rfl, _, rfl, ite2 (fun z => ?_) (fun _ => ?_)⟩
    · exact absurd (V.int.inj (of_decide_eq_true z)) (by decide)
    refine ⟨v, rfl, _, _, _, _, _, rfl, .ty _, shH.ty, kit_ty (kitTup dd), _, rfl, ite2 (fun nt => ?_) (fun it => ?_)⟩
    · refine ite2 (fun _ => ?_) (fun z => absurd rfl z)
      exact ⟨.ref d, rfl, v, rfl, oth H 0 E0 (D.mono (by omega)) (by decide) (by decide) (fun _ _ _ _ e => e) sh⟩
    have it' : isTupD dd = true := by
      cases hb : isTupD dd
      · rw [hb] at it
        exact absurd rfl it
      · rfl
    obtain ⟨ds, rfl⟩ := tup_of it'
    obtain ⟨a, xs, rfl, ha0, t⟩ : ∃ a xs, v = .ref a ∧ hid as H a = some (.tup xs) ∧ ShAll (hid as H) xs ds := by
      cases sh with
      | @tup a xs _ ha0 t => exact ⟨a, xs, rfl, ha0, t⟩
    have ha : H a = some (.tup xs) := hid_le _ _ ha0
    have oa := D.tupOut ha
    have oad : a ≠ d := fun z => oa (by rw [z]; exact D.hd)
    have oal : a ≠ l := fun z => oa (by rw [z]; exact D.hl)
    refine ⟨.ref a, rfl, Nat.zero_le _, fun p0 n0 => ⟨a, p0, xs, rfl, rfl, SqT.of (same_upd n0 _ _ ha), SqT.of upd_same, _, rfl, ?_⟩⟩
    have s0 := same_upd (o := HO.tup []) n0
    generalize hh2 : upd H p0 _ = H2
    replace s0 : Same H H2 := by rw [← hh2]; exact s0
    clear hh2
    have D2 := D.same s0
    refine ite2 (fun em => ?_) (fun ne => ?_)
    · refine ite2 (fun _ => ?_) (fun z => absurd rfl z)
      exact ⟨.ref d, rfl, .ref a, rfl, oth H2 0 E0 (D2.mono (by omega)) (by decide) (by decide) (Fr.of s0) (sh.same (hid_same s0))⟩
    refine ⟨.ref d, rfl, d, l, 5, _, rfl, D2.d1, by omega, by decide, by decide, fun H3 u D3 fr3 u0 u1 => ⟨rfl, _, rfl, ?_⟩⟩
    replace D3 := D2.fr D3 fr3
    have f3 := (Fr.of s0).trans fr3
    have sh3 := sh.same (hid_fr f3 D.hd D.hl)
    refine ite2 (fun _ => ?_) (fun _ => ?_)
    · exact ⟨.ref d, rfl, .ref a, rfl, oth H3 1 E0 D3 (by decide) (by decide) f3 sh3⟩
    have pos : 0 < xs.length := by
      cases xs with
      | nil => exact absurd rfl ne
      | cons y r => exact Nat.succ_pos _
    obtain ⟨m, rfl⟩ : ∃ m, M = m + 1 := by
      cases M with
      | zero => exact absurd fit.2.2 (Nat.not_succ_le_zero _)
      | succ m => exact ⟨m, rfl⟩
    have fl : FitL B N m ds := fit.inv
    have lx := t.length
    have lN : xs.length ≤ N := by
      rw [lx]
      exact Nat.le_trans (len_weight ds) fl.2.1
    have ha3 : H3 a = some (.tup xs) := f3 _ _ oad oal ha
    refine ⟨.ref d, rfl, .ref a, rfl, a, xs, rfl, .inr (SqT.of ha3), d, l, _, _, rfl, D3.d1, by omega, by omega, by omega, fun H4 ki D4 fr4 k0 k1 => ?_⟩
    replace D4 := D3.fr D4 fr4
    obtain ⟨k, rfl⟩ := Int.eq_ofNat_of_zero_le k0
    have hk : k < xs.length := by omega
    have f4 := f3.trans fr4
    have ha4 : H4 a = some (.tup xs) := f4 _ _ oad oal ha
    obtain ⟨xk, hxk⟩ : ∃ xk, xs[k]? = some xk := ⟨_, List.getElem?_eq_getElem hk⟩
    obtain ⟨dk, hdk, sdk⟩ := (t.same (hid_fr f4 D.hd D.hl)).get hxk
    have fk := fl.get hdk
    refine ⟨.ref a, rfl, .int k, rfl, .ref d, rfl, .ref a, rfl, .int k, rfl, a, xs, (k : Int), xk, rfl, rfl, SqT.of ha4, atI_nat hxk, _, rfl, _, _, rfl, rfl, ?_⟩
    refine ⟨as, d, l, _, xk, dk, B, dk.weight, m, rfl, D4, by omega, sdk, ⟨fk.1, Nat.le_refl _, fk.2.2⟩, hB, Nat.le_trans fk.2.1 hN, fun v' H5 dd' D5 fr5 sh5 fit5 => ?_⟩
    have f5 := f4.trans fr5
    refine ⟨a, k, v', xs, rfl, f5 _ _ oad oal ha, hk, by omega, fun r H6 s6 h6 => ?_⟩
    rw [← set_put hk] at h6
    have D6 := D5.same s6
    have t6 : ShAll (hid as H6) xs ds := t.same (hid_fr (f5.trans (Fr.of s6)) D.hd D.hl)
    have wB : B ≤ B + 10 ^ 39 + 10 := Nat.le_trans (Nat.le_add_right B 10) (b39 B)
    refine q _ _ _ (D6.mono (by omega)) (f5.trans (Fr.of s6)) (sh_tup D6 h6 (((t6.take k).append (.cons (sh5.same (hid_same s6)) .nil)).append (t6.drop (k + 1)))) ?_
    exact (fit_put3 (c := 400 + 2) hdk (fl.mono wB (Nat.le_refl _) (by omega)) (fit5.mono (Nat.le_refl _) (by omega) (Nat.le_refl _))).mono (Nat.le_refl _) (by omega) (by omega)
theorem ok_spoilt4 (T : Tx K mg) : FnOk P w K mg base CX0 8 T.f_spoilt T.fd_spoilt ["_law_deck_here", "_law_thing", "_law_deep"] (sp_spoilt K 4) := by
  refine T.F_spoilt.ok sc_spoilt (fun vs H Q E h => ?_) (fun cdv A outer s H vs Q E hr h => ?_)
  · obtain ⟨as, d, l, n, v, dd, B, N, M, rfl, _⟩ := h
    rfl
  · obtain ⟨as, d, l, n, v, dd, B, N, M, rfl, D, hn, sh, fit, hB, hN, q⟩ := h
    refine ⟨_, (pss_cons (ps_if (pw_or (pt_cmpR op_eq (pv 2) pe_int (nomark _)) (pw_or (pt_not (pt_val (pe_callB call_isi (by rfl) T.m_isinstance (by decide +kernel) (pa_cons (pv 1) (pa_cons (pe_bltn (v := .ty "tuple") (u := .type "tuple") (by rfl) T.m_tuple (by decide +kernel) rfl) pa_nil))))) (pw_or (pt_cmpR (TupRev.op_eqE hr.units) (pv 1) (pe_tup pa_nil) (nomark _)) (pw_or1 (pt_cmpR op_eq (pe_call (ok_take T) (hr.mono (by decide)) (by rfl) T.g_take T.F_take.kp T.b_take .nil pass0 (pa_cons (pv 0) (pa_cons pe_int pa_nil))) pe_int (nomark _)))))).pt (pss_one (ps_ret (pe_call (ok_other T) (hr.mono (by decide)) (by rfl) T.g_other T.F_other.kp T.b_other .nil pass0 (pa_cons (pv 0) (pa_cons (pv 1) pa_nil))))) pss_nil) (pss_cons (ps_set (i := 3) sc_spoilt.nd rfl (by first | exact .inl rfl | exact .inr rfl) (pe_call (ok_take T) (hr.mono (by decide)) (by rfl) T.g_take T.F_take.kp T.b_take .nil pass0 (pa_cons (pv 0) (pa_cons (pe_callB call_len_seq (by rfl) T.m_len PySem.boot_len (pa_cons (pv 1) pa_nil)) pa_nil)))) (pss_one (ps_ret (pe_call (ok_put T) (hr.mono (by decide)) (by rfl) T.g_put T.F_put.kp T.b_put .nil pass0 (pa_cons (pv 1) (pa_cons (pv 3) (pa_cons (pe_call (ok_spoilt3 T) (hr.mono (by decide)) (by rfl) T.g_spoilt T.F_spoilt.kp T.b_spoilt .nil pass0 (pa_cons (pv 0) (pa_cons (pe_ix ix_tup (pv 1) (pv 3) (fun _ _ => rfl)) (pa_cons (pe_op op_sub (pv 2) pe_int) pa_nil)))) pa_nil)))))))), ?_⟩
    have oth : ∀ H1 (j : Int) X, DA as H1 d l (n + j) → 0 ≤ j → j ≤ 1 → Fr d l H H1 → Sh (hid as H1) v dd → sp_other K [.ref d, v] H1 Q X := fun H1 j X D1 j0 j1 fr1 sh1 =>
      ⟨as, d, l, n + j, v, dd, B, N, M, rfl, D1, by omega, sh1, fit, hB, hN, fun v' H' dd' D' fr' sh' fit' => q v' H' dd' (D'.mono (by omega)) (fr1.trans fr') sh' (fit'.mono (Nat.le_refl _) (by omega) (Nat.le_refl _))⟩
    have shH : Sh H v dd := sh.same hid_le
    refine ⟨_, rfl, rfl, _, rfl, ite2 (fun z => ?_) (fun _ => ?_)⟩
    · exact absurd (V.int.inj (of_decide_eq_true z)) (by decide)
    refine ⟨v, rfl, _, _, _, _, _, rfl, .ty _, shH.ty, kit_ty (kitTup dd), _, rfl, ite2 (fun nt => ?_) (fun it => ?_)⟩
    · refine ite2 (fun _ => ?_) (fun z => absurd rfl z)
      exact ⟨.ref d, rfl, v, rfl, oth H 0 E0 (D.mono (by omega)) (by decide) (by decide) (fun _ _ _ _ e => e) sh⟩
    have it' : isTupD dd = true := by
      cases hb : isTupD dd
      · rw [hb] at it
        exact absurd rfl it
      · rfl
    obtain ⟨ds, rfl⟩ := tup_of it'
    obtain ⟨a, xs, rfl, ha0, t⟩ : ∃ a xs, v = .ref a ∧ hid as H a = some (.tup xs) ∧ ShAll (hid as H) xs ds := by
      cases sh with
      | @tup a xs _ ha0 t => exact ⟨a, xs, rfl, ha0, t⟩
    have ha : H a = some (.tup xs) := hid_le _ _ ha0
    have oa := D.tupOut ha
    have oad : a ≠ d := fun z => oa (by rw [z]; exact D.hd)
    have oal : a ≠ l := fun z => oa (by rw [z]; exact D.hl)
    refine ⟨.ref a, rfl, Nat.zero_le _, fun p0 n0 => ⟨a, p0, xs, rfl, rfl, SqT.of (same_upd n0 _ _ ha), SqT.of upd_same, _, rfl, ?_⟩⟩
    have s0 := same_upd (o := HO.tup []) n0
    generalize hh2 : upd H p0 _ = H2
    replace s0 : Same H H2 := by rw [← hh2]; exact s0
    clear hh2
    have D2 := D.same s0
    refine ite2 (fun em => ?_) (fun ne => ?_)
    · refine ite2 (fun _ => ?_) (fun z => absurd rfl z)
      exact ⟨.ref d, rfl, .ref a, rfl, oth H2 0 E0 (D2.mono (by omega)) (by decide) (by decide) (Fr.of s0) (sh.same (hid_same s0))⟩
    refine ⟨.ref d, rfl, d, l, 5, _, rfl, D2.d1, by omega, by decide, by decide, fun H3 u D3 fr3 u0 u1 => ⟨rfl, _, rfl, ?_⟩⟩
    replace D3 := D2.fr D3 fr3
    have f3 := (Fr.of s0).trans fr3
    have sh3 := sh.same (hid_fr f3 D.hd D.hl)
    refine ite2 (fun _ => ?_) (fun _ => ?_)
    · exact ⟨.ref d, rfl, .ref a, rfl, oth H3 1 E0 D3 (by decide) (by decide) f3 sh3⟩
    have pos : 0 < xs.length := by
      cases xs with
      | nil => exact absurd rfl ne
      | cons y r => exact Nat.succ_pos _
    obtain ⟨m, rfl⟩ : ∃ m, M = m + 1 := by
      cases M with
      | zero => exact absurd fit.2.2 (Nat.not_succ_le_zero _)
      | succ m => exact ⟨m, rfl⟩
    have fl : FitL B N m ds := fit.inv
    have lx := t.length
    have lN : xs.length ≤ N := by
      rw [lx]
      exact Nat.le_trans (len_weight ds) fl.2.1
    have ha3 : H3 a = some (.tup xs) := f3 _ _ oad oal ha
    refine ⟨.ref d, rfl, .ref a, rfl, a, xs, rfl, .inr (SqT.of ha3), d, l, _, _, rfl, D3.d1, by omega, by omega, by omega, fun H4 ki D4 fr4 k0 k1 => ?_⟩
    replace D4 := D3.fr D4 fr4
    obtain ⟨k, rfl⟩ := Int.eq_ofNat_of_zero_le k0
    have hk : k < xs.length := by omega
    have f4 := f3.trans fr4
    have ha4 : H4 a = some (.tup xs) := f4 _ _ oad oal ha
    obtain ⟨xk, hxk⟩ : ∃ xk, xs[k]? = some xk := ⟨_, List.getElem?_eq_getElem hk⟩
    obtain ⟨dk, hdk, sdk⟩ := (t.same (hid_fr f4 D.hd D.hl)).get hxk
    have fk := fl.get hdk
    refine ⟨.ref a, rfl, .int k, rfl, .ref d, rfl, .ref a, rfl, .int k, rfl, a, xs, (k : Int), xk, rfl, rfl, SqT.of ha4, atI_nat hxk, _, rfl, _, _, rfl, rfl, ?_⟩
    refine ⟨as, d, l, _, xk, dk, B, dk.weight, m, rfl, D4, by omega, sdk, ⟨fk.1, Nat.le_refl _, fk.2.2⟩, hB, Nat.le_trans fk.2.1 hN, fun v' H5 dd' D5 fr5 sh5 fit5 => ?_⟩
    have f5 := f4.trans fr5
    refine ⟨a, k, v', xs, rfl, f5 _ _ oad oal ha, hk, by omega, fun r H6 s6 h6 => ?_⟩
    rw [← set_put hk] at h6
    have D6 := D5.same s6
    have t6 : ShAll (hid as H6) xs ds := t.same (hid_fr (f5.trans (Fr.of s6)) D.hd D.hl)
    have wB : B ≤ B + 10 ^ 39 + 10 := Nat.le_trans (Nat.le_add_right B 10) (b39 B)
    refine q _ _ _ (D6.mono (by omega)) (f5.trans (Fr.of s6)) (sh_tup D6 h6 (((t6.take k).append (.cons (sh5.same (hid_same s6)) .nil)).append (t6.drop (k + 1)))) ?_
    exact (fit_put3 (c := 400 + 3) hdk (fl.mono wB (Nat.le_refl _) (by omega)) (fit5.mono (Nat.le_refl _) (by omega) (Nat.le_refl _))).mono (Nat.le_refl _) (by omega) (by omega)
theorem ok_spoilt (T : Tx K mg) : FnOk P w K mg base CX0 8 T.f_spoilt T.fd_spoilt ["_law_deck_here", "_law_thing", "_law_deep"] (sp_spoilt K 4) := ok_spoilt4 T

end
end Gk

set_option Elab.async false
set_option linter.all false
set_option maxRecDepth 100000
set_option maxHeartbeats 1000000
set_option pp.maxSteps 1500
set_option pp.deepTerms false
namespace Gk
open PySem PySem.Spec PyProof.Rows L2
section
variable {P : Program} {w : World} {K : PySem.W.Frag} {mg : Str → Option Value} {base : Heap}
/-! ### is one thing told rightly -/
def sp_right (T : Tx K mg) : Sp := fun vs H Q _ => ∃ (v : V) (d : PyData) (B N M : Nat), vs = [v] ∧ Sh H v d ∧ Fit B N M d ∧ B < 2 ^ 190 ∧ N ≤ 50000 ∧ M ≤ 50 ∧ GxR.TabG H T.P_is_signs ∧ GxR.TabG H T.P_is_gate ∧ GxR.TabG H T.P_is_net ∧ ∀ H', Gr H H' → Q (.bl true) H'
theorem ok_right (T : Tx K mg) (B : Tb base T) : FnG P w K mg base CX0 6 T.f_right T.fd_right ["_law_thing"] (sp_right T) := by
  refine okG0 T.F_right sc_right (fun vs H Q E h => ?_) (fun cdv A outer s H vs Q E nothing hr h => ?_)
  · obtain ⟨v, d, B, N, M, rfl, _⟩ := h
    rfl
  · obtain ⟨v, d, B', N, M, rfl, sh, fit, hB, hN, hM, tab0, tab1, tab, q⟩ := h
    refine ⟨_, (pss_cons (ps_set (i := 1) sc_right.nd rfl (by first | exact .inl rfl | exact .inr rfl) (pe_callB (call_repr nothing hr.units) (by rfl) T.m_repr (by decide +kernel) (pa_cons (pv 0) pa_nil))) (pss_cons (ps_set (i := 2) sc_right.nd rfl (by first | exact .inl rfl | exact .inr rfl) (pe_call (ok_is_net T B) (hr.mono (by decide)) (by rfl) T.g_is_net T.F_is_net.kp T.b_is_net .nil pass0 (pa_cons (pv 0) pa_nil))) (pss_one (ps_ret (pe_and (pe_callB call_isi (by rfl) T.m_isinstance (by decide +kernel) (pa_cons (pv 2) (pa_cons (pe_bltn (v := .ty "bool") (u := .type "bool") (by rfl) T.m_bool (by decide +kernel) rfl) pa_nil))) (pe_and (pe_cmpR op_eq (pv 2) (pe_call (ok_l_is_net T) (hr.mono (by decide)) (by rfl) T.g_l_is_net T.F_l_is_net.kp T.b_l_is_net .nil pass0 (pa_cons (pv 0) pa_nil)) (nomark _)) (pe_one (pe_cmpR op_eq (pe_callB (call_repr nothing hr.units) (by rfl) T.m_repr (by decide +kernel) (pa_cons (pv 0) pa_nil)) (pv 1) (nomark _))))))))), ?_⟩
    obtain ⟨f1, f2, f3⟩ := fit.fine hB hN hM
    have wt : d.weight ≤ 50000 := Nat.le_trans fit.2.1 hN
    refine ⟨v, rfl, v, d, rfl, sh, f1, f2, f3, v, rfl, v, d, rfl, sh, wt, tab0, tab1, tab, fun H1 g1 => ?_⟩
    have sh1 := sh.gr g1
    refine ⟨.bl (isNetD d), rfl, _, _, _, _, _, rfl, .ty _, (Sh.bl (H := H1) (isNetD d)).ty, kit_ty (kitBool (.bool (isNetD d))), _, rfl, iteT ?_⟩
    refine ⟨.bl (isNetD d), rfl, v, rfl, v, d, rfl, sh1, wt, fun H2 s2 => ⟨rfl, _, rfl, ?_⟩⟩
    rw [decide_eq_true rfl]
    refine iteT ?_
    refine ⟨v, rfl, v, d, rfl, sh1.same s2, f1, f2, f3, .str _, rfl, rfl, ?_⟩
    rw [decide_eq_true rfl]
    exact q H2 (g1.trans (Gr.of s2))

end
end Gk

set_option Elab.async false
set_option linter.all false
set_option maxRecDepth 100000
set_option maxHeartbeats 1000000
set_option pp.maxSteps 1500
set_option pp.deepTerms false
namespace Gk
open PySem PySem.Spec PyProof.Rows L2
section
variable {P : Program} {w : World} {K : PySem.W.Frag} {mg : Str → Option Value} {base : Heap}
/-! ### drawn gates and nets -/
def nV (ws : List Nat) : List V := (ws.map Int.ofNat).map V.int
theorem nV_len (ws : List Nat) : (nV ws).length = ws.length := by unfold nV; rw [List.length_map, List.length_map]
theorem nV_app (a b : List Nat) : nV (a ++ b) = nV a ++ nV b := by unfold nV; rw [List.map_append, List.map_append]
theorem gate_new {H : Hp} {bs : List Bool} {ws : List Nat} {ti tt : Addr} (nti : H ti = none) (ntt : (upd H ti (.tup (nV ws))) tt = none) : Tk (upd (upd H ti (.tup (nV ws))) tt (.tup [.str (tabOf bs), .ref ti])) (.ref tt) (gD (bs, ws)) :=
  .tup upd_same (.cons (.str _) (.cons (.tup (same_upd ntt _ _ upd_same) (TkAll.ints _)) .nil))
def sg (b : Bool) : Str := SX.S [if b = true then 49 else 48]
theorem joinL_nil : ∀ l : List (List Nat), TL.joinL [] l = l.flatten
  | [] => rfl
  | [p] => by simp [TL.joinL]
  | p :: q :: r => by
    show p ++ ([] ++ TL.joinL [] (q :: r)) = _
    rw [joinL_nil (q :: r)]
    rfl
theorem join_sg (bs : List Bool) : Txt.join (Str.ofString "") (bs.map sg) = tabOf bs := by
  have e : bs.map sg = (bs.map fun b => [if b = true then 49 else 48]).map SX.S := by rw [List.map_map]; rfl
  have z : Str.ofString "" = SX.S [] := by decide +kernel
  rw [e, z, SX.join_S, joinL_nil]
  have : (bs.map fun b => [if b = true then 49 else 48]).flatten = bs.map fun b => if b = true then 49 else 48 := by
    clear e z
    induction bs with
    | nil => rfl
    | cons b r ih => rw [List.map_cons, List.flatten_cons, ih]; rfl
  rw [this]
  rfl
theorem zo_S : Str.ofString "01" = SX.S [48, 49] := by decide +kernel
theorem NetOk.snoc {n : Nat} {gs : List Gt} {g : Gt} (h : NetOk n gs) (hg : GtOk (n + gs.length) g) : NetOk n (gs ++ [g]) := fun k g' e => by
  by_cases hk : k < gs.length
  · rw [List.getElem?_append_left hk] at e
    exact h k g' e
  · rw [List.getElem?_append_right (by omega)] at e
    cases hz : k - gs.length with
    | zero =>
      rw [hz] at e
      cases Option.some.inj e
      rw [show k = gs.length by omega]
      exact hg
    | succ j => rw [hz] at e; cases e
def sp_gate (K : PySem.W.Frag) : Sp := fun vs H Q _ => ∃ (d l : Addr) (n : Int) (wires near : Nat), vs = [.ref d, .int wires, .int near] ∧ DeckC H d l n ∧ n < 100000000 ∧ 1 ≤ wires ∧ wires ≤ 100000 ∧ 1 ≤ near ∧
  ∀ r H' g, DeckC H' d l (n + 12) → Fr d l H H' → Tk H' (.ref r) (gD g) → GtOk wires g → Q (.ref r) H'
theorem ok_gate (T : Tx K mg) : FnOk P w K mg base CX0 3 T.f_gate T.fd_gate ["_law_deck_here", "_law_wires", "_law_near"] (sp_gate K) := by
  refine T.F_gate.ok sc_gate (fun vs H Q E h => ?_) (fun cdv A outer s H vs Q E hr h => ?_)
  · obtain ⟨d, l, n, wires, near, rfl, _⟩ := h
    rfl
  · obtain ⟨d, l, n, wires, near, rfl, D, hn, w1, w5, r1, q⟩ := h
    refine ⟨_, (pss_cons (ps_set (i := 3) sc_gate.nd rfl (by first | exact .inl rfl | exact .inr rfl) (pe_op op_add pe_int (pe_call (ok_take T) (hr.mono (by decide)) (by rfl) T.g_take T.F_take.kp T.b_take .nil pass0 (pa_cons (pv 0) (pa_cons pe_int pa_nil))))) (pss_cons (ps_set (i := 4) sc_gate.nd rfl (by first | exact .inl rfl | exact .inr rfl) (pe_callTy call_tuple_of (by rfl) T.m_tuple (by decide +kernel) (pa_cons (pe_lc (own := [("_law_k", 5)]) (by rfl) sc_gate.nd (pi_range1 (by rfl) T.m_range (pa_cons (pv 3) pa_nil)) (blkOk_by (own := [("_law_k", 5)]) (N := ["_law_deck_here", "_law_wires", "_law_near", "_law_size", "_law_ins", "_law_k"]) (sc := defScope s_gate) (by decide +kernel)) (fun _ _ _ _ _ => (pg_name (i := 5) sc_gate.nd rfl (by first | exact .inl rfl | exact .inr rfl))) (fun _ _ _ _ _ => pts_nil) (fun _ _ _ _ _ => (pe_op op_sub (pe_op op_sub (pv 1) pe_int) (pe_call (ok_take T) (hr.mono (by decide)) (by rfl) T.g_take T.F_take.kp T.b_take .nil pass0 (pa_cons (pv 0) (pa_cons (pe_callB (call_min2 rfl) (by rfl) T.m_min (by decide +kernel) (pa_cons (pv 1) (pa_cons (pv 2) pa_nil))) pa_nil)))))) pa_nil))) (pss_one (ps_ret (pe_tup (pa_cons (pe_join pe_str (pe_lc (own := [("_law_k", 5)]) (by rfl) sc_gate.nd (pi_range1 (by rfl) T.m_range (pa_cons (pe_ix ix_list (pe_lst (pa_cons pe_int (pa_cons pe_int (pa_cons pe_int pa_nil)))) (pe_op op_sub (pv 3) pe_int) (fun _ _ => rfl)) pa_nil)) (blkOk_by (own := [("_law_k", 5)]) (N := ["_law_deck_here", "_law_wires", "_law_near", "_law_size", "_law_ins", "_law_k"]) (sc := defScope s_gate) (by decide +kernel)) (fun _ _ _ _ _ => (pg_name (i := 5) sc_gate.nd rfl (by first | exact .inl rfl | exact .inr rfl))) (fun _ _ _ _ _ => pts_nil) (fun _ _ _ _ _ => (pe_item_str pe_str (pe_call (ok_take T) (hr.mono (by decide)) (by rfl) T.g_take T.F_take.kp T.b_take .nil pass0 (pa_cons (pv 0) (pa_cons pe_int pa_nil))) (fun _ _ => rfl))))) (pa_cons (pv 4) pa_nil))))))), ?_⟩
    refine ⟨.ref d, rfl, d, l, 3, _, rfl, D, by omega, by decide, by decide, fun H1 v D1 fr1 v0 v1 => ⟨_, _, rfl, rfl, ?_⟩⟩
    obtain ⟨c, hc, c1, c3⟩ : ∃ c : Nat, 1 + v = (c : Int) ∧ 1 ≤ c ∧ c ≤ 3 := ⟨(1 + v).toNat, by omega, by omega, by omega⟩
    have ec : (fun i j : Int => V.int (i + j)) 1 v = V.int c := by
      show V.int (1 + v) = _
      rw [hc]
    rw [ec]
    refine ⟨.int c, rfl, c, rfl, by omega, by omega, fun I nI => ?_⟩
    have oI := D1.off nI
    have nI0 : H I = none := none_of_frC fr1 D1 nI
    refine lc_range (lo := 0) (n := (c : Int).toNat) (fun j H' => DeckC H' d l (n + 1 + j) ∧ Fr d l H H' ∧ ∃ ws : List Nat, H' I = some (.lst (nV ws)) ∧ ws.length = j ∧ ∀ x ∈ ws, x < wires)
      ⟨(D1.same (same_upd nI)).mono (by omega), fr1.trans (Fr.new nI), [], upd_same, rfl, fun x hx => by cases hx⟩ ?_ ?_
    · rintro j H2 hj ⟨D2, fr2, ws, hI, lw, okw⟩
      have hj' : j < c := by simpa using hj
      refine ⟨rfl, .int wires, rfl, _, _, rfl, rfl, .ref d, rfl, .int wires, rfl, .int near, rfl, _, _, rfl, d, l, _, _, rfl, D2, by omega, ?_, ?_, fun H3 x D3 fr3 x0 x1 => ⟨_, _, rfl, rfl, ?_⟩⟩
      · split <;> omega
      · split <;> omega
      have xw : x < wires := by
        split at x1 <;> omega
      have hI3 := fr3 _ _ oI.1 oI.2 hI
      have ex : V.int ((wires : Int) - 1 - x) = V.int (Int.ofNat ((wires : Int) - 1 - x).toNat) := by
        congr 1
        show (wires : Int) - 1 - x = ((((wires : Int) - 1 - x).toNat : Nat) : Int)
        omega
      refine ⟨_, hI3, ?_, (D3.upd oI.1 oI.2).mono (by push_cast; omega), Fr.upd (fr2.trans fr3) nI0, ws ++ [((wires : Int) - 1 - x).toNat], ?_, by rw [List.length_append, lw]; rfl, fun y hy => ?_⟩
      · rw [nV_len, lw]
        exact Nat.lt_of_lt_of_le (show j < 64 by omega) (by decide)
      · rw [upd_same, nV_app]
        show some (HO.lst (nV ws ++ [V.int ((wires : Int) - 1 - x)])) = _
        rw [ex]
        rfl
      · rcases List.mem_append.mp hy with z | z
        · exact okw y z
        · rw [List.mem_singleton.mp z]; omega
    · rintro H2 ⟨D2, fr2, ws, hI, lw, okw⟩
      have lw' : ws.length = c := by rw [lw]; simp
      refine ⟨I, _, rfl, .inl ⟨SqL.of hI, fun ti nti => ?_⟩⟩
      have s2 := same_upd (o := HO.tup (nV ws)) nti
      have oti := D2.off nti
      have D2' := D2.same s2
      have hti : (upd H2 ti (.tup (nV ws))) ti = some (.tup (nV ws)) := upd_same
      have fr2' := fr2.trans (Fr.of (d := d) (l := l) s2)
      revert hti D2' fr2'
      generalize upd H2 ti (.tup (nV ws)) = H3
      intro D2' hti fr2'
      refine ⟨⟨_, rfl⟩, sl3, fun p5 n5 => ?_⟩
      obtain ⟨N, hN, a2, k8⟩ : ∃ N : Nat, 2 ^ c = N ∧ atI [V.int 2, V.int 4, V.int 8] ((c : Int) - 1) = some (.int (N : Int)) ∧ N ≤ 8 := by
        have : c = 1 ∨ c = 2 ∨ c = 3 := by omega
        rcases this with rfl | rfl | rfl
        · exact ⟨2, rfl, rfl, by decide⟩
        · exact ⟨4, rfl, rfl, by decide⟩
        · exact ⟨8, rfl, rfl, by decide⟩
      refine ⟨.int c, rfl, _, _, rfl, rfl, p5, _, (c : Int) - 1, _, rfl, rfl, SqL.of upd_same, a2, _, rfl, by omega, by omega, fun L nL => ?_⟩
      have s5 := same_upd (o := HO.lst [V.int 2, V.int 4, V.int 8]) n5
      have D5 := D2'.same s5
      have fr5 := fr2'.trans (Fr.of (d := d) (l := l) s5)
      have hti5 := s5 _ _ hti
      revert nL D5 fr5 hti5
      generalize upd H3 p5 (.lst [.int 2, .int 4, .int 8]) = H5
      intro nL D5 fr5 hti5
      have oL := D5.off nL
      have nL0 : H L = none := none_of_frC fr5 D5 nL
      have ntL : ti ≠ L := ne_of_none hti5 nL
      refine lc_range (lo := 0) (n := ((N : Nat) : Int).toNat) (fun i H' => DeckC H' d l (n + 4 + i) ∧ Fr d l H H' ∧ H' ti = some (.tup (nV ws)) ∧ ∃ bs : List Bool, bs.length = i ∧ H' L = some (.lst (bs.map fun b => V.str (sg b)))) ⟨(D5.same (same_upd nL)).mono (by omega), fr5.trans (Fr.new nL), same_upd nL _ _ hti5, [], rfl, upd_same⟩ ?_ ?_
      · rintro i H6 hi ⟨D6, fr6, ht6, bs, lbs, hL⟩
        have hi' : i < N := by simpa using hi
        refine ⟨rfl, .ref d, rfl, d, l, 2, _, rfl, D6, by omega, by decide, by decide, fun H7 x D7 fr7 x0 x1 => ?_⟩
        have hL7 := fr7 _ _ oL.1 oL.2 hL
        have ht7 := fr7 _ _ oti.1 oti.2 ht6
        refine ⟨Str.ofString "01", x, (if x = 1 then 49 else 48), rfl, rfl, x0, by omega, ?_, ?_, _, hL7, ?_, (D7.upd oL.1 oL.2).mono (by push_cast; omega), Fr.upd (fr6.trans fr7) nL0, by rw [upd_ne ntL]; exact ht7, bs ++ [decide (x = 1)], by rw [List.length_append, lbs]; rfl, ?_⟩
        · rw [zo_S, SX.S_len]
          exact x1
        · rw [zo_S]
          have : x = 0 ∨ x = 1 := by omega
          rcases this with rfl | rfl <;> rfl
        · rw [List.length_map, lbs]
          exact Nat.lt_of_lt_of_le (show i < 64 by omega) (by decide)
        · rw [upd_same, List.map_append]
          have : x = 0 ∨ x = 1 := by omega
          rcases this with rfl | rfl <;> rfl
      · rintro H6 ⟨D6, fr6, ht6, bs, lbs, hL⟩
        have lb : bs.length = 2 ^ c := by rw [lbs, hN]; simp
        refine ⟨Str.ofString "", L, bs.map sg, rfl, rfl, .inl (SqL.of (by rw [hL, List.map_map]; rfl)), ?_, ?_⟩
        · rw [List.map_map, List.length_map]
          have : (bs.map ((fun x => x.length) ∘ sg)).sum = bs.length := by
            clear hL lbs lb
            induction bs with
            | nil => rfl
            | cons b r ih =>
              rw [List.map_cons, List.sum_cons, ih, List.length_cons]
              cases b <;> (show 1 + _ = _; omega)
          rw [this]
          show bs.length + bs.length * 0 ≤ _
          have : bs.length ≤ 8 := by rw [lb, hN]; exact k8
          omega
        · rw [join_sg]
          refine ⟨.ref ti, rfl, sl2, fun tt ntt => ?_⟩
          have s7 := same_upd (o := HO.tup [V.str (tabOf bs), .ref ti]) ntt
          refine q tt _ (bs, ws) ((D6.same s7).mono (by
            have : (((N : Nat) : Int).toNat : Int) ≤ 8 := by omega
            omega)) (fr6.trans (Fr.of s7)) (.tup upd_same (.cons (.str _) (.cons (.tup (s7 _ _ ht6) (TkAll.ints _)) .nil))) ⟨?_, ?_, ?_, okw⟩
          · show bs.length = 2 ^ ws.length
            rw [lb, lw']
          · show 1 ≤ ws.length
            omega
          · show ws.length ≤ 3
            omega

/-! ### a drawn net, great ones among them -/
def sp_net (K : PySem.W.Frag) : Sp := fun vs H Q _ => ∃ (d l : Addr) (n : Int), vs = [.ref d] ∧ DeckC H d l n ∧ n < 10000000 ∧
  ∀ r H' m gs, DeckC H' d l (n + 2000) → Fr d l H H' → Tk H' (.ref r) (netD (m : Nat) gs) → 1 ≤ m → m ≤ 6 → 1 ≤ gs.length → gs.length ≤ 120 → NetOk m gs → Q (.ref r) H'
theorem ok_net (T : Tx K mg) : FnOk P w K mg base CX0 4 T.f_net T.fd_net ["_law_deck_here"] (sp_net K) := by
  refine T.F_net.ok sc_net (fun vs H Q E h => ?_) (fun cdv A outer s H vs Q E hr h => ?_)
  · obtain ⟨d, l, n, rfl, _⟩ := h
    rfl
  · obtain ⟨d, l, n, rfl, D, hn, q⟩ := h
    refine ⟨_, (pss_cons (ps_set (i := 1) sc_net.nd rfl (by first | exact .inl rfl | exact .inr rfl) (pe_call (ok_take T) (hr.mono (by decide)) (by rfl) T.g_take T.F_take.kp T.b_take .nil pass0 (pa_cons (pv 0) (pa_cons pe_int pa_nil)))) (pss_cons (ps_set (i := 2) sc_net.nd rfl (by first | exact .inl rfl | exact .inr rfl) (pe_ix ix_list (pe_lst (pa_cons pe_int (pa_cons pe_int (pa_cons pe_int (pa_cons pe_int pa_nil))))) (pe_call (ok_take T) (hr.mono (by decide)) (by rfl) T.g_take T.F_take.kp T.b_take .nil pass0 (pa_cons (pv 0) (pa_cons pe_int pa_nil))) (fun _ _ => rfl))) (pss_cons (ps_set (i := 3) sc_net.nd rfl (by first | exact .inl rfl | exact .inr rfl) (pe_op op_add pe_int (pe_call (ok_take T) (hr.mono (by decide)) (by rfl) T.g_take T.F_take.kp T.b_take .nil pass0 (pa_cons (pv 0) (pa_cons pe_int pa_nil))))) (pss_cons (ps_set (i := 4) sc_net.nd rfl (by first | exact .inl rfl | exact .inr rfl) (pe_dget2 (hu_of hr) (pe_disp (pps_cons pe_int pe_int (pps_cons pe_int (pe_op op_add pe_int (pe_call (ok_take T) (hr.mono (by decide)) (by rfl) T.g_take T.F_take.kp T.b_take .nil pass0 (pa_cons (pv 0) (pa_cons pe_int pa_nil)))) pps_nil)) (by rfl) (by rfl) (fun z => by cases z) (by decide)) (pv 1) (pe_op op_add pe_int (pe_call (ok_take T) (hr.mono (by decide)) (by rfl) T.g_take T.F_take.kp T.b_take .nil pass0 (pa_cons (pv 0) (pa_cons pe_int pa_nil)))) ⟨rfl, rfl, rfl, rfl⟩)) (pss_cons (ps_set (i := 5) sc_net.nd rfl (by first | exact .inl rfl | exact .inr rfl) (pe_lst pa_nil)) (pss_cons (ps_for PassesOwn.never rfl (pi_range1 (by rfl) T.m_range (pa_cons (pv 4) pa_nil)) (pg_name (i := 6) sc_net.nd rfl (by first | exact .inl rfl | exact .inr rfl)) (pss_one (ps_expr (pe_bm PySem.F.plainAttrs_list PySem.F.slot_list_append PySem.F.type_list_append mt_append (pv 5) (pa_cons (pe_call (ok_gate T) (hr.mono (by decide)) (by rfl) T.g_gate T.F_gate.kp T.b_gate .nil pass0 (pa_cons (pv 0) (pa_cons (pe_op op_add (pv 3) (pv 6)) (pa_cons (pv 2) pa_nil)))) pa_nil))))) (pss_one (ps_ret (pe_tup (pa_cons (pv 3) (pa_cons (pe_callTy call_tuple_of (by rfl) T.m_tuple (by decide +kernel) (pa_cons (pv 5) pa_nil)) pa_nil))))))))))), ?_⟩
    refine ⟨.ref d, rfl, d, l, 8, _, rfl, D, by omega, by decide, by decide, fun H1 g D1 fr1 g0 g1 => ?_⟩
    refine ⟨sl4, fun p1 n1 => ?_⟩
    have o1 := D1.off n1
    have s1 := same_upd (o := HO.lst [V.int 1, V.int 2, V.int 46, V.int 46]) n1
    have D1' := D1.same s1
    refine ⟨.ref d, rfl, d, l, 4, _, rfl, D1', by omega, by decide, by decide, fun H2 u D2 fr2 u0 u1 => ?_⟩
    have hp1 := fr2 _ _ o1.1 o1.2 (show (upd H1 p1 (.lst [V.int 1, V.int 2, V.int 46, V.int 46])) p1 = _ from upd_same)
    obtain ⟨near, hnear, near1⟩ : ∃ near : Nat, atI [V.int 1, V.int 2, V.int 46, V.int 46] u = some (.int (near : Int)) ∧ 1 ≤ near := by
      have : u = 0 ∨ u = 1 ∨ u = 2 ∨ u = 3 := by omega
      rcases this with rfl | rfl | rfl | rfl
      · exact ⟨1, rfl, by decide⟩
      · exact ⟨2, rfl, by decide⟩
      · exact ⟨46, rfl, by decide⟩
      · exact ⟨46, rfl, by decide⟩
    refine ⟨p1, _, u, _, rfl, rfl, SqL.of hp1, hnear, ?_⟩
    refine ⟨.ref d, rfl, d, l, 6, _, rfl, D2, by omega, by decide, by decide, fun H3 x D3 fr3 x0 x1 => ⟨_, _, rfl, rfl, ?_⟩⟩
    obtain ⟨m, hm, m1, m6⟩ : ∃ m : Nat, 1 + x = (m : Int) ∧ 1 ≤ m ∧ m ≤ 6 := ⟨(1 + x).toNat, by omega, by omega, by omega⟩
    have em : (fun i j : Int => V.int (i + j)) 1 x = V.int m := by
      show V.int (1 + x) = _
      rw [hm]
    rw [em]
    have fr03 := ((fr1.trans (Fr.of s1)).trans fr2).trans fr3
    refine fun dk ndk => ?_
    have odk := D3.off ndk
    have s4 := same_upd (o := (HO.dK [])) ndk
    have h4 : upd H3 dk (HO.dK []) dk = some (HO.dK []) := upd_same
    generalize upd H3 dk (HO.dK []) = H4 at s4 h4 ⊢
    have D4 := D3.same s4
    refine ⟨.ref d, rfl, d, l, 80, _, rfl, D4, by omega, by decide, by decide, fun H5 y D5 fr5 y0 y1 => ⟨_, _, rfl, rfl, ?_⟩⟩
    have h5 := fr5 _ _ odk.1 odk.2 h4
    refine ⟨h5, [(.inl 5, .int 40), (.inl 6, .int (41 + y))], rfl, (show 2 ≤ 15 by decide), ?_⟩
    have em : ∀ v1 v2 : V, mergeK [] [((.inl 5 : Key), v1), (.inl 6, v2)] = [(.inl 5, v1), (.inl 6, v2)] := fun v1 v2 => rfl
    rw [em]
    have ndk0 : H dk = none := none_of_frC fr03 D3 ndk
    have D6 := D5.upd (o := .dK [(.inl 5, .int 40), (.inl 6, .int (41 + y))]) odk.1 odk.2
    have fr6 := Fr.upd (o := .dK [(.inl 5, .int 40), (.inl 6, .int (41 + y))]) ((fr03.trans (Fr.of s4)).trans fr5) ndk0
    have h6 : upd H5 dk (.dK [(.inl 5, .int 40), (.inl 6, .int (41 + y))]) dk = some (.dK [(.inl 5, .int 40), (.inl 6, .int (41 + y))]) := upd_same
    generalize upd H5 dk (.dK [(.inl 5, .int 40), (.inl 6, .int (41 + y))]) = H6 at D6 fr6 h6 ⊢
    refine ⟨dk, rfl, .inl ⟨_, .inl h6⟩, .int g, rfl, .ref d, rfl, d, l, 8, _, rfl, D6, by omega, by decide, by decide, fun H7 v D7 fr7 v0 v1 => ⟨_, _, rfl, rfl, _, DGet.k (k := .inl g) (fr7 _ _ odk.1 odk.2 h6), ?_⟩⟩
    obtain ⟨cn, hcn, c1, c120⟩ : ∃ cn : Nat, (valV [((.inl 5 : Key), V.int 40), (.inl 6, .int (41 + y))] (.inl g)).getD (V.int (1 + v)) = V.int (cn : Int) ∧ 1 ≤ cn ∧ cn ≤ 120 := by
      by_cases a : g = 5
      · rw [a]
        exact ⟨40, rfl, by decide, by decide⟩
      · by_cases b : g = 6
        · rw [b]
          exact ⟨(41 + y).toNat, (by show V.int (41 + y) = _; rw [Int.toNat_of_nonneg (by omega)]), by omega, by omega⟩
        · refine ⟨(1 + v).toNat, ?_, by omega, by omega⟩
          have e : valV [((.inl 5 : Key), V.int 40), (.inl 6, .int (41 + y))] (.inl g) = none := by
            have n5 : decide ((.inl 5 : Key) = .inl g) = false := decide_eq_false fun z => a (Sum.inl.inj z).symm
            have n6 : decide ((.inl 6 : Key) = .inl g) = false := decide_eq_false fun z => b (Sum.inl.inj z).symm
            unfold valV
            rw [List.find?_cons_of_neg (by simpa using n5), List.find?_cons_of_neg (by simpa using n6)]
            rfl
          rw [e, Int.toNat_of_nonneg (by omega)]
          rfl
    rw [hcn]
    have frA := fr6.trans fr7
    refine ⟨Nat.zero_le _, fun G nG => ?_⟩
    have oG := D7.off nG
    have nG0 : H G = none := none_of_frC frA D7 nG
    refine ⟨.int cn, rfl, cn, rfl, by omega, by omega, ?_⟩
    refine for_range (lo := 0) (n := (cn : Int).toNat) (fun i σ H' => ∃ y6, σ = [some (.ref d), some (.int g), some (.int near), some (.int m), some (.int cn), some (.ref G), y6] ∧ DeckC H' d l (n + 5 + 12 * i) ∧ Fr d l H H' ∧ ∃ acc gs, H' G = some (.lst acc) ∧ TkAll H' acc (gs.map gD) ∧ gs.length = i ∧ NetOk m gs)
      ⟨_, rfl, (D7.same (same_upd nG)).mono (by omega), frA.trans (Fr.new nG), [], [], upd_same, .nil, rfl, fun k g e => by simp at e⟩ ?_ ?_
    · rintro i σ H6 hi ⟨y6, rfl, D6, fr6, acc, gs, hG, tg, lg, ok⟩
      have hi' : i < cn := by simpa using hi
      have ew : (m : Int) + (0 + (i : Int)) = ((m + i : Nat) : Int) := by push_cast; omega
      refine ⟨.ref G, rfl, .inl ⟨rfl, _, SqL.of hG⟩, .ref d, rfl, .int m, rfl, .int (0 + (i : Int)), rfl, _, _, rfl, rfl, .int near, rfl, d, l, _, m + i, near, by rw [← ew]; rfl, D6, by omega, by omega, by omega, near1, fun r H7 gt D7 fr7 tr okg => ?_⟩
      have hG7 := fr7 _ _ oG.1 oG.2 hG
      refine ⟨G, _, _, rfl, rfl, hG7, ?_, ?_⟩
      · have := tg.length
        rw [List.length_map, lg] at this
        exact Nat.lt_of_lt_of_le (show acc.length < 200 by omega) (by decide)
      · refine ⟨_, rfl, (D7.upd oG.1 oG.2).mono (by push_cast; omega), Fr.upd (fr6.trans fr7) nG0, _, gs ++ [gt], upd_same, ?_, by rw [List.length_append, lg]; rfl, ok.snoc (by rw [lg]; exact okg)⟩
        rw [List.map_append]
        exact (tg.ts ((Ts.frC D6 fr7).trans (Ts.set hG7)) (noL_gates gs)).append (.cons (tr.ts (Ts.set hG7) (noL_gate _)) .nil)
    · rintro σ H6 ⟨y6, rfl, D6, fr6, acc, gs, hG, tg, lg, ok⟩
      have lg' : gs.length = cn := by rw [lg]; simp
      refine ⟨.int m, rfl, .ref G, rfl, G, _, rfl, .inl ⟨SqL.of hG, fun tq ntq => ⟨sl2, fun r nr => ?_⟩⟩⟩
      have s2 := (same_upd (o := HO.tup acc) ntq).trans (same_upd (o := HO.tup [V.int m, .ref tq]) nr)
      refine q r _ m gs ((D6.same s2).mono (by
        have : ((cn : Int).toNat : Int) ≤ 120 := by omega
        omega)) (fr6.trans (Fr.of s2)) ?_ m1 m6 (by omega) (by omega) ok
      exact .tup upd_same (.cons (.int _) (.cons (.tup (same_upd nr _ _ upd_same) (tg.same s2)) .nil))

end
end Gk

set_option Elab.async false
set_option linter.all false
set_option maxRecDepth 100000
set_option maxHeartbeats 1000000
set_option pp.maxSteps 1500
set_option pp.deepTerms false
namespace Gk
open PySem PySem.Spec PyProof.Rows L2
/-! ### nets shown, and what they weigh -/
theorem int_weight {i : Int} {k : Nat} (h : i.natAbs < 2 ^ k) : (PyData.int i).weight ≤ k := by
  show (if i == 0 then 0 else i.natAbs.log2 + 1) ≤ k
  by_cases z : i = 0
  · rw [if_pos (by rw [z]; rfl)]
    exact Nat.zero_le _
  · rw [if_neg (by simpa using z)]
    exact (Nat.log2_lt (by omega)).mpr h
theorem fit_small {i : Int} {k M : Nat} (h : i.natAbs < 2 ^ k) (hk : k ≤ 100) : Fit (10 ^ 39) k M (.int i) :=
  ⟨decide_eq_true (Nat.le_trans (Nat.le_of_lt h) (Nat.le_trans (Nat.pow_le_pow_right (by decide) hk) (by decide))), int_weight h, Nat.zero_le _⟩
theorem fit_smalls {k M : Nat} (hk : k ≤ 100) : ∀ ts : List Int, (∀ x ∈ ts, x.natAbs < 2 ^ k) → FitL (10 ^ 39) ((k + 1) * ts.length) M (ts.map PyData.int)
  | [], _ => ⟨rfl, Nat.le_refl _, Nat.zero_le _⟩
  | x :: r, h => by
    have a := FitL.one (fit_small (M := M) (h x (List.mem_cons_self ..)) hk)
    have b := fit_smalls (M := M) hk r fun y hy => h y (List.mem_cons_of_mem _ hy)
    have c := a.app b
    exact ⟨c.1, Nat.le_trans c.2.1 (by rw [List.length_cons, Nat.mul_succ]; omega), c.2.2⟩
theorem tab_S (bs : List Bool) : tabOf bs = SX.S (bs.map fun b => if b = true then 49 else 48) := rfl
theorem fit_tab (bs : List Bool) {M : Nat} : Fit (10 ^ 39) bs.length M (.str (tabOf bs)) := by
  rw [tab_S]
  refine fit_S (fun c hc => ?_) (by rw [List.length_map]; exact Nat.le_refl _)
  obtain ⟨b, _, rfl⟩ := List.mem_map.mp hc
  cases b <;> decide
theorem fit_gate {n k : Nat} {g : Gt} (h : GtOk n g) (hn : n ≤ 2 ^ k) (hk : k ≤ 100) : Fit (10 ^ 39) (g.1.length + (k + 1) * g.2.length + 2) 2 (gD g) := by
  have a := FitL.one (fit_tab g.1 (M := 1))
  have b := fit_smalls (k := k) (M := 0) hk (g.2.map Int.ofNat) fun x hx => by
    obtain ⟨i, hi, rfl⟩ := List.mem_map.mp hx
    have := h.2.2.2 i hi
    show i < 2 ^ k
    omega
  rw [List.length_map] at b
  exact (Fit.tup (a.app (FitL.one (Fit.tup b)))).mono (Nat.le_refl _) (by omega) (Nat.le_refl _)
theorem fit_gates {c : Nat} : ∀ gs : List Gt, (∀ g ∈ gs, Fit (10 ^ 39) c 2 (gD g)) → FitL (10 ^ 39) ((c + 1) * gs.length) 2 (gs.map gD)
  | [], _ => ⟨rfl, Nat.le_refl _, Nat.zero_le _⟩
  | x :: r, h => by
    have a := FitL.one (h x (List.mem_cons_self ..))
    have b := fit_gates r fun y hy => h y (List.mem_cons_of_mem _ hy)
    have c' := a.app b
    exact ⟨c'.1, Nat.le_trans c'.2.1 (by rw [List.length_cons, Nat.mul_succ]; omega), c'.2.2⟩
theorem fit_net {m : Nat} {gs : List Gt} (h : NetOk m gs) (hm : m ≤ 6) (hl : gs.length ≤ 120) : Fit (10 ^ 39) 4600 4 (netD m gs) := by
  have b := fit_gates (c := 37) gs fun g hg => by
    obtain ⟨k, hk⟩ := List.getElem?_of_mem hg
    have lk := (List.getElem?_eq_some_iff.mp hk).1
    have ok := h k g hk
    refine (fit_gate (k := 8) ok (show m + k ≤ 2 ^ 8 by show m + k ≤ 256; omega) (by decide)).mono (Nat.le_refl _) ?_ (Nat.le_refl _)
    have h1 := ok.1
    have h3 := ok.2.2.1
    have h0 := ok.2.1
    have : g.2.length = 1 ∨ g.2.length = 2 ∨ g.2.length = 3 := by omega
    rcases this with z | z | z <;> rw [h1, z] <;> decide
  have a := FitL.one (fit_small (i := (m : Int)) (k := 3) (M := 3) (show ((m : Int)).natAbs < 2 ^ 3 by show m < 8; omega) (by decide))
  exact (Fit.tup (a.app (FitL.one (Fit.tup b)))).mono (Nat.le_refl _) (by omega) (Nat.le_refl _)
theorem sg01_tab (bs : List Bool) : (tabOf bs).cps.toList.all sgB = true := by
  refine List.all_eq_true.mpr fun c hc => ?_
  have e : (tabOf bs).cps.toList = bs.map fun b => if b = true then 49 else 48 := by
    rw [tab_S]
  rw [e] at hc
  obtain ⟨b, _, rfl⟩ := List.mem_map.mp hc
  cases b <;> decide +kernel
theorem isGate_ok {n : Nat} {g : Gt} (h : GtOk n g) : isGateD (n : Int) (gD g) = true := by
  have l : ((g.2.map Int.ofNat).map PyData.int).length = g.2.length := by rw [List.length_map, List.length_map]
  show ((decide (1 ≤ ((g.2.map Int.ofNat).map PyData.int).length) && decide (((g.2.map Int.ofNat).map PyData.int).length ≤ 3)) && ((decide (((tabOf g.1).length : Int) = 2 ^ ((g.2.map Int.ofNat).map PyData.int).length) && (tabOf g.1).cps.toList.all sgB) && ((g.2.map Int.ofNat).map PyData.int).all (wireD n))) = true
  rw [l, decide_eq_true h.2.1, decide_eq_true h.2.2.1, sg01_tab]
  have e1 : ((tabOf g.1).length : Int) = 2 ^ g.2.length := by
    have : (tabOf g.1).length = g.1.length := by simp [tabOf, Str.length]
    rw [this, h.1]
    simp
  rw [decide_eq_true e1]
  simp only [Bool.true_and, Bool.and_true]
  refine List.all_eq_true.mpr fun x hx => ?_
  obtain ⟨y, hy, rfl⟩ := List.mem_map.mp hx
  obtain ⟨i, hi, rfl⟩ := List.mem_map.mp hy
  have := h.2.2.2 i hi
  show (decide (0 ≤ Int.ofNat i) && decide (Int.ofNat i < (n : Int))) = true
  have a : decide ((0 : Int) ≤ Int.ofNat i) = true := decide_eq_true (Int.natCast_nonneg i)
  have b : decide (Int.ofNat i < (n : Int)) = true := decide_eq_true (Int.ofNat_lt.mpr this)
  rw [a, b]
  rfl
theorem isNet_ok {m : Nat} {gs : List Gt} (h : NetOk m gs) (m1 : 1 ≤ m) (m6 : m ≤ 6) (hl : 1 ≤ gs.length) : isNetD (netD m gs) = true := by
  show ((decide (1 ≤ (m : Int)) && decide ((m : Int) ≤ 6)) && (decide ((gs.map gD).length ≠ 0) && gatesD m (gs.map gD))) = true
  rw [decide_eq_true (show 1 ≤ (m : Int) by omega), decide_eq_true (show (m : Int) ≤ 6 by omega), decide_eq_true (show (gs.map gD).length ≠ 0 by rw [List.length_map]; omega)]
  simp only [Bool.true_and]
  refine gates_all fun k g hg => ?_
  rw [List.getElem?_map] at hg
  obtain ⟨g', hg', rfl⟩ := Option.map_eq_some_iff.mp hg
  have := isGate_ok (h k g' hg')
  rw [Int.natCast_add] at this
  exact this
mutual
theorem Tk.sh {H : Hp} : ∀ {v : V} {d : PyData}, Tk H v d → noL d = true → Sh H v d
  | _, _, .bl b, _ => .bl b
  | _, _, .int i, _ => .int i
  | _, _, .str x, _ => .str x
  | _, _, .lst h t, n => by cases n
  | _, _, .tup h t, n => .tup h (t.sh n)
theorem TkAll.sh {H : Hp} : ∀ {vs : List V} {ds : List PyData}, TkAll H vs ds → noLs ds = true → ShAll H vs ds
  | _, _, .nil, _ => .nil
  | _, _, .cons h t, n => .cons (h.sh (Bool.and_eq_true_iff.mp n).1) (t.sh (Bool.and_eq_true_iff.mp n).2)
end
mutual
theorem Tk.shH {as : List Addr} {H : Hp} {d l : Addr} {n : Int} (D : DA as H d l n) : ∀ {v : V} {dd : PyData}, Tk H v dd → noL dd = true → Sh (hid as H) v dd
  | _, _, .bl b, _ => .bl b
  | _, _, .int i, _ => .int i
  | _, _, .str x, _ => .str x
  | _, _, .lst h t, n => by cases n
  | _, _, .tup h t, n => sh_tup D h (t.shH D n)
theorem TkAll.shH {as : List Addr} {H : Hp} {d l : Addr} {n : Int} (D : DA as H d l n) : ∀ {vs : List V} {ds : List PyData}, TkAll H vs ds → noLs ds = true → ShAll (hid as H) vs ds
  | _, _, .nil, _ => .nil
  | _, _, .cons h t, n => .cons (h.shH D (Bool.and_eq_true_iff.mp n).1) (t.shH D (Bool.and_eq_true_iff.mp n).2)
end
theorem Tabs.fr {H H' : Hp} {Ps : List Addr} {d l : Addr} {n : Int} (t : Tabs H Ps) (D : DeckC H d l n) (f : Fr d l H H') : Tabs H' Ps := fun P hP => tab_frC D f (t P hP)
theorem Tabs.gr {H H' : Hp} {Ps : List Addr} (t : Tabs H Ps) (g : Gr H H') : Tabs H' Ps := fun P hP => g.2 _ (t P hP)

end Gk

set_option Elab.async false
set_option linter.all false
set_option maxRecDepth 100000
set_option maxHeartbeats 1000000
set_option pp.maxSteps 1500
set_option pp.deepTerms false
namespace Gk
open PySem PySem.Spec PyProof.Rows L2
section
variable {P : Program} {w : World} {K : PySem.W.Frag} {mg : Str → Option Value} {base : Heap}
/-! ### a long net, and its last gate otherwise -/
def bits4 (k : Nat) : List Bool := if k % 4 = 0 then [false, true] else if k % 4 = 1 then [true, false] else if k % 4 = 2 then [false, false] else [true, true]
def gL (s k : Nat) : Gt := (bits4 k, [k / s])
theorem bits_len (k : Nat) : (bits4 k).length = 2 := by
  unfold bits4
  split
  · rfl
  · split
    · rfl
    · split <;> rfl
theorem gL_ok {s k : Nat} (hs : 1 ≤ s) : GtOk (1 + k) (gL s k) := by
  refine ⟨bits_len k, by show 1 ≤ 1; decide, by show 1 ≤ 3; decide, fun i hi => ?_⟩
  rw [List.mem_singleton.mp hi]
  have := Nat.div_le_self k s
  omega
theorem cut_last {xs : List V} : cutV xs none (some (-1)) = xs.take (xs.length - 1) := by
  unfold cutV
  have e : HT.sIx xs.length xs.length (some (-1)) = xs.length - 1 := by
    unfold HT.sIx
    simp
    omega
  rw [HT.sIx_none, e, List.drop_zero, Nat.sub_zero]
theorem FitL.monoX {B n m B' n' m' : Nat} {ds : List PyData} (h : FitL B n m ds) (a : B ≤ B') (b : n ≤ n') (c : m ≤ m') : FitL B' n' m' ds := ⟨gds_iff.mpr fun x hx => gd_mono a (gds_iff.mp h.1 x hx), Nat.le_trans h.2.1 b, Nat.le_trans h.2.2 c⟩
def sp_long_right (T : Tx K mg) : Sp := fun vs H Q _ => ∃ (d l : Addr) (n : Int), vs = [.ref d] ∧ DeckC H d l n ∧ n < 900000 ∧ Tabs H T.tabs ∧ ∀ H', Ts H H' → Tabs H' T.tabs → Q (.bl true) H'
theorem ok_long_right (T : Tx K mg) (B : Tb base T) : FnG P w K mg base CX0 7 T.f_long_right T.fd_long_right ["_law_deck_here"] (sp_long_right T) := by
  refine okG0 T.F_long_right sc_long_right (fun vs H Q E h => ?_) (fun cdv A outer s H vs Q E nothing hr h => ?_)
  · obtain ⟨d, l, n, rfl, _⟩ := h
    rfl
  · obtain ⟨d, l, n, rfl, D, hn, tabs, q⟩ := h
    refine ⟨_, (pss_cons (ps_set (i := 1) sc_long_right.nd rfl (by first | exact .inl rfl | exact .inr rfl) (pe_op op_add pe_int (pe_call (ok_take T) (hr.mono (by decide)) (by rfl) T.g_take T.F_take.kp T.b_take .nil pass0 (pa_cons (pv 0) (pa_cons pe_int pa_nil))))) (pss_cons (ps_set (i := 2) sc_long_right.nd rfl (by first | exact .inl rfl | exact .inr rfl) (pe_op op_add pe_int (pe_call (ok_take T) (hr.mono (by decide)) (by rfl) T.g_take T.F_take.kp T.b_take .nil pass0 (pa_cons (pv 0) (pa_cons pe_int pa_nil))))) (pss_cons (ps_set (i := 3) sc_long_right.nd rfl (by first | exact .inl rfl | exact .inr rfl) (pe_callTy call_tuple_of (by rfl) T.m_tuple (by decide +kernel) (pa_cons (pe_lc (own := [("_law_k", 5)]) (by rfl) sc_long_right.nd (pi_range1 (by rfl) T.m_range (pa_cons (pv 1) pa_nil)) (blkOk_by (own := [("_law_k", 5)]) (N := ["_law_deck_here", "_law_count", "_law_step", "_law_gates", "_law_some", "_law_k"]) (sc := defScope s_long_right) (by decide +kernel)) (fun _ _ _ _ _ => (pg_name (i := 5) sc_long_right.nd rfl (by first | exact .inl rfl | exact .inr rfl))) (fun _ _ _ _ _ => pts_nil) (fun _ _ _ _ _ => (pe_tup (pa_cons (pe_ix (show IxR _ (rIxL K) from ix_list) (pe_lst (pa_cons pe_str (pa_cons pe_str (pa_cons pe_str (pa_cons pe_str pa_nil))))) (pe_op op_mod (pv 5) pe_int) (fun _ _ => rfl)) (pa_cons (pe_tup (pa_cons (pe_op op_fdiv (pv 5) (pv 2)) pa_nil)) pa_nil))))) pa_nil))) (pss_cons (ps_if (pw_or (pt_not (pt_val (pe_callG (ok_right T B) nothing (hr.mono (by decide)) (by rfl) T.g_right T.F_right.kp T.b_right .nil pass0 (pa_cons (pe_tup (pa_cons pe_int (pa_cons (pv 3) pa_nil))) pa_nil)))) (pw_or1 (pt_cmpR op_isnot_bl (pe_call (ok_is_net T B) (hr.mono (by decide)) (by rfl) T.g_is_net T.F_is_net.kp T.b_is_net .nil pass0 (pa_cons (pe_tup (pa_cons pe_int (pa_cons (pv 3) pa_nil))) pa_nil)) pe_bl (nomark _)))).pt (pss_one (ps_ret pe_bl)) pss_nil) (pss_cons (ps_set (i := 4) sc_long_right.nd rfl (by first | exact .inl rfl | exact .inr rfl) (pe_lst (pa_cons (pe_tup (pa_cons pe_str (pa_cons (pe_tup (pa_cons (pv 1) pa_nil)) pa_nil))) (pa_cons (pe_tup (pa_cons pe_str (pa_cons (pe_tup (pa_cons pe_int pa_nil)) pa_nil))) (pa_cons (pe_tup (pa_cons pe_str (pa_cons (pe_tup pa_nil) pa_nil))) (pa_cons (pe_tup (pa_cons pe_str (pa_cons (pe_tup (pa_cons (pe_un un_neg pe_int) pa_nil)) pa_nil))) (pa_cons (pe_lstN (pa_cons pe_str (pa_cons (pe_tup (pa_cons pe_int pa_nil)) pa_nil))) (pa_cons (pe_tup (pa_cons pe_str (pa_cons (pe_lstN (pa_cons pe_int pa_nil)) pa_nil))) (pa_cons (pe_tup (pa_cons pe_str (pa_cons (pe_tup (pa_cons pe_bl pa_nil)) pa_nil))) (pa_cons pe_non pa_nil)))))))))) (pss_one (ps_ret (pe_callG (ok_right T B) nothing (hr.mono (by decide)) (by rfl) T.g_right T.F_right.kp T.b_right .nil pass0 (pa_cons (pe_tup (pa_cons pe_int (pa_cons (pe_op op_catA (pe_slice sl_tupA (pv 3) po_none (po_some (pe_un un_neg pe_int))) (pe_tup (pa_cons (pe_ix ix_list (pv 4) (pe_call (ok_take T) (hr.mono (by decide)) (by rfl) T.g_take T.F_take.kp T.b_take .nil pass0 (pa_cons (pv 0) (pa_cons pe_int pa_nil))) (fun _ _ => rfl)) pa_nil))) pa_nil))) pa_nil))))))))), ?_⟩
    refine ⟨.ref d, rfl, d, l, 1201, _, rfl, D, by omega, by decide, by decide, fun H1 v1 D1 fr1 a0 a1 => ⟨_, _, rfl, rfl, ?_⟩⟩
    refine ⟨.ref d, rfl, d, l, 7, _, rfl, D1, by omega, by decide, by decide, fun H2 v2 D2 fr2 b0 b1 => ⟨_, _, rfl, rfl, ?_⟩⟩
    obtain ⟨c, hc, c0, c1⟩ : ∃ c : Nat, 300 + v1 = (c : Int) ∧ 300 ≤ c ∧ c ≤ 1500 := ⟨(300 + v1).toNat, by omega, by omega, by omega⟩
    obtain ⟨st, hst, st0, st1⟩ : ∃ c : Nat, 1 + v2 = (c : Int) ∧ 1 ≤ c ∧ c ≤ 7 := ⟨(1 + v2).toNat, by omega, by omega, by omega⟩
    have ec : (fun i j : Int => V.int (i + j)) 300 v1 = V.int (c : Nat) := by
      show V.int (300 + v1) = _
      rw [hc]
    have est : (fun i j : Int => V.int (i + j)) 1 v2 = V.int (st : Nat) := by
      show V.int (1 + v2) = _
      rw [hst]
    rw [ec, est]
    refine ⟨.int (c : Nat), rfl, c, rfl, by omega, by omega, fun L nL => ?_⟩
    refine lc_range (lo := 0) (n := (c : Int).toNat) (fun j H' => Same H2 (hd1 L H') ∧ ∃ acc : List V, H' L = some (.lst acc) ∧ TkAll H' acc (((List.range j).map (gL st)).map gD)) ⟨hd1_of (same_upd nL) nL, [], upd_same, .nil⟩ ?_ ?_
    · rintro j H3 hj ⟨s3, acc, hL, tk⟩
      have hj' : j < c := by have : j < (c : Int).toNat := hj; omega
      refine ⟨rfl, sl4, fun p1 n1 => ?_⟩
      have s4 := same_upd (o := (HO.lst [V.str (Str.ofString "01"), V.str (Str.ofString "10"), V.str (Str.ofString "00"), V.str (Str.ofString "11")])) n1
      have h4 : upd H3 p1 (HO.lst [V.str (Str.ofString "01"), V.str (Str.ofString "10"), V.str (Str.ofString "00"), V.str (Str.ofString "11")]) p1 = some (HO.lst [V.str (Str.ofString "01"), V.str (Str.ofString "10"), V.str (Str.ofString "00"), V.str (Str.ofString "11")]) := upd_same
      generalize upd H3 p1 (HO.lst [V.str (Str.ofString "01"), V.str (Str.ofString "10"), V.str (Str.ofString "00"), V.str (Str.ofString "11")]) = H4 at s4 h4 ⊢
      have hat : atI [V.str (Str.ofString "01"), V.str (Str.ofString "10"), V.str (Str.ofString "00"), V.str (Str.ofString "11")] ((0 + (j : Nat)) % 4) = some (.str (tabOf (bits4 j))) := by
        have e1 : Str.ofString "01" = tabOf [false, true] := by decide +kernel
        have e2 : Str.ofString "10" = tabOf [true, false] := by decide +kernel
        have e3 : Str.ofString "00" = tabOf [false, false] := by decide +kernel
        have e4 : Str.ofString "11" = tabOf [true, true] := by decide +kernel
        rw [e1, e2, e3, e4, Int.zero_add]
        have : j % 4 = 0 ∨ j % 4 = 1 ∨ j % 4 = 2 ∨ j % 4 = 3 := by omega
        unfold bits4
        have ej : ((j : Nat) : Int) % 4 = ((j % 4 : Nat) : Int) := by omega
        rw [ej]
        rcases this with z | z | z | z <;> rw [z] <;> rfl
      refine ⟨.int (0 + (j : Nat)), rfl, _, _, rfl, rfl, (by decide : (0 : Int) < 4), p1, _, _, _, rfl, rfl, SqL.of h4, hat, ?_⟩
      refine ⟨.int (0 + (j : Nat)), rfl, .int (st : Nat), rfl, _, _, rfl, rfl, (⟨by omega, by omega⟩ : (0 : Int) < (st : Nat) ∧ ((st : Nat) : Int) < 1073741824), sl1, fun ti nti => ?_⟩
      have ediv : (0 + ((j : Nat) : Int)) / ((st : Nat) : Int) = Int.ofNat (j / st) := by
        rw [Int.zero_add]
        rfl
      have s5 := same_upd (o := (HO.tup [V.int ((0 + ((j : Nat) : Int)) / ((st : Nat) : Int))])) nti
      have h5 : upd H4 ti (HO.tup [V.int ((0 + ((j : Nat) : Int)) / ((st : Nat) : Int))]) ti = some (HO.tup [V.int ((0 + ((j : Nat) : Int)) / ((st : Nat) : Int))]) := upd_same
      generalize upd H4 ti (HO.tup [V.int ((0 + ((j : Nat) : Int)) / ((st : Nat) : Int))]) = H5 at s5 h5 ⊢
      refine ⟨sl2, fun tt ntt => ?_⟩
      have s6 := same_upd (o := (HO.tup [V.str (tabOf (bits4 j)), V.ref ti])) ntt
      have h6 : upd H5 tt (HO.tup [V.str (tabOf (bits4 j)), V.ref ti]) tt = some (HO.tup [V.str (tabOf (bits4 j)), V.ref ti]) := upd_same
      generalize upd H5 tt (HO.tup [V.str (tabOf (bits4 j)), V.ref ti]) = H6 at s6 h6 ⊢
      have sA := (s4.trans s5).trans s6
      have hL6 := sA _ _ hL
      have la : acc.length = j := by rw [tk.length, List.length_map, List.length_map, List.length_range]
      refine ⟨acc, hL6, ?_, s3.trans ((hd1_same sA).trans hd1_upd), _, upd_same, ?_⟩
      · rw [la]
        exact Nat.lt_of_lt_of_le (show j < 2000 by omega) (by decide)
      · rw [List.range_succ, List.map_append, List.map_append]
        rw [ediv] at h5
        have tg : Tk H6 (.ref tt) (gD (gL st j)) := .tup h6 (.cons (.str _) (.cons (.tup (s6 _ _ h5) (.cons (.int _) .nil)) .nil))
        exact ((tk.same sA).ts (Ts.set hL6) (noL_gates _)).append (.cons (tg.ts (Ts.set hL6) (noL_gate _)) .nil)
    rintro H3 ⟨s3, acc, hL, tk⟩
    have s03 : Same H2 H3 := fun b o e => hd1_le _ _ (s3 _ _ e)
    have ecn : (c : Int).toNat = c := by omega
    rw [ecn] at tk
    generalize hgs : (List.range c).map (gL st) = gs at tk
    have lgs : gs.length = c := by rw [← hgs, List.length_map, List.length_range]
    have ok : NetOk 1 gs := fun k g e => by
      rw [← hgs, List.getElem?_map] at e
      obtain ⟨k', hk', rfl⟩ := Option.map_eq_some_iff.mp e
      have hk := (List.getElem?_eq_some_iff.mp hk').1
      rw [List.getElem?_range (by rwa [List.length_range] at hk)] at hk'
      obtain rfl := Option.some.inj hk'
      exact gL_ok st0
    have fgs : FitL (10 ^ 39) (18 * gs.length) 2 (gs.map gD) := fit_gates (c := 17) gs fun g hg => by
      rw [← hgs] at hg
      obtain ⟨k, hk, rfl⟩ := List.mem_map.mp hg
      have hk' := List.mem_range.mp hk
      refine (fit_gate (k := 11) (gL_ok st0) (show 1 + k ≤ 2 ^ 11 by show 1 + k ≤ 2048; omega) (by decide)).mono (Nat.le_refl _) ?_ (Nat.le_refl _)
      show (bits4 k).length + 12 * 1 + 2 ≤ 17
      rw [bits_len]
      decide
    refine ⟨L, _, rfl, .inl ⟨SqL.of hL, fun tq ntq => ?_⟩⟩
    have s4 := same_upd (o := (HO.tup acc)) ntq
    have h4 : upd H3 tq (HO.tup acc) tq = some (HO.tup acc) := upd_same
    generalize upd H3 tq (HO.tup acc) = H4 at s4 h4 ⊢
    have sTq := s03.trans s4
    have D4 := (D2.same s03).same s4
    have t4 := ((tabs.fr D fr1).fr D1 fr2).gr (Gr.of (s03.trans s4))
    have tk4 := tk.same s4
    have netFit : Fit (10 ^ 39) 30000 4 (netD 1 gs) := by
      have a := FitL.one (fit_small (i := 1) (k := 1) (M := 3) (by decide) (by decide))
      exact (Fit.tup (a.app (FitL.one (Fit.tup fgs)))).mono (Nat.le_refl _) (by rw [lgs]; omega) (Nat.le_refl _)
    refine ⟨.ref tq, rfl, sl2, fun r1 nr1 => ?_⟩
    have s5 := same_upd (o := (HO.tup [V.int 1, V.ref tq])) nr1
    have h5 : upd H4 r1 (HO.tup [V.int 1, V.ref tq]) r1 = some (HO.tup [V.int 1, V.ref tq]) := upd_same
    generalize upd H4 r1 (HO.tup [V.int 1, V.ref tq]) = H5 at s5 h5 ⊢
    have tn : ∀ {H' : Hp} {r : Addr}, Gr H4 H' → H' r = some (HO.tup [V.int 1, V.ref tq]) → Sh H' (.ref r) (netD 1 gs) := fun g h => .tup h (.cons (.int _) (.cons ((Tk.tup (g.tup h4) (tk4.gr g)).sh (noL_gates gs)) .nil))
    have t5 := t4.gr (Gr.of s5)
    refine ⟨.ref r1, netD 1 gs, _, _, _, rfl, tn (Gr.of s5) h5, netFit, by decide, by decide, by decide, t5 _ (by simp [Tx.tabs]), t5 _ (by simp [Tx.tabs]), t5 _ (by simp [Tx.tabs]), fun H6' g6 => ⟨_, rfl, iteF ?_⟩⟩
    refine ⟨.ref tq, rfl, sl2, fun r2 nr2 => ?_⟩
    have s7 := same_upd (o := (HO.tup [V.int 1, V.ref tq])) nr2
    have h7 : upd H6' r2 (HO.tup [V.int 1, V.ref tq]) r2 = some (HO.tup [V.int 1, V.ref tq]) := upd_same
    generalize upd H6' r2 (HO.tup [V.int 1, V.ref tq]) = H7' at s7 h7 ⊢
    have g47 := ((Gr.of s5).trans g6).trans (Gr.of s7)
    have t7 := t4.gr g47
    refine ⟨.ref r2, netD 1 gs, rfl, tn g47 h7, Nat.le_trans netFit.2.1 (by decide), t7 _ (by simp [Tx.tabs]), t7 _ (by simp [Tx.tabs]), t7 _ (by simp [Tx.tabs]), fun H6 g6' => ⟨_, _, rfl, rfl, _, rfl, ?_⟩⟩
    rw [show isNetD (netD 1 gs) = true from isNet_ok (m := 1) ok (by decide) (by decide) (by omega)]
    refine iteF ?_
    have g46 := g47.trans g6'
    have D6 := D4.gr g46
    have t6' := t4.gr g46
    have tk6 := tk4.gr g46
    have htq6 := g46.tup h4
    refine ⟨.int (c : Nat), rfl, sl1, fun e1 ne1 => ?_⟩
    have s0 := same_upd (o := (HO.tup [V.int (c : Nat)])) ne1
    have h0 : upd H6 e1 (HO.tup [V.int (c : Nat)]) e1 = some (HO.tup [V.int (c : Nat)]) := upd_same
    generalize upd H6 e1 (HO.tup [V.int (c : Nat)]) = A0 at s0 h0 ⊢
    refine ⟨sl2, fun t1 nt1 => ?_⟩
    have s1 := same_upd (o := (HO.tup [V.str (Str.ofString "01"), V.ref e1])) nt1
    have h1 : upd A0 t1 (HO.tup [V.str (Str.ofString "01"), V.ref e1]) t1 = some (HO.tup [V.str (Str.ofString "01"), V.ref e1]) := upd_same
    generalize upd A0 t1 (HO.tup [V.str (Str.ofString "01"), V.ref e1]) = A1 at s1 h1 ⊢
    refine ⟨sl1, fun e2 ne2 => ?_⟩
    have s2 := same_upd (o := (HO.tup [V.int 0])) ne2
    have h2 : upd A1 e2 (HO.tup [V.int 0]) e2 = some (HO.tup [V.int 0]) := upd_same
    generalize upd A1 e2 (HO.tup [V.int 0]) = A2 at s2 h2 ⊢
    refine ⟨sl2, fun t2 nt2 => ?_⟩
    have s3 := same_upd (o := (HO.tup [V.str (Str.ofString "0"), V.ref e2])) nt2
    have h3 : upd A2 t2 (HO.tup [V.str (Str.ofString "0"), V.ref e2]) t2 = some (HO.tup [V.str (Str.ofString "0"), V.ref e2]) := upd_same
    generalize upd A2 t2 (HO.tup [V.str (Str.ofString "0"), V.ref e2]) = A3 at s3 h3 ⊢
    refine ⟨Nat.zero_le _, fun e3 ne3 => ?_⟩
    have s4 := same_upd (o := (HO.tup [])) ne3
    have h4 : upd A3 e3 (HO.tup []) e3 = some (HO.tup []) := upd_same
    generalize upd A3 e3 (HO.tup []) = A4 at s4 h4 ⊢
    refine ⟨sl2, fun t3 nt3 => ?_⟩
    have s5 := same_upd (o := (HO.tup [V.str (Str.ofString "01"), V.ref e3])) nt3
    have h5 : upd A4 t3 (HO.tup [V.str (Str.ofString "01"), V.ref e3]) t3 = some (HO.tup [V.str (Str.ofString "01"), V.ref e3]) := upd_same
    generalize upd A4 t3 (HO.tup [V.str (Str.ofString "01"), V.ref e3]) = A5 at s5 h5 ⊢
    refine ⟨_, rfl, sl1, fun e4 ne4 => ?_⟩
    have s6 := same_upd (o := (HO.tup [V.int (-1)])) ne4
    have h6 : upd A5 e4 (HO.tup [V.int (-1)]) e4 = some (HO.tup [V.int (-1)]) := upd_same
    generalize upd A5 e4 (HO.tup [V.int (-1)]) = A6 at s6 h6 ⊢
    refine ⟨sl2, fun t4 nt4 => ?_⟩
    have s7 := same_upd (o := (HO.tup [V.str (Str.ofString "01"), V.ref e4])) nt4
    have h7 : upd A6 t4 (HO.tup [V.str (Str.ofString "01"), V.ref e4]) t4 = some (HO.tup [V.str (Str.ofString "01"), V.ref e4]) := upd_same
    generalize upd A6 t4 (HO.tup [V.str (Str.ofString "01"), V.ref e4]) = A7 at s7 h7 ⊢
    refine ⟨sl1, fun e5 ne5 => ?_⟩
    have s8 := same_upd (o := (HO.tup [V.int 0])) ne5
    have h8 : upd A7 e5 (HO.tup [V.int 0]) e5 = some (HO.tup [V.int 0]) := upd_same
    generalize upd A7 e5 (HO.tup [V.int 0]) = A8 at s8 h8 ⊢
    refine ⟨sl2, fun l5 nl5 ml5 => ?_⟩
    have s9 := same_upd (o := (HO.lst [V.str (Str.ofString "01"), V.ref e5])) nl5
    have h9 : upd A8 l5 (HO.lst [V.str (Str.ofString "01"), V.ref e5]) l5 = some (HO.lst [V.str (Str.ofString "01"), V.ref e5]) := upd_same
    generalize upd A8 l5 (HO.lst [V.str (Str.ofString "01"), V.ref e5]) = A9 at s9 h9 ⊢
    refine ⟨sl1, fun l6 nl6 ml6 => ?_⟩
    have s10 := same_upd (o := (HO.lst [V.int 0])) nl6
    have h10 : upd A9 l6 (HO.lst [V.int 0]) l6 = some (HO.lst [V.int 0]) := upd_same
    generalize upd A9 l6 (HO.lst [V.int 0]) = A10 at s10 h10 ⊢
    refine ⟨sl2, fun t6 nt6 => ?_⟩
    have s11 := same_upd (o := (HO.tup [V.str (Str.ofString "01"), V.ref l6])) nt6
    have h11 : upd A10 t6 (HO.tup [V.str (Str.ofString "01"), V.ref l6]) t6 = some (HO.tup [V.str (Str.ofString "01"), V.ref l6]) := upd_same
    generalize upd A10 t6 (HO.tup [V.str (Str.ofString "01"), V.ref l6]) = A11 at s11 h11 ⊢
    refine ⟨sl1, fun e7 ne7 => ?_⟩
    have s12 := same_upd (o := (HO.tup [V.bl true])) ne7
    have h12 : upd A11 e7 (HO.tup [V.bl true]) e7 = some (HO.tup [V.bl true]) := upd_same
    generalize upd A11 e7 (HO.tup [V.bl true]) = A12 at s12 h12 ⊢
    refine ⟨sl2, fun t7 nt7 => ?_⟩
    have s13 := same_upd (o := (HO.tup [V.str (Str.ofString "01"), V.ref e7])) nt7
    have h13 : upd A12 t7 (HO.tup [V.str (Str.ofString "01"), V.ref e7]) t7 = some (HO.tup [V.str (Str.ofString "01"), V.ref e7]) := upd_same
    generalize upd A12 t7 (HO.tup [V.str (Str.ofString "01"), V.ref e7]) = A13 at s13 h13 ⊢
    refine ⟨by show 8 ≤ sizeLine; decide, fun C nC => ?_⟩
    have sz := same_upd (o := (HO.lst [V.ref t1, V.ref t2, V.ref t3, V.ref t4, V.ref l5, V.ref t6, V.ref t7, V.non])) nC
    have hz : upd A13 C (HO.lst [V.ref t1, V.ref t2, V.ref t3, V.ref t4, V.ref l5, V.ref t6, V.ref t7, V.non]) C = some (HO.lst [V.ref t1, V.ref t2, V.ref t3, V.ref t4, V.ref l5, V.ref t6, V.ref t7, V.non]) := upd_same
    generalize upd A13 C (HO.lst [V.ref t1, V.ref t2, V.ref t3, V.ref t4, V.ref l5, V.ref t6, V.ref t7, V.non]) = Z at sz hz ⊢
    have z13 : Same A13 Z := sz
    have z12 : Same A12 Z := s13.trans z13
    have z11 : Same A11 Z := s12.trans z12
    have z10 : Same A10 Z := s11.trans z11
    have z9 : Same A9 Z := s10.trans z10
    have z8 : Same A8 Z := s9.trans z9
    have z7 : Same A7 Z := s8.trans z8
    have z6 : Same A6 Z := s7.trans z7
    have z5 : Same A5 Z := s6.trans z6
    have z4 : Same A4 Z := s5.trans z5
    have z3 : Same A3 Z := s4.trans z4
    have z2 : Same A2 Z := s3.trans z3
    have z1 : Same A1 Z := s2.trans z2
    have z0 : Same A0 Z := s1.trans z1
    have gz := s0.trans z0
    have pre0 := s0
    have pre1 := pre0.trans s1
    have pre2 := pre1.trans s2
    have pre3 := pre2.trans s3
    have pre4 := pre3.trans s4
    have pre5 := pre4.trans s5
    have pre6 := pre5.trans s6
    have pre7 := pre6.trans s7
    have pre8 := pre7.trans s8
    have pre9 := pre8.trans s9
    have pre10 := pre9.trans s10
    have pre11 := pre10.trans s11
    have pre12 := pre11.trans s12
    have pre13 := pre12.trans s13
    have ke1 := z0 _ _ h0
    have kt1 := z1 _ _ h1
    have ke2 := z2 _ _ h2
    have kt2 := z3 _ _ h3
    have ke3 := z4 _ _ h4
    have kt3 := z5 _ _ h5
    have ke4 := z6 _ _ h6
    have kt4 := z7 _ _ h7
    have ke5 := z8 _ _ h8
    have kl5 := z9 _ _ h9
    have kl6 := z10 _ _ h10
    have kt6 := z11 _ _ h11
    have ke7 := z12 _ _ h12
    have kt7 := z13 _ _ h13
    have DZ := D6.same gz
    have ol5 := (D6.same pre8).out nl5
    have ol6 := (D6.same pre9).out nl6
    have oC := (D6.same pre13).off nC
    refine ⟨.ref tq, rfl, _, rfl, _, rfl, slA (gz _ _ htq6) fun q8 B1 b1 hb1 => ?_⟩
    have DB := DZ.same b1
    refine ⟨.ref C, rfl, .ref d, rfl, d, l, 8, _, rfl, DB, by omega, by decide, by decide, fun H9 u D9 fr9 u0 u1 => ?_⟩
    have ts9 := Ts.frC DB fr9
    have hid9 : Same (hid [d, l] B1) (hid [d, l] H9) := hid_fr fr9 in_d in_l
    have sB9 : Same (hid [d, l] Z) (hid [d, l] H9) := (hid_same b1).trans hid9
    have tt : ∀ {a : Addr} {xs : List V}, Z a = some (.tup xs) → H9 a = some (.tup xs) := fun h => ts9 _ _ (b1 _ _ h)
    have all : ShAll (hid [d, l] H9) [V.ref t1, V.ref t2, V.ref t3, V.ref t4, V.ref l5, V.ref t6, V.ref t7, V.non] [.tuple [.str (Str.ofString "01"), .tuple [.int (c : Nat)]], .tuple [.str (Str.ofString "0"), .tuple [.int 0]], .tuple [.str (Str.ofString "01"), .tuple []], .tuple [.str (Str.ofString "01"), .tuple [.int (-1)]], .list [.str (Str.ofString "01"), .tuple [.int 0]], .tuple [.str (Str.ofString "01"), .list [.int 0]], .tuple [.str (Str.ofString "01"), .tuple [.bool true]], .none] := by
      have i0 : Sh (hid [d, l] H9) (.int 0) (.int 0) := .int 0
      have e0 : ∀ {a : Addr}, Z a = some (.tup [V.int 0]) → Sh (hid [d, l] H9) (.ref a) (.tuple [.int 0]) := fun h => sh_tup D9.da (tt h) (.cons i0 .nil)
      refine .cons (sh_tup D9.da (tt kt1) (.cons (.str _) (.cons (sh_tup D9.da (tt ke1) (.cons (.int _) .nil)) .nil))) ?_
      refine .cons (sh_tup D9.da (tt kt2) (.cons (.str _) (.cons (e0 ke2) .nil))) ?_
      refine .cons (sh_tup D9.da (tt kt3) (.cons (.str _) (.cons (sh_tup D9.da (tt ke3) .nil) .nil))) ?_
      refine .cons (sh_tup D9.da (tt kt4) (.cons (.str _) (.cons (sh_tup D9.da (tt ke4) (.cons (.int _) .nil)) .nil))) ?_
      refine .cons (.lst (sB9 _ _ (by rw [hid_at ol5]; exact kl5)) ml5 (.cons (.str _) (.cons (e0 ke5) .nil))) ?_
      refine .cons (sh_tup D9.da (tt kt6) (.cons (.str _) (.cons (.lst (sB9 _ _ (by rw [hid_at ol6]; exact kl6)) ml6 (.cons i0 .nil)) .nil))) ?_
      exact .cons (sh_tup D9.da (tt kt7) (.cons (.str _) (.cons (sh_tup D9.da (tt ke7) (.cons (.bl _) .nil)) .nil))) (.cons .non .nil)
    have fits : ∀ z ∈ ([.tuple [.str (Str.ofString "01"), .tuple [.int (c : Nat)]], .tuple [.str (Str.ofString "0"), .tuple [.int 0]], .tuple [.str (Str.ofString "01"), .tuple []], .tuple [.str (Str.ofString "01"), .tuple [.int (-1)]], .list [.str (Str.ofString "01"), .tuple [.int 0]], .tuple [.str (Str.ofString "01"), .list [.int 0]], .tuple [.str (Str.ofString "01"), .tuple [.bool true]], .none] : List PyData), Fit (10 ^ 39) 100 3 z := by
      intro z hz
      simp only [List.mem_cons, List.not_mem_nil, or_false] at hz
      rcases hz with rfl | rfl | rfl | rfl | rfl | rfl | rfl | rfl
      · have a := FitL.one (fit_small (i := (c : Nat)) (k := 11) (M := 1) (show ((c : Nat) : Int).natAbs < 2 ^ 11 by show c < 2048; omega) (by decide))
        have b : Fit (10 ^ 39) 4 2 (.str (Str.ofString "01")) := ⟨rfl, by decide, by decide⟩
        exact (Fit.tup ((FitL.one b).app (FitL.one (Fit.tup a)))).mono (Nat.le_refl _) (by decide) (Nat.le_refl _)
      all_goals exact ⟨by decide, by decide, by decide⟩
    obtain ⟨x, dx, hx, shx, fx⟩ := pick_sh all fits u0 u1
    refine ⟨C, _, u, x, rfl, rfl, SqL.of (fr9 _ _ oC.1 oC.2 (b1 _ _ hz)), hx, sl1, fun t8 nt8 => ?_⟩
    have b2 := same_upd (o := (HO.tup [x])) nt8
    have hb2 : upd H9 t8 (HO.tup [x]) t8 = some (HO.tup [x]) := upd_same
    generalize upd H9 t8 (HO.tup [x]) = B2 at b2 hb2 ⊢
    have lacc : acc.length = gs.length := by rw [tk.length, List.length_map]
    rw [cut_last] at hb1
    refine catA (b2 _ _ (ts9 _ _ hb1)) hb2 ?_ fun q9 B3 b3 hb3 => ?_
    · rw [List.length_take]
      exact Nat.le_trans (show min (acc.length - 1) acc.length + 1 ≤ 2000 by omega) (by decide)
    refine ⟨sl2, fun r nr => ?_⟩
    have b4 := same_upd (o := (HO.tup [V.int 1, V.ref q9])) nr
    have hb4 : upd B3 r (HO.tup [V.int 1, V.ref q9]) r = some (HO.tup [V.int 1, V.ref q9]) := upd_same
    generalize upd B3 r (HO.tup [V.int 1, V.ref q9]) = B4 at b4 hb4 ⊢
    have t9 := (((t6'.gr (Gr.of gz)).gr (Gr.of b1)).fr DB fr9).gr (Gr.of ((b2.trans b3).trans b4))
    have shG : ShAll B4 acc (gs.map gD) := ((((tk6.same gz).same b1).ts ts9 (noL_gates gs)).same ((b2.trans b3).trans b4)).sh (noL_gates gs)
    have sx : Sh B4 x dx := (shx.same hid_le).same ((b2.trans b3).trans b4)
    refine ⟨.ref r, .tuple [.int 1, .tuple ((gs.map gD).take (acc.length - 1) ++ [dx])], 10 ^ 39, 30000, 5, rfl, ?_, ?_, by decide, by decide, by decide, t9 _ (by simp [Tx.tabs]), t9 _ (by simp [Tx.tabs]), t9 _ (by simp [Tx.tabs]), fun H' gF => q H' ?_ (t9.gr gF)⟩
    rotate_left 2
    · exact fun b zs e => gF.tup (((b2.trans b3).trans b4) _ _ (ts9 _ _ (b1 _ _ (gz _ _ (g46.tup (sTq _ _ (Ts.frC D1 fr2 _ _ (Ts.frC D fr1 _ _ e))))))))
    · exact .tup hb4 (.cons (.int _) (.cons (.tup (b4 _ _ hb3) ((shG.take _).append (.cons sx .nil))) .nil))
    · have a := FitL.one (fit_small (i := 1) (k := 1) (M := 4) (by decide) (by decide))
      have f2 := (fgs.take (acc.length - 1)).monoX (Nat.le_refl _) (Nat.le_refl _) (show 2 ≤ 3 by decide)
      exact (Fit.tup (a.app (FitL.one (Fit.tup (f2.app (FitL.one fx)))))).mono (Nat.le_refl _) (show 1 + 1 + (18 * gs.length + (100 + 1) + 1) ≤ 30000 by rw [lgs]; omega) (Nat.le_refl _)

end
end Gk

set_option Elab.async false
set_option linter.all false
set_option maxRecDepth 100000
set_option maxHeartbeats 1000000
set_option pp.maxSteps 1500
set_option pp.deepTerms false
namespace Gk
open PySem PySem.Spec PyProof.Rows L2
section
variable {P : Program} {w : World} {K : PySem.W.Frag} {mg : Str → Option Value} {base : Heap}
/-! ### the law -/
def NetP (H : Hp) (c : Addr) (m : Nat) (gs : List Gt) : Prop := Tk H (.ref c) (netD (m : Nat) gs) ∧ NetOk m gs ∧ 1 ≤ m ∧ m ≤ 6 ∧ 1 ≤ gs.length ∧ gs.length ≤ 120
theorem NetP.ts {H H' : Hp} {c : Addr} {m : Nat} {gs : List Gt} (n : NetP H c m gs) (t : Ts H H') : NetP H' c m gs := ⟨n.1.ts t (noL_net _ _), n.2⟩
theorem NetP.gr {H H' : Hp} {c : Addr} {m : Nat} {gs : List Gt} (n : NetP H c m gs) (g : Gr H H') : NetP H' c m gs := ⟨n.1.gr g, n.2⟩
def oneD (k : Int) : PyData := .tuple [.int k, .tuple [.tuple [.str (Str.ofString "01"), .tuple [.int 0]]]]
theorem noL_one (k : Int) : noL (oneD k) = true := rfl
def sp_law (K : PySem.W.Frag) (Ps : List Addr) : Sp := fun vs H Q _ => ∃ (a : Addr) (ns : List Int), vs = [.ref a] ∧ SqL K H a (ns.map V.int) ∧ ns.length ≤ 63 ∧ Tabs H Ps ∧ ∀ H', Q (.bl true) H'
theorem ok_law (T : Tx K mg) (B : Tb base T) : FnG P w K mg base CX0 9 T.f_law T.fd_law ["_law_script"] (sp_law K T.tabs) := by
  refine okG0 T.F_law sc_law (fun vs H Q E h => ?_) (fun cdv A outer s H vs Q E nothing hr h => ?_)
  · obtain ⟨a, ns, rfl, _⟩ := h
    rfl
  · obtain ⟨a, ns, rfl, hS, hlen, tabs, q⟩ := h
    refine ⟨_, (pss_cons (ps_set (i := 1) sc_law.nd rfl (by first | exact .inl rfl | exact .inr rfl) (pe_call (ok_deck T) (hr.mono (by decide)) (by rfl) T.g_deck T.F_deck.kp T.b_deck .nil pass0 (pa_cons (pv 0) pa_nil))) (pss_cons (ps_for PassesOwn.never rfl (pi_range1 (by rfl) T.m_range (pa_cons pe_int pa_nil)) (pg_name (i := 2) sc_law.nd rfl (by first | exact .inl rfl | exact .inr rfl)) (pss_cons (ps_set (i := 3) sc_law.nd rfl (by first | exact .inl rfl | exact .inr rfl) (pe_cmpR op_eq (pe_call (ok_take T) (hr.mono (by decide)) (by rfl) T.g_take T.F_take.kp T.b_take .nil pass0 (pa_cons (pv 1) (pa_cons pe_int pa_nil))) pe_int (nomark _))) (pss_cons (ps_set (i := 4) sc_law.nd rfl (by first | exact .inl rfl | exact .inr rfl) (pe_call (ok_net T) (hr.mono (by decide)) (by rfl) T.g_net T.F_net.kp T.b_net .nil pass0 (pa_cons (pv 1) pa_nil))) (pss_cons (ps_if (pt_cmpR op_isnot_bl (pe_call (ok_is_net T B) (hr.mono (by decide)) (by rfl) T.g_is_net T.F_is_net.kp T.b_is_net .nil pass0 (pa_cons (pv 4) pa_nil)) pe_bl (nomark _)) (pss_one (ps_ret pe_bl)) pss_nil) (pss_one (ps_for PassesOwn.never rfl (pi_range1 (by rfl) T.m_range (pa_cons pe_int pa_nil)) (pg_name (i := 5) sc_law.nd rfl (by first | exact .inl rfl | exact .inr rfl)) (pss_cons (ps_set (i := 6) sc_law.nd rfl (by first | exact .inl rfl | exact .inr rfl) (pe_call (ok_spoilt T) (hr.mono (by decide)) (by rfl) T.g_spoilt T.F_spoilt.kp T.b_spoilt .nil pass0 (pa_cons (pv 1) (pa_cons (pv 4) (pa_cons pe_int pa_nil))))) (C8.pss_cut (ps_if (pt_val (pv 3)) (pss_one (ps_set (i := 6) sc_law.nd rfl (by first | exact .inl rfl | exact .inr rfl) (pe_call (ok_spoilt T) (hr.mono (by decide)) (by rfl) T.g_spoilt T.F_spoilt.kp T.b_spoilt .nil pass0 (pa_cons (pv 1) (pa_cons (pv 6) (pa_cons pe_int pa_nil)))))) pss_nil) (pss_one (ps_if (pt_not (pt_val (pe_callG (ok_right T B) nothing (hr.mono (by decide)) (by rfl) T.g_right T.F_right.kp T.b_right .nil pass0 (pa_cons (pv 6) pa_nil)))) (pss_one (ps_ret pe_bl)) pss_nil)))))))))) (pss_cons (ps_set (i := 7) sc_law.nd rfl (by first | exact .inl rfl | exact .inr rfl) (pe_op op_cat (pe_lc (own := [("_law_many", 8)]) (by rfl) sc_law.nd (pi_tup (pe_tup (pa_cons pe_int (pa_cons pe_int (pa_cons pe_int (pa_cons pe_int pa_nil)))))) (blkOk_by (own := [("_law_many", 8)]) (N := ["_law_script", "_law_deck_here", "_law_turn", "_law_twice", "_law_net_here", "_law_again", "_law_thing", "_law_some", "_law_many"]) (sc := defScope s_law) (by decide +kernel)) (fun _ _ _ _ _ => (pg_name (i := 8) sc_law.nd rfl (by first | exact .inl rfl | exact .inr rfl))) (fun _ _ _ _ _ => pts_nil) (fun _ _ _ _ _ => (pe_tup (pa_cons (pv 8) (pa_cons (pe_tup (pa_cons (pe_tup (pa_cons pe_str (pa_cons (pe_tup (pa_cons pe_int pa_nil)) pa_nil))) pa_nil)) pa_nil))))) (pe_lst (pa_cons (pe_tup (pa_cons pe_int (pa_cons (pe_tup pa_nil) pa_nil))) (pa_cons (pe_tup (pa_cons pe_int (pa_cons (pe_tup (pa_cons (pe_tup (pa_cons pe_str (pa_cons (pe_tup (pa_cons pe_int pa_nil)) pa_nil))) pa_nil)) pa_nil))) (pa_cons (pe_tup (pa_cons pe_int (pa_cons (pe_tup (pa_cons (pe_tup (pa_cons pe_str (pa_cons (pe_tup pa_nil) pa_nil))) pa_nil)) pa_nil))) pa_nil)))))) (pss_cons (ps_set (i := 7) sc_law.nd rfl (by first | exact .inl rfl | exact .inr rfl) (pe_op op_cat (pv 7) (pe_lst (pa_cons (pe_tup (pa_cons pe_int (pa_cons (pe_tup (pa_cons (pe_tup (pa_cons pe_str (pa_cons (pe_tup (pa_cons pe_int (pa_cons pe_int (pa_cons pe_int (pa_cons pe_int pa_nil))))) pa_nil))) pa_nil)) pa_nil))) (pa_cons (pe_tup (pa_cons pe_int (pa_cons (pe_tup (pa_cons (pe_tup (pa_cons pe_str (pa_cons (pe_tup pa_nil) pa_nil))) pa_nil)) pa_nil))) (pa_cons (pe_tup (pa_cons pe_int (pa_cons (pe_tup (pa_cons (pe_tup (pa_cons pe_str (pa_cons (pe_tup pa_nil) pa_nil))) (pa_cons (pe_tup (pa_cons pe_str (pa_cons (pe_tup (pa_cons pe_int pa_nil)) pa_nil))) pa_nil))) pa_nil))) pa_nil)))))) (pss_cons (ps_for PassesOwn.never rfl (pi_list (pe_op op_cat (pv 7) (pe_lst (pa_cons pe_non (pa_cons pe_int (pa_cons pe_bl (pa_cons pe_str (pa_cons pe_str (pa_cons (pe_tup pa_nil) (pa_cons (pe_lstN pa_nil) (pa_cons pe_dnewK (pa_cons (pe_tup (pa_cons pe_int pa_nil)) (pa_cons (pe_tup (pa_cons (pe_tup pa_nil) (pa_cons pe_int pa_nil))) pa_nil))))))))))))) (pg_name (i := 6) sc_law.nd rfl (by first | exact .inl rfl | exact .inr rfl)) (pss_one (ps_if (pt_not (pt_val (pe_callG (ok_right T B) nothing (hr.mono (by decide)) (by rfl) T.g_right T.F_right.kp T.b_right .nil pass0 (pa_cons (pv 6) pa_nil)))) (pss_one (ps_ret pe_bl)) pss_nil))) (pss_cons (ps_if (pw_and (pt_cmpR op_eq (pe_call (ok_take T) (hr.mono (by decide)) (by rfl) T.g_take T.F_take.kp T.b_take .nil pass0 (pa_cons (pv 1) (pa_cons pe_int pa_nil))) pe_int (nomark _)) (pw_and1 (pt_not (pt_val (pe_callG (ok_long_right T B) nothing (hr.mono (by decide)) (by rfl) T.g_long_right T.F_long_right.kp T.b_long_right .nil pass0 (pa_cons (pv 1) pa_nil)))))).pt (pss_one (ps_ret pe_bl)) pss_nil) (pss_one (ps_ret (pe_cmpR op_is_bl (pe_call (ok_is_net T B) (hr.mono (by decide)) (by rfl) T.g_is_net T.F_is_net.kp T.b_is_net .nil pass0 (pa_cons (pv 4) pa_nil)) pe_bl (nomark _)))))))))), ?_⟩
    refine ⟨.ref a, rfl, a, ns, rfl, hS, hlen, fun H1 d l s1 D1 => ?_⟩
    have t1 : Tabs H1 T.tabs := tabs.gr (Gr.of s1)
    refine ⟨6, rfl, by decide, by decide, for_range (lo := 0) (n := (6 : Int).toNat) (fun i σ H' => ∃ y2 y3 y4 y5 y6 y7 y8, σ = [some (.ref a), some (.ref d), y2, y3, y4, y5, y6, y7, y8] ∧ DeckC H' d l (3000 * i) ∧ Tabs H' T.tabs ∧ (i = 0 ∨ ∃ c m gs, y4 = some (.ref c) ∧ NetP H' c m gs))
      ⟨_, _, _, _, _, _, _, rfl, D1.mono (by omega), t1, .inl rfl⟩ ?_ ?_⟩
    · rintro i σ H2 hi ⟨y2, y3, y4, y5, y6, y7, y8, rfl, D2, t2, _⟩
      have hi' : i < 6 := hi
      refine ⟨.ref d, rfl, d, l, 3, _, rfl, D2, by omega, by decide, by decide, fun H3 tw D3 fr3 _ _ => ⟨rfl, ?_⟩⟩
      generalize decide (V.int tw = V.int 0) = twice
      have t3 := t2.fr D2 fr3
      refine ⟨.ref d, rfl, d, l, _, rfl, D3, by omega, fun c H4 m gs D4 fr4 tk4 m1 m6 l1 l120 ok => ?_⟩
      have t4 := t3.fr D3 fr4
      have np4 : NetP H4 c m gs := ⟨tk4, ok, m1, m6, l1, l120⟩
      have fN := fit_net ok m6 l120
      have iN := isNet_ok ok m1 m6 l1
      refine ⟨.ref c, rfl, .ref c, netD m gs, rfl, tk4.sh (noL_net _ _), Nat.le_trans fN.2.1 (by decide), t4 _ (by simp [Tx.tabs]), t4 _ (by simp [Tx.tabs]), t4 _ (by simp [Tx.tabs]), fun H5 g5 => ⟨_, _, rfl, rfl, _, rfl, ?_⟩⟩
      rw [iN]
      refine iteF ?_
      refine ⟨3, rfl, by decide, by decide, for_range (lo := 0) (n := (3 : Int).toNat) (fun j σ H' => ∃ y5 y6, σ = [some (.ref a), some (.ref d), some (.int (0 + (i : Nat))), some (.bl twice), some (.ref c), y5, y6, y7, y8] ∧ DeckC H' d l (3000 * i + 2001 + 40 * j) ∧ Tabs H' T.tabs ∧ NetP H' c m gs)
        ⟨_, _, rfl, (D4.gr g5).mono (by omega), t4.gr g5, np4.gr g5⟩ ?_ ?_⟩
      · rintro j σ H6 hj ⟨y5, y6, rfl, D6, t6, np6⟩
        have hj' : j < 3 := hj
        refine ⟨.ref d, rfl, .ref c, rfl, [d, l], d, l, _, .ref c, netD m gs, 10 ^ 39, 4600, 4, rfl, D6.da, by omega, np6.1.shH D6.da (noL_net _ _), fN, by decide, by decide, fun v7 H7 d7 D7 fr7 sh7 f7 => ?_⟩
        have t7 := t6.fr D6 fr7
        have np7 := np6.ts (Ts.frC D6 fr7)
        refine ⟨fun σ H' => ∃ v dd, σ = [some (.ref a), some (.ref d), some (.int (0 + (i : Nat))), some (.bl twice), some (.ref c), some (.int (0 + (j : Nat))), some v, y7, y8] ∧ DeckC H' d l (3000 * i + 2001 + 40 * j + 30) ∧ Tabs H' T.tabs ∧ NetP H' c m gs ∧ Sh H' v dd ∧ Fit (10 ^ 39 + 10 ^ 39 + 10 + 10 ^ 39 + 10) 20000 10 dd, ?_, ?_⟩
        · refine ⟨.bl twice, rfl, twice, rfl, ite2 (fun e => ?_) (fun e => ?_)⟩
          · refine ⟨.ref d, rfl, v7, rfl, [d, l], d, l, _, v7, d7, 10 ^ 39 + 10 ^ 39 + 10, 2 * 4600 + 400 + 4, 7, rfl, D7, by omega, sh7, f7, by decide, by decide, fun v8 H8 d8 D8 fr8 sh8 f8 => ?_⟩
            exact ⟨v8, d8, rfl, D8.d1.mono (by omega), t7.fr D7.d1 fr8, np7.ts (Ts.frC D7.d1 fr8), sh8.same hid_le, f8.mono (Nat.le_refl _) (by decide) (by decide)⟩
          · exact ⟨v7, d7, rfl, D7.d1.mono (by omega), t7, np7, sh7.same hid_le, f7.mono (by decide) (by decide) (by decide)⟩
        · rintro σ H8 ⟨v, dd, rfl, D8, t8, np8, sh8, f8⟩
          refine ⟨v, rfl, v, dd, _, _, _, rfl, sh8, f8, by decide, by decide, by decide, t8 _ (by simp [Tx.tabs]), t8 _ (by simp [Tx.tabs]), t8 _ (by simp [Tx.tabs]), fun H9 g9 => ⟨_, rfl, iteF ?_⟩⟩
          exact ⟨_, _, rfl, (D8.gr g9).mono (by push_cast; omega), t8.gr g9, np8.gr g9⟩
      · rintro σ H6 ⟨y5, y6, rfl, D6, t6, np6⟩
        exact ⟨_, _, _, _, _, _, _, rfl, D6.mono (by push_cast; show 3000 * (i : Int) + 2001 + 40 * ((3 : Int).toNat : Nat) ≤ _; omega), t6, .inr ⟨c, m, gs, rfl, np6⟩⟩
    rintro σ H2 ⟨y2, y3, y4, y5, y6, y7, y8, rfl, D2, t2, hn⟩
    obtain ⟨c, m, gs, rfl, np2⟩ : ∃ c m gs, y4 = some (.ref c) ∧ NetP H2 c m gs := by
      rcases hn with z | z
      · cases z
      · exact z
    refine ⟨sl4, fun p np => ?_⟩
    have b0 := same_upd (o := (HO.tup [V.int 0, V.int 1, V.int 6, V.int 7])) np
    have hb0 : upd H2 p (HO.tup [V.int 0, V.int 1, V.int 6, V.int 7]) p = some (HO.tup [V.int 0, V.int 1, V.int 6, V.int 7]) := upd_same
    generalize upd H2 p (HO.tup [V.int 0, V.int 1, V.int 6, V.int 7]) = B0 at b0 hb0 ⊢
    refine ⟨p, rfl, ⟨_, SqT.of hb0⟩, fun S nS => ?_⟩
    refine lc_tup (K := K) (a := p) (xs := ([0, 1, 6, 7] : List Int).map V.int) (fun j H' => Same B0 (hd1 S H') ∧ ∃ acc : List V, H' S = some (.lst acc) ∧ TkAll H' acc ((([0, 1, 6, 7] : List Int).take j).map oneD)) ⟨hd1_of (same_upd nS) nS, [], upd_same, .nil⟩ (fun j H' _ z => SqT.of (hd1_le _ _ (z.1 _ _ hb0))) ?_ ?_
    · rintro j x H3 hx ⟨s3, acc, hS3, tk⟩
      rw [List.getElem?_map] at hx
      obtain ⟨k, hk, rfl⟩ := Option.map_eq_some_iff.mp hx
      have hj : j < 4 := (List.getElem?_eq_some_iff.mp hk).1
      refine ⟨rfl, .int k, rfl, sl1, fun e1 ne1 => ?_⟩
      have s4 := same_upd (o := (HO.tup [V.int 0])) ne1
      have h4 : upd H3 e1 (HO.tup [V.int 0]) e1 = some (HO.tup [V.int 0]) := upd_same
      generalize upd H3 e1 (HO.tup [V.int 0]) = H4 at s4 h4 ⊢
      refine ⟨sl2, fun e2 ne2 => ?_⟩
      have s5 := same_upd (o := (HO.tup [V.str (Str.ofString "01"), V.ref e1])) ne2
      have h5 : upd H4 e2 (HO.tup [V.str (Str.ofString "01"), V.ref e1]) e2 = some (HO.tup [V.str (Str.ofString "01"), V.ref e1]) := upd_same
      generalize upd H4 e2 (HO.tup [V.str (Str.ofString "01"), V.ref e1]) = H5 at s5 h5 ⊢
      refine ⟨sl1, fun e3 ne3 => ?_⟩
      have s6 := same_upd (o := (HO.tup [V.ref e2])) ne3
      have h6 : upd H5 e3 (HO.tup [V.ref e2]) e3 = some (HO.tup [V.ref e2]) := upd_same
      generalize upd H5 e3 (HO.tup [V.ref e2]) = H6 at s6 h6 ⊢
      refine ⟨sl2, fun e4 ne4 => ?_⟩
      have s7 := same_upd (o := (HO.tup [V.int k, V.ref e3])) ne4
      have h7 : upd H6 e4 (HO.tup [V.int k, V.ref e3]) e4 = some (HO.tup [V.int k, V.ref e3]) := upd_same
      generalize upd H6 e4 (HO.tup [V.int k, V.ref e3]) = H7 at s7 h7 ⊢
      have sA := ((s4.trans s5).trans s6).trans s7
      have hS7 := sA _ _ hS3
      have la : acc.length ≤ 4 := by rw [tk.length, List.length_map, List.length_take]; exact Nat.min_le_right _ _
      have tg : Tk H7 (.ref e4) (oneD k) := .tup h7 (.cons (.int _) (.cons (.tup (s7 _ _ h6) (.cons (.tup (s7 _ _ (s6 _ _ h5)) (.cons (.str _) (.cons (.tup (s7 _ _ (s6 _ _ (s5 _ _ h4))) (.cons (.int _) .nil)) .nil))) .nil)) .nil))
      refine ⟨acc, hS7, Nat.lt_of_le_of_lt la (by decide), s3.trans ((hd1_same sA).trans hd1_upd), _, upd_same, ?_⟩
      rw [List.take_add_one, hk, List.map_append]
      exact ((tk.same sA).ts (Ts.set hS7) (noLs_map noL_one _)).append (.cons (tg.ts (Ts.set hS7) (noL_one _)) .nil)
    rintro H3 ⟨s3, acc, hS3, tk⟩
    have tk3 : TkAll H3 acc [oneD 0, oneD 1, oneD 6, oneD 7] := tk
    have lacc : acc.length = 4 := tk3.length
    have s03 : Same H2 H3 := b0.trans fun b o e => hd1_le _ _ (s3 _ _ e)
    refine ⟨Nat.zero_le _, fun a1 na1 => ?_⟩
    have s0 := same_upd (o := (HO.tup [])) na1
    have h0 : upd H3 a1 (HO.tup []) a1 = some (HO.tup []) := upd_same
    generalize upd H3 a1 (HO.tup []) = A0 at s0 h0 ⊢
    refine ⟨sl2, fun b1 nb1 => ?_⟩
    have s1 := same_upd (o := (HO.tup [V.int 1, V.ref a1])) nb1
    have h1 : upd A0 b1 (HO.tup [V.int 1, V.ref a1]) b1 = some (HO.tup [V.int 1, V.ref a1]) := upd_same
    generalize upd A0 b1 (HO.tup [V.int 1, V.ref a1]) = A1 at s1 h1 ⊢
    refine ⟨sl1, fun a2 na2 => ?_⟩
    have s2 := same_upd (o := (HO.tup [V.int 6])) na2
    have h2 : upd A1 a2 (HO.tup [V.int 6]) a2 = some (HO.tup [V.int 6]) := upd_same
    generalize upd A1 a2 (HO.tup [V.int 6]) = A2 at s2 h2 ⊢
    refine ⟨sl2, fun a3 na3 => ?_⟩
    have s3 := same_upd (o := (HO.tup [V.str (Str.ofString "01"), V.ref a2])) na3
    have h3 : upd A2 a3 (HO.tup [V.str (Str.ofString "01"), V.ref a2]) a3 = some (HO.tup [V.str (Str.ofString "01"), V.ref a2]) := upd_same
    generalize upd A2 a3 (HO.tup [V.str (Str.ofString "01"), V.ref a2]) = A3 at s3 h3 ⊢
    refine ⟨sl1, fun a4 na4 => ?_⟩
    have s4 := same_upd (o := (HO.tup [V.ref a3])) na4
    have h4 : upd A3 a4 (HO.tup [V.ref a3]) a4 = some (HO.tup [V.ref a3]) := upd_same
    generalize upd A3 a4 (HO.tup [V.ref a3]) = A4 at s4 h4 ⊢
    refine ⟨sl2, fun b2 nb2 => ?_⟩
    have s5 := same_upd (o := (HO.tup [V.int 6, V.ref a4])) nb2
    have h5 : upd A4 b2 (HO.tup [V.int 6, V.ref a4]) b2 = some (HO.tup [V.int 6, V.ref a4]) := upd_same
    generalize upd A4 b2 (HO.tup [V.int 6, V.ref a4]) = A5 at s5 h5 ⊢
    refine ⟨Nat.zero_le _, fun a5 na5 => ?_⟩
    have s6 := same_upd (o := (HO.tup [])) na5
    have h6 : upd A5 a5 (HO.tup []) a5 = some (HO.tup []) := upd_same
    generalize upd A5 a5 (HO.tup []) = A6 at s6 h6 ⊢
    refine ⟨sl2, fun a6 na6 => ?_⟩
    have s7 := same_upd (o := (HO.tup [V.str (Str.ofString "1"), V.ref a5])) na6
    have h7 : upd A6 a6 (HO.tup [V.str (Str.ofString "1"), V.ref a5]) a6 = some (HO.tup [V.str (Str.ofString "1"), V.ref a5]) := upd_same
    generalize upd A6 a6 (HO.tup [V.str (Str.ofString "1"), V.ref a5]) = A7 at s7 h7 ⊢
    refine ⟨sl1, fun a7 na7 => ?_⟩
    have s8 := same_upd (o := (HO.tup [V.ref a6])) na7
    have h8 : upd A7 a7 (HO.tup [V.ref a6]) a7 = some (HO.tup [V.ref a6]) := upd_same
    generalize upd A7 a7 (HO.tup [V.ref a6]) = A8 at s8 h8 ⊢
    refine ⟨sl2, fun b3 nb3 => ?_⟩
    have s9 := same_upd (o := (HO.tup [V.int 2, V.ref a7])) nb3
    have h9 : upd A8 b3 (HO.tup [V.int 2, V.ref a7]) b3 = some (HO.tup [V.int 2, V.ref a7]) := upd_same
    generalize upd A8 b3 (HO.tup [V.int 2, V.ref a7]) = A9 at s9 h9 ⊢
    refine ⟨sl3, fun L2 nL2 => ?_⟩
    have s10 := same_upd (o := (HO.lst [V.ref b1, V.ref b2, V.ref b3])) nL2
    have h10 : upd A9 L2 (HO.lst [V.ref b1, V.ref b2, V.ref b3]) L2 = some (HO.lst [V.ref b1, V.ref b2, V.ref b3]) := upd_same
    generalize upd A9 L2 (HO.lst [V.ref b1, V.ref b2, V.ref b3]) = A10 at s10 h10 ⊢
    refine ⟨S, L2, _, _, rfl, rfl, (s10 _ _ (s9 _ _ (s8 _ _ (s7 _ _ (s6 _ _ (s5 _ _ (s4 _ _ (s3 _ _ (s2 _ _ (s1 _ _ (s0 _ _ hS3))))))))))), (h10), ?_, fun C1 nC1 => ?_⟩
    · simp only [List.length_append, List.length_cons, List.length_nil, lacc]
      decide
    have s11 := same_upd (o := (HO.lst (acc ++ [V.ref b1, V.ref b2, V.ref b3]))) nC1
    have h11 : upd A10 C1 (HO.lst (acc ++ [V.ref b1, V.ref b2, V.ref b3])) C1 = some (HO.lst (acc ++ [V.ref b1, V.ref b2, V.ref b3])) := upd_same
    generalize upd A10 C1 (HO.lst (acc ++ [V.ref b1, V.ref b2, V.ref b3])) = A11 at s11 h11 ⊢
    refine ⟨.ref C1, rfl, sl4, fun a8 na8 => ?_⟩
    have s12 := same_upd (o := (HO.tup [V.int 0, V.int 1, V.int 2, V.int 3])) na8
    have h12 : upd A11 a8 (HO.tup [V.int 0, V.int 1, V.int 2, V.int 3]) a8 = some (HO.tup [V.int 0, V.int 1, V.int 2, V.int 3]) := upd_same
    generalize upd A11 a8 (HO.tup [V.int 0, V.int 1, V.int 2, V.int 3]) = A12 at s12 h12 ⊢
    refine ⟨sl2, fun a9 na9 => ?_⟩
    have s13 := same_upd (o := (HO.tup [V.str (Str.ofString "0110100110010110"), V.ref a8])) na9
    have h13 : upd A12 a9 (HO.tup [V.str (Str.ofString "0110100110010110"), V.ref a8]) a9 = some (HO.tup [V.str (Str.ofString "0110100110010110"), V.ref a8]) := upd_same
    generalize upd A12 a9 (HO.tup [V.str (Str.ofString "0110100110010110"), V.ref a8]) = A13 at s13 h13 ⊢
    refine ⟨sl1, fun a10 na10 => ?_⟩
    have s14 := same_upd (o := (HO.tup [V.ref a9])) na10
    have h14 : upd A13 a10 (HO.tup [V.ref a9]) a10 = some (HO.tup [V.ref a9]) := upd_same
    generalize upd A13 a10 (HO.tup [V.ref a9]) = A14 at s14 h14 ⊢
    refine ⟨sl2, fun b4 nb4 => ?_⟩
    have s15 := same_upd (o := (HO.tup [V.int 4, V.ref a10])) nb4
    have h15 : upd A14 b4 (HO.tup [V.int 4, V.ref a10]) b4 = some (HO.tup [V.int 4, V.ref a10]) := upd_same
    generalize upd A14 b4 (HO.tup [V.int 4, V.ref a10]) = A15 at s15 h15 ⊢
    refine ⟨Nat.zero_le _, fun a11 na11 => ?_⟩
    have s16 := same_upd (o := (HO.tup [])) na11
    have h16 : upd A15 a11 (HO.tup []) a11 = some (HO.tup []) := upd_same
    generalize upd A15 a11 (HO.tup []) = A16 at s16 h16 ⊢
    refine ⟨sl2, fun a12 na12 => ?_⟩
    have s17 := same_upd (o := (HO.tup [V.str (Str.ofString "0"), V.ref a11])) na12
    have h17 : upd A16 a12 (HO.tup [V.str (Str.ofString "0"), V.ref a11]) a12 = some (HO.tup [V.str (Str.ofString "0"), V.ref a11]) := upd_same
    generalize upd A16 a12 (HO.tup [V.str (Str.ofString "0"), V.ref a11]) = A17 at s17 h17 ⊢
    refine ⟨sl1, fun a13 na13 => ?_⟩
    have s18 := same_upd (o := (HO.tup [V.ref a12])) na13
    have h18 : upd A17 a13 (HO.tup [V.ref a12]) a13 = some (HO.tup [V.ref a12]) := upd_same
    generalize upd A17 a13 (HO.tup [V.ref a12]) = A18 at s18 h18 ⊢
    refine ⟨sl2, fun b5 nb5 => ?_⟩
    have s19 := same_upd (o := (HO.tup [V.int 1, V.ref a13])) nb5
    have h19 : upd A18 b5 (HO.tup [V.int 1, V.ref a13]) b5 = some (HO.tup [V.int 1, V.ref a13]) := upd_same
    generalize upd A18 b5 (HO.tup [V.int 1, V.ref a13]) = A19 at s19 h19 ⊢
    refine ⟨Nat.zero_le _, fun a14 na14 => ?_⟩
    have s20 := same_upd (o := (HO.tup [])) na14
    have h20 : upd A19 a14 (HO.tup []) a14 = some (HO.tup []) := upd_same
    generalize upd A19 a14 (HO.tup []) = A20 at s20 h20 ⊢
    refine ⟨sl2, fun a15 na15 => ?_⟩
    have s21 := same_upd (o := (HO.tup [V.str (Str.ofString "1"), V.ref a14])) na15
    have h21 : upd A20 a15 (HO.tup [V.str (Str.ofString "1"), V.ref a14]) a15 = some (HO.tup [V.str (Str.ofString "1"), V.ref a14]) := upd_same
    generalize upd A20 a15 (HO.tup [V.str (Str.ofString "1"), V.ref a14]) = A21 at s21 h21 ⊢
    refine ⟨sl1, fun a16 na16 => ?_⟩
    have s22 := same_upd (o := (HO.tup [V.int 0])) na16
    have h22 : upd A21 a16 (HO.tup [V.int 0]) a16 = some (HO.tup [V.int 0]) := upd_same
    generalize upd A21 a16 (HO.tup [V.int 0]) = A22 at s22 h22 ⊢
    refine ⟨sl2, fun a17 na17 => ?_⟩
    have s23 := same_upd (o := (HO.tup [V.str (Str.ofString "10"), V.ref a16])) na17
    have h23 : upd A22 a17 (HO.tup [V.str (Str.ofString "10"), V.ref a16]) a17 = some (HO.tup [V.str (Str.ofString "10"), V.ref a16]) := upd_same
    generalize upd A22 a17 (HO.tup [V.str (Str.ofString "10"), V.ref a16]) = A23 at s23 h23 ⊢
    refine ⟨sl2, fun a18 na18 => ?_⟩
    have s24 := same_upd (o := (HO.tup [V.ref a15, V.ref a17])) na18
    have h24 : upd A23 a18 (HO.tup [V.ref a15, V.ref a17]) a18 = some (HO.tup [V.ref a15, V.ref a17]) := upd_same
    generalize upd A23 a18 (HO.tup [V.ref a15, V.ref a17]) = A24 at s24 h24 ⊢
    refine ⟨sl2, fun b6 nb6 => ?_⟩
    have s25 := same_upd (o := (HO.tup [V.int 1, V.ref a18])) nb6
    have h25 : upd A24 b6 (HO.tup [V.int 1, V.ref a18]) b6 = some (HO.tup [V.int 1, V.ref a18]) := upd_same
    generalize upd A24 b6 (HO.tup [V.int 1, V.ref a18]) = A25 at s25 h25 ⊢
    refine ⟨sl3, fun L3 nL3 => ?_⟩
    have s26 := same_upd (o := (HO.lst [V.ref b4, V.ref b5, V.ref b6])) nL3
    have h26 : upd A25 L3 (HO.lst [V.ref b4, V.ref b5, V.ref b6]) L3 = some (HO.lst [V.ref b4, V.ref b5, V.ref b6]) := upd_same
    generalize upd A25 L3 (HO.lst [V.ref b4, V.ref b5, V.ref b6]) = A26 at s26 h26 ⊢
    refine ⟨C1, L3, _, _, rfl, rfl, (s26 _ _ (s25 _ _ (s24 _ _ (s23 _ _ (s22 _ _ (s21 _ _ (s20 _ _ (s19 _ _ (s18 _ _ (s17 _ _ (s16 _ _ (s15 _ _ (s14 _ _ (s13 _ _ (s12 _ _ h11))))))))))))))), (h26), ?_, fun C2 nC2 => ?_⟩
    · simp only [List.length_append, List.length_cons, List.length_nil, lacc]
      decide
    have s27 := same_upd (o := (HO.lst ((acc ++ [V.ref b1, V.ref b2, V.ref b3]) ++ [V.ref b4, V.ref b5, V.ref b6]))) nC2
    have h27 : upd A26 C2 (HO.lst ((acc ++ [V.ref b1, V.ref b2, V.ref b3]) ++ [V.ref b4, V.ref b5, V.ref b6])) C2 = some (HO.lst ((acc ++ [V.ref b1, V.ref b2, V.ref b3]) ++ [V.ref b4, V.ref b5, V.ref b6])) := upd_same
    generalize upd A26 C2 (HO.lst ((acc ++ [V.ref b1, V.ref b2, V.ref b3]) ++ [V.ref b4, V.ref b5, V.ref b6])) = A27 at s27 h27 ⊢
    refine ⟨.ref C2, rfl, Nat.zero_le _, fun c1 nc1 => ?_⟩
    have s28 := same_upd (o := (HO.tup [])) nc1
    have h28 : upd A27 c1 (HO.tup []) c1 = some (HO.tup []) := upd_same
    generalize upd A27 c1 (HO.tup []) = A28 at s28 h28 ⊢
    refine ⟨Nat.zero_le _, fun c2 nc2 mc2 => ?_⟩
    have s29 := same_upd (o := (HO.lst [])) nc2
    have h29 : upd A28 c2 (HO.lst []) c2 = some (HO.lst []) := upd_same
    generalize upd A28 c2 (HO.lst []) = A29 at s29 h29 ⊢
    refine fun c3 nc3 => ?_
    have s30 := same_upd (o := (HO.dK [])) nc3
    have h30 : upd A29 c3 (HO.dK []) c3 = some (HO.dK []) := upd_same
    generalize upd A29 c3 (HO.dK []) = A30 at s30 h30 ⊢
    refine ⟨sl1, fun c4 nc4 => ?_⟩
    have s31 := same_upd (o := (HO.tup [V.int 1])) nc4
    have h31 : upd A30 c4 (HO.tup [V.int 1]) c4 = some (HO.tup [V.int 1]) := upd_same
    generalize upd A30 c4 (HO.tup [V.int 1]) = A31 at s31 h31 ⊢
    refine ⟨Nat.zero_le _, fun c5 nc5 => ?_⟩
    have s32 := same_upd (o := (HO.tup [])) nc5
    have h32 : upd A31 c5 (HO.tup []) c5 = some (HO.tup []) := upd_same
    generalize upd A31 c5 (HO.tup []) = A32 at s32 h32 ⊢
    refine ⟨sl2, fun c6 nc6 => ?_⟩
    have s33 := same_upd (o := (HO.tup [V.ref c5, V.int 1])) nc6
    have h33 : upd A32 c6 (HO.tup [V.ref c5, V.int 1]) c6 = some (HO.tup [V.ref c5, V.int 1]) := upd_same
    generalize upd A32 c6 (HO.tup [V.ref c5, V.int 1]) = A33 at s33 h33 ⊢
    refine ⟨by show 10 ≤ sizeLine; decide, fun L4 nL4 => ?_⟩
    have s34 := same_upd (o := (HO.lst [V.non, V.int 7, V.bl true, V.str (Str.ofString ""), V.str (Str.ofString "inputs 1"), V.ref c1, V.ref c2, V.ref c3, V.ref c4, V.ref c6])) nL4
    have h34 : upd A33 L4 (HO.lst [V.non, V.int 7, V.bl true, V.str (Str.ofString ""), V.str (Str.ofString "inputs 1"), V.ref c1, V.ref c2, V.ref c3, V.ref c4, V.ref c6]) L4 = some (HO.lst [V.non, V.int 7, V.bl true, V.str (Str.ofString ""), V.str (Str.ofString "inputs 1"), V.ref c1, V.ref c2, V.ref c3, V.ref c4, V.ref c6]) := upd_same
    generalize upd A33 L4 (HO.lst [V.non, V.int 7, V.bl true, V.str (Str.ofString ""), V.str (Str.ofString "inputs 1"), V.ref c1, V.ref c2, V.ref c3, V.ref c4, V.ref c6]) = A34 at s34 h34 ⊢
    refine ⟨C2, L4, _, _, rfl, rfl, (s34 _ _ (s33 _ _ (s32 _ _ (s31 _ _ (s30 _ _ (s29 _ _ (s28 _ _ h27))))))), (h34), ?_, fun C3 nC3 => ?_⟩
    · simp only [List.length_append, List.length_cons, List.length_nil, lacc]
      decide
    have s35 := same_upd (o := (HO.lst (((acc ++ [V.ref b1, V.ref b2, V.ref b3]) ++ [V.ref b4, V.ref b5, V.ref b6]) ++ [V.non, V.int 7, V.bl true, V.str (Str.ofString ""), V.str (Str.ofString "inputs 1"), V.ref c1, V.ref c2, V.ref c3, V.ref c4, V.ref c6]))) nC3
    have h35 : upd A34 C3 (HO.lst (((acc ++ [V.ref b1, V.ref b2, V.ref b3]) ++ [V.ref b4, V.ref b5, V.ref b6]) ++ [V.non, V.int 7, V.bl true, V.str (Str.ofString ""), V.str (Str.ofString "inputs 1"), V.ref c1, V.ref c2, V.ref c3, V.ref c4, V.ref c6])) C3 = some (HO.lst (((acc ++ [V.ref b1, V.ref b2, V.ref b3]) ++ [V.ref b4, V.ref b5, V.ref b6]) ++ [V.non, V.int 7, V.bl true, V.str (Str.ofString ""), V.str (Str.ofString "inputs 1"), V.ref c1, V.ref c2, V.ref c3, V.ref c4, V.ref c6])) := upd_same
    generalize upd A34 C3 (HO.lst (((acc ++ [V.ref b1, V.ref b2, V.ref b3]) ++ [V.ref b4, V.ref b5, V.ref b6]) ++ [V.non, V.int 7, V.bl true, V.str (Str.ofString ""), V.str (Str.ofString "inputs 1"), V.ref c1, V.ref c2, V.ref c3, V.ref c4, V.ref c6])) = A35 at s35 h35 ⊢
    have z35 : Same A35 A35 := same_refl
    have z34 : Same A34 A35 := s35.trans z35
    have z33 : Same A33 A35 := s34.trans z34
    have z32 : Same A32 A35 := s33.trans z33
    have z31 : Same A31 A35 := s32.trans z32
    have z30 : Same A30 A35 := s31.trans z31
    have z29 : Same A29 A35 := s30.trans z30
    have z28 : Same A28 A35 := s29.trans z29
    have z27 : Same A27 A35 := s28.trans z28
    have z26 : Same A26 A35 := s27.trans z27
    have z25 : Same A25 A35 := s26.trans z26
    have z24 : Same A24 A35 := s25.trans z25
    have z23 : Same A23 A35 := s24.trans z24
    have z22 : Same A22 A35 := s23.trans z23
    have z21 : Same A21 A35 := s22.trans z22
    have z20 : Same A20 A35 := s21.trans z21
    have z19 : Same A19 A35 := s20.trans z20
    have z18 : Same A18 A35 := s19.trans z19
    have z17 : Same A17 A35 := s18.trans z18
    have z16 : Same A16 A35 := s17.trans z17
    have z15 : Same A15 A35 := s16.trans z16
    have z14 : Same A14 A35 := s15.trans z15
    have z13 : Same A13 A35 := s14.trans z14
    have z12 : Same A12 A35 := s13.trans z13
    have z11 : Same A11 A35 := s12.trans z12
    have z10 : Same A10 A35 := s11.trans z11
    have z9 : Same A9 A35 := s10.trans z10
    have z8 : Same A8 A35 := s9.trans z9
    have z7 : Same A7 A35 := s8.trans z8
    have z6 : Same A6 A35 := s7.trans z7
    have z5 : Same A5 A35 := s6.trans z6
    have z4 : Same A4 A35 := s5.trans z5
    have z3 : Same A3 A35 := s4.trans z4
    have z2 : Same A2 A35 := s3.trans z3
    have z1 : Same A1 A35 := s2.trans z2
    have z0 : Same A0 A35 := s1.trans z1
    have gz := s0.trans z0
    have ka1 := z0 _ _ h0
    have kb1 := z1 _ _ h1
    have ka2 := z2 _ _ h2
    have ka3 := z3 _ _ h3
    have ka4 := z4 _ _ h4
    have kb2 := z5 _ _ h5
    have ka5 := z6 _ _ h6
    have ka6 := z7 _ _ h7
    have ka7 := z8 _ _ h8
    have kb3 := z9 _ _ h9
    have kL2 := z10 _ _ h10
    have kC1 := z11 _ _ h11
    have ka8 := z12 _ _ h12
    have ka9 := z13 _ _ h13
    have ka10 := z14 _ _ h14
    have kb4 := z15 _ _ h15
    have ka11 := z16 _ _ h16
    have ka12 := z17 _ _ h17
    have ka13 := z18 _ _ h18
    have kb5 := z19 _ _ h19
    have ka14 := z20 _ _ h20
    have ka15 := z21 _ _ h21
    have ka16 := z22 _ _ h22
    have ka17 := z23 _ _ h23
    have ka18 := z24 _ _ h24
    have kb6 := z25 _ _ h25
    have kL3 := z26 _ _ h26
    have kC2 := z27 _ _ h27
    have kc1 := z28 _ _ h28
    have kc2 := z29 _ _ h29
    have kc3 := z30 _ _ h30
    have kc4 := z31 _ _ h31
    have kc5 := z32 _ _ h32
    have kc6 := z33 _ _ h33
    have kL4 := z34 _ _ h34
    have kC3 := z35 _ _ h35
    generalize A35 = Z at *
    have tt := t2.gr (Gr.of (s03.trans gz))
    have all : ShAll Z (((acc ++ [V.ref b1, V.ref b2, V.ref b3]) ++ [V.ref b4, V.ref b5, V.ref b6]) ++ [V.non, V.int 7, V.bl true, V.str (Str.ofString ""), V.str (Str.ofString "inputs 1"), V.ref c1, V.ref c2, V.ref c3, V.ref c4, V.ref c6]) [oneD 0, oneD 1, oneD 6, oneD 7, .tuple [.int 1, .tuple []], .tuple [.int 6, .tuple [.tuple [.str (Str.ofString "01"), .tuple [.int 6]]]], .tuple [.int 2, .tuple [.tuple [.str (Str.ofString "1"), .tuple []]]], .tuple [.int 4, .tuple [.tuple [.str (Str.ofString "0110100110010110"), .tuple [.int 0, .int 1, .int 2, .int 3]]]], .tuple [.int 1, .tuple [.tuple [.str (Str.ofString "0"), .tuple []]]], .tuple [.int 1, .tuple [.tuple [.str (Str.ofString "1"), .tuple []], .tuple [.str (Str.ofString "10"), .tuple [.int 0]]]], .none, .int 7, .bool true, .str (Str.ofString ""), .str (Str.ofString "inputs 1"), .tuple [], .list [], .dict [], .tuple [.int 1], .tuple [.tuple [], .int 1]] := by
      have i0 : Sh Z (.int 0) (.int 0) := .int 0
      have nilT : ∀ {b : Addr}, Z b = some (.tup []) → Sh Z (.ref b) (.tuple []) := fun h => .tup h .nil
      refine (((tk3.same gz).sh rfl).append (ds := [oneD 0, oneD 1, oneD 6, oneD 7]) ?_).append (ds := [oneD 0, oneD 1, oneD 6, oneD 7] ++ [.tuple [.int 1, .tuple []], .tuple [.int 6, .tuple [.tuple [.str (Str.ofString "01"), .tuple [.int 6]]]], .tuple [.int 2, .tuple [.tuple [.str (Str.ofString "1"), .tuple []]]]]) ?_ |>.append (ds := ([oneD 0, oneD 1, oneD 6, oneD 7] ++ [.tuple [.int 1, .tuple []], .tuple [.int 6, .tuple [.tuple [.str (Str.ofString "01"), .tuple [.int 6]]]], .tuple [.int 2, .tuple [.tuple [.str (Str.ofString "1"), .tuple []]]]]) ++ [.tuple [.int 4, .tuple [.tuple [.str (Str.ofString "0110100110010110"), .tuple [.int 0, .int 1, .int 2, .int 3]]]], .tuple [.int 1, .tuple [.tuple [.str (Str.ofString "0"), .tuple []]]], .tuple [.int 1, .tuple [.tuple [.str (Str.ofString "1"), .tuple []], .tuple [.str (Str.ofString "10"), .tuple [.int 0]]]]]) ?_
      · refine .cons (.tup kb1 (.cons (.int _) (.cons (nilT ka1) .nil))) ?_
        refine .cons (.tup kb2 (.cons (.int _) (.cons (.tup ka4 (.cons (.tup ka3 (.cons (.str _) (.cons (.tup ka2 (.cons (.int _) .nil)) .nil))) .nil)) .nil))) ?_
        exact .cons (.tup kb3 (.cons (.int _) (.cons (.tup ka7 (.cons (.tup ka6 (.cons (.str _) (.cons (nilT ka5) .nil))) .nil)) .nil))) .nil
      · refine .cons (.tup kb4 (.cons (.int _) (.cons (.tup ka10 (.cons (.tup ka9 (.cons (.str _) (.cons (.tup ka8 (.cons (.int _) (.cons (.int _) (.cons (.int _) (.cons (.int _) .nil))))) .nil))) .nil)) .nil))) ?_
        refine .cons (.tup kb5 (.cons (.int _) (.cons (.tup ka13 (.cons (.tup ka12 (.cons (.str _) (.cons (nilT ka11) .nil))) .nil)) .nil))) ?_
        exact .cons (.tup kb6 (.cons (.int _) (.cons (.tup ka18 (.cons (.tup ka15 (.cons (.str _) (.cons (nilT ka14) .nil))) (.cons (.tup ka17 (.cons (.str _) (.cons (.tup ka16 (.cons i0 .nil)) .nil))) .nil))) .nil))) .nil
      · refine .cons .non (.cons (.int _) (.cons (.bl _) (.cons (.str _) (.cons (.str _) (.cons (nilT kc1) (.cons (.lst kc2 mc2 .nil) (.cons (.dic (kvs := []) kc3 .nil) ?_)))))))
        exact .cons (.tup kc4 (.cons (.int _) .nil)) (.cons (.tup kc6 (.cons (nilT kc5) (.cons (.int _) .nil))) .nil)
    have fits : ∀ z ∈ ([oneD 0, oneD 1, oneD 6, oneD 7, .tuple [.int 1, .tuple []], .tuple [.int 6, .tuple [.tuple [.str (Str.ofString "01"), .tuple [.int 6]]]], .tuple [.int 2, .tuple [.tuple [.str (Str.ofString "1"), .tuple []]]], .tuple [.int 4, .tuple [.tuple [.str (Str.ofString "0110100110010110"), .tuple [.int 0, .int 1, .int 2, .int 3]]]], .tuple [.int 1, .tuple [.tuple [.str (Str.ofString "0"), .tuple []]]], .tuple [.int 1, .tuple [.tuple [.str (Str.ofString "1"), .tuple []], .tuple [.str (Str.ofString "10"), .tuple [.int 0]]]], .none, .int 7, .bool true, .str (Str.ofString ""), .str (Str.ofString "inputs 1"), .tuple [], .list [], .dict [], .tuple [.int 1], .tuple [.tuple [], .int 1]] : List PyData), Fit 200 200 10 z := by
      intro z hz
      simp only [List.mem_cons, List.not_mem_nil, or_false] at hz
      rcases hz with rfl | rfl | rfl | rfl | rfl | rfl | rfl | rfl | rfl | rfl | rfl | rfl | rfl | rfl | rfl | rfl | rfl | rfl | rfl | rfl
      all_goals exact ⟨by decide +kernel, by decide +kernel, by decide +kernel⟩
    refine ⟨C3, rfl, ⟨_, SqL.of kC3⟩, for_list (K := K) (a := C3) (fun j σ H' => ∃ y6, σ = [some (.ref a), some (.ref d), y2, y3, some (.ref c), y5, y6, some (.ref C2), y8] ∧ Gr Z H') ⟨_, rfl, Gr.refl⟩ (fun j σ H' _ ⟨_, _, g⟩ => SqL.of (g.lst kC3)) ?_ ?_⟩
    · rintro j x σ H7 hx ⟨y6, rfl, g7⟩
      obtain ⟨dd, hdd, shx⟩ := all.get hx
      have t7 := tt.gr g7
      refine ⟨x, rfl, x, dd, 200, 200, 10, rfl, shx.gr g7, fits dd (List.mem_of_getElem? hdd), by decide, by decide, by decide, t7 _ (by simp [Tx.tabs]), t7 _ (by simp [Tx.tabs]), t7 _ (by simp [Tx.tabs]), fun H8 g8 => ⟨_, rfl, iteF ?_⟩⟩
      exact ⟨_, rfl, g7.trans g8⟩
    rintro σ H7 ⟨y6, rfl, g7⟩
    have gA := (Gr.of (s03.trans gz)).trans g7
    have D7 := D2.gr gA
    have np7 := np2.gr gA
    have t7 := tt.gr g7
    have fN := fit_net np7.2.1 np7.2.2.2.1 np7.2.2.2.2.2
    have iN := isNet_ok np7.2.1 np7.2.2.1 np7.2.2.2.1 np7.2.2.2.2.1
    have wN : (netD (m : Int) gs).weight ≤ 50000 := Nat.le_trans fN.2.1 (by decide)
    refine ⟨.ref d, rfl, d, l, 16, _, rfl, D7, by show (3000 * ((6 : Int).toNat : Nat) : Int) < 1000000000; decide, by decide, by decide, fun H8 v D8 fr8 _ _ => ⟨rfl, _, rfl, ite2 (fun _ => ?_) (fun _ => ?_)⟩⟩
    · have t8 := t7.fr D7 fr8
      have np8 := np7.ts (Ts.frC D7 fr8)
      refine ⟨.ref d, rfl, d, l, _, rfl, D8, by show (3000 * ((6 : Int).toNat : Nat) : Int) + 1 < 900000; decide, t8, fun H9 ts9 t9 => ⟨_, rfl, iteF ?_⟩⟩
      refine ⟨.ref c, rfl, .ref c, netD m gs, rfl, (np8.ts ts9).1.sh (noL_net _ _), wN, t9 _ (by simp [Tx.tabs]), t9 _ (by simp [Tx.tabs]), t9 _ (by simp [Tx.tabs]), fun H10 g10 => ⟨_, _, rfl, rfl, ?_⟩⟩
      rw [iN]
      exact q H10
    · have t8 := t7.fr D7 fr8
      have np8 := np7.ts (Ts.frC D7 fr8)
      refine ⟨.ref c, rfl, .ref c, netD m gs, rfl, np8.1.sh (noL_net _ _), wN, t8 _ (by simp [Tx.tabs]), t8 _ (by simp [Tx.tabs]), t8 _ (by simp [Tx.tabs]), fun H10 g10 => ⟨_, _, rfl, rfl, ?_⟩⟩
      rw [iN]
      exact q H10

end
def d_is_whole : He.DefD := ⟨("is_whole", none), "is_whole", "is_whole", defArgs s_is_whole, defBody s_is_whole, defScope s_is_whole, [], []⟩
def d_is_signs : He.DefD := ⟨("is_signs", none), "is_signs", "is_signs", defArgs s_is_signs, defBody s_is_signs, defScope s_is_signs, [], []⟩
def d_is_net : He.DefD := ⟨("is_net", none), "is_net", "is_net", defArgs s_is_net, defBody s_is_net, defScope s_is_net, [], []⟩
def d_is_gate : He.DefD := ⟨("is_gate", none), "is_gate", "is_gate", defArgs s_is_gate, defBody s_is_gate, defScope s_is_gate, [], []⟩
def d_deck : He.DefD := ⟨("_law_deck", none), "_law_deck", "_law_deck", defArgs s_deck, defBody s_deck, defScope s_deck, [], []⟩
def d_mixed : He.DefD := ⟨("_law_mixed", none), "_law_mixed", "_law_mixed", defArgs s_mixed, defBody s_mixed, defScope s_mixed, [], []⟩
def d_take : He.DefD := ⟨("_law_take", none), "_law_take", "_law_take", defArgs s_take, defBody s_take, defScope s_take, [], []⟩
def d_gate : He.DefD := ⟨("_law_gate", none), "_law_gate", "_law_gate", defArgs s_gate, defBody s_gate, defScope s_gate, [], []⟩
def d_net : He.DefD := ⟨("_law_net", none), "_law_net", "_law_net", defArgs s_net, defBody s_net, defScope s_net, [], []⟩
def d_put : He.DefD := ⟨("_law_put", none), "_law_put", "_law_put", defArgs s_put, defBody s_put, defScope s_put, [], []⟩
def d_other : He.DefD := ⟨("_law_other", none), "_law_other", "_law_other", defArgs s_other, defBody s_other, defScope s_other, [], []⟩
def d_spoilt : He.DefD := ⟨("_law_spoilt", none), "_law_spoilt", "_law_spoilt", defArgs s_spoilt, defBody s_spoilt, defScope s_spoilt, [], []⟩
def d_whole : He.DefD := ⟨("_law_whole", none), "_law_whole", "_law_whole", defArgs s_whole, defBody s_whole, defScope s_whole, [], []⟩
def d_in : He.DefD := ⟨("_law_in", none), "_law_in", "_law_in", defArgs s_in, defBody s_in, defScope s_in, [], []⟩
def d_l_is_gate : He.DefD := ⟨("_law_is_gate", none), "_law_is_gate", "_law_is_gate", defArgs s_l_is_gate, defBody s_l_is_gate, defScope s_l_is_gate, [], []⟩
def d_l_is_net : He.DefD := ⟨("_law_is_net", none), "_law_is_net", "_law_is_net", defArgs s_l_is_net, defBody s_l_is_net, defScope s_l_is_net, [], []⟩
def d_right : He.DefD := ⟨("_law_right", none), "_law_right", "_law_right", defArgs s_right, defBody s_right, defScope s_right, [], []⟩
def d_long_right : He.DefD := ⟨("_law_long_right", none), "_law_long_right", "_law_long_right", defArgs s_long_right, defBody s_long_right, defScope s_long_right, [], []⟩
def d_law : He.DefD := ⟨("law", none), "law", "law", defArgs s_law, defBody s_law, defScope s_law, [], []⟩
def fn : List He.DefD := [d_is_whole, d_is_signs, d_is_net, d_is_gate, d_deck, d_mixed, d_take, d_gate, d_net, d_put, d_other, d_spoilt, d_whole, d_in, d_l_is_gate, d_l_is_net, d_right, d_long_right, d_law]
def fa : List He.Fa := [.glo "is_whole", .glo "is_signs", .glo "is_net", .glo "is_gate", .glo "_law_deck", .glo "_law_mixed", .glo "_law_take", .glo "_law_gate", .glo "_law_net", .glo "_law_put", .glo "_law_other", .glo "_law_spoilt", .glo "_law_whole", .glo "_law_in", .glo "_law_is_gate", .glo "_law_is_net", .glo "_law_right", .glo "_law_long_right", .glo "law", .free "all", .free "bool", .free "enumerate", .free "int", .free "isinstance", .free "len", .free "list", .free "min", .free "range", .free "repr", .free "reversed", .free "str", .free "sum", .free "tuple", .int "MOST_INPUTS" 6, .int "MOST_INS" 3]
def tf : List He.Defn := [("is_signs", none), ("is_net", none), ("is_gate", none)]
abbrev RR : PySem.W.OpenRow := PySem.W.OpenLaw.row PySem.Challenge.rw_glitchnet_k01_what_is_a_net
def yes : PySem.W.Frag → Bool := fun _ => true
abbrev hk : PySem.W.Hook := He.hookX 4 fa fn [] tf yes
def ob (s : PySem.W.SharedT) : He.AlX := He.obsX 4 fa fn [] tf yes (HandSHeadRun.getT s)
theorem ob_eq (s : PySem.W.SharedT) : ob s = hk.obs s.abs := He.obsX_eq (HandSHeadRun.getT_eq s)
theorem run (w : World) : HandSHeadRun.RunEq RR (PySem.W.view RR.prog [23]) hk ob 3000 [("is_whole" : PySem.Str), ("is_signs" : PySem.Str), ("MOST_INPUTS" : PySem.Str), ("MOST_INS" : PySem.Str), ("is_net" : PySem.Str), ("is_gate" : PySem.Str), ("_law_deck" : PySem.Str), ("_law_mixed" : PySem.Str), ("_law_take" : PySem.Str), ("_law_gate" : PySem.Str), ("_law_net" : PySem.Str), ("_law_put" : PySem.Str), ("_law_other" : PySem.Str), ("_law_spoilt" : PySem.Str), ("_law_whole" : PySem.Str), ("_law_in" : PySem.Str), ("_law_is_gate" : PySem.Str), ("_law_is_net" : PySem.Str), ("_law_right" : PySem.Str), ("_law_long_right" : PySem.Str)] w := by
  intro os
  kernel_rfl
theorem facts {w : World} {K : PySem.W.Frag} {h : Heap} {mg : Str → Option Value} {f : Addr} (X : K.In h) (G : h.Ns mainGlobals mg) (hfa : mg ("law" : Str) = some (.ref f)) (c : He.SaysX fa fn [] tf yes w h K) : LawAtG PySem.Challenge.rw_glitchnet_k01_what_is_a_net w K CX0 9 63 "_law_script" mg f h := by
  obtain ⟨fd0, D0⟩ := c.t.d.def_ 0 (d := d_is_whole) rfl
  have F0 : Fun K "is_whole" "is_whole" s_is_whole (He.fAd K ("is_whole", none)) fd0 := fun_of D0
  have b0 := F0.binds (ps := ["thing"]) fun _ _ _ _ _ _ us hl => match us, hl with | [_], _ => rfl
  obtain ⟨fd1, D1⟩ := c.t.d.def_ 1 (d := d_is_signs) rfl
  have F1 : Fun K "is_signs" "is_signs" s_is_signs (He.fAd K ("is_signs", none)) fd1 := fun_of D1
  have b1 := F1.binds (ps := ["many", "thing"]) fun _ _ _ _ _ _ us hl => match us, hl with | [_, _], _ => rfl
  obtain ⟨fd2, D2⟩ := c.t.d.def_ 2 (d := d_is_net) rfl
  have F2 : Fun K "is_net" "is_net" s_is_net (He.fAd K ("is_net", none)) fd2 := fun_of D2
  have b2 := F2.binds (ps := ["thing"]) fun _ _ _ _ _ _ us hl => match us, hl with | [_], _ => rfl
  obtain ⟨fd3, D3⟩ := c.t.d.def_ 3 (d := d_is_gate) rfl
  have F3 : Fun K "is_gate" "is_gate" s_is_gate (He.fAd K ("is_gate", none)) fd3 := fun_of D3
  have b3 := F3.binds (ps := ["wires", "thing"]) fun _ _ _ _ _ _ us hl => match us, hl with | [_, _], _ => rfl
  obtain ⟨fd4, D4⟩ := c.t.d.def_ 4 (d := d_deck) rfl
  have F4 : Fun K "_law_deck" "_law_deck" s_deck (He.fAd K ("_law_deck", none)) fd4 := fun_of D4
  have b4 := F4.binds (ps := ["_law_script"]) fun _ _ _ _ _ _ us hl => match us, hl with | [_], _ => rfl
  obtain ⟨fd5, D5⟩ := c.t.d.def_ 5 (d := d_mixed) rfl
  have F5 : Fun K "_law_mixed" "_law_mixed" s_mixed (He.fAd K ("_law_mixed", none)) fd5 := fun_of D5
  have b5 := F5.binds (ps := ["_law_cell", "_law_k"]) fun _ _ _ _ _ _ us hl => match us, hl with | [_, _], _ => rfl
  obtain ⟨fd6, D6⟩ := c.t.d.def_ 6 (d := d_take) rfl
  have F6 : Fun K "_law_take" "_law_take" s_take (He.fAd K ("_law_take", none)) fd6 := fun_of D6
  have b6 := F6.binds (ps := ["_law_deck_here", "_law_most"]) fun _ _ _ _ _ _ us hl => match us, hl with | [_, _], _ => rfl
  obtain ⟨fd7, D7⟩ := c.t.d.def_ 7 (d := d_gate) rfl
  have F7 : Fun K "_law_gate" "_law_gate" s_gate (He.fAd K ("_law_gate", none)) fd7 := fun_of D7
  have b7 := F7.binds (ps := ["_law_deck_here", "_law_wires", "_law_near"]) fun _ _ _ _ _ _ us hl => match us, hl with | [_, _, _], _ => rfl
  obtain ⟨fd8, D8⟩ := c.t.d.def_ 8 (d := d_net) rfl
  have F8 : Fun K "_law_net" "_law_net" s_net (He.fAd K ("_law_net", none)) fd8 := fun_of D8
  have b8 := F8.binds (ps := ["_law_deck_here"]) fun _ _ _ _ _ _ us hl => match us, hl with | [_], _ => rfl
  obtain ⟨fd9, D9⟩ := c.t.d.def_ 9 (d := d_put) rfl
  have F9 : Fun K "_law_put" "_law_put" s_put (He.fAd K ("_law_put", none)) fd9 := fun_of D9
  have b9 := F9.binds (ps := ["_law_row", "_law_at", "_law_part"]) fun _ _ _ _ _ _ us hl => match us, hl with | [_, _, _], _ => rfl
  obtain ⟨fd10, D10⟩ := c.t.d.def_ 10 (d := d_other) rfl
  have F10 : Fun K "_law_other" "_law_other" s_other (He.fAd K ("_law_other", none)) fd10 := fun_of D10
  have b10 := F10.binds (ps := ["_law_deck_here", "_law_thing"]) fun _ _ _ _ _ _ us hl => match us, hl with | [_, _], _ => rfl
  obtain ⟨fd11, D11⟩ := c.t.d.def_ 11 (d := d_spoilt) rfl
  have F11 : Fun K "_law_spoilt" "_law_spoilt" s_spoilt (He.fAd K ("_law_spoilt", none)) fd11 := fun_of D11
  have b11 := F11.binds (ps := ["_law_deck_here", "_law_thing", "_law_deep"]) fun _ _ _ _ _ _ us hl => match us, hl with | [_, _, _], _ => rfl
  obtain ⟨fd12, D12⟩ := c.t.d.def_ 12 (d := d_whole) rfl
  have F12 : Fun K "_law_whole" "_law_whole" s_whole (He.fAd K ("_law_whole", none)) fd12 := fun_of D12
  have b12 := F12.binds (ps := ["_law_thing"]) fun _ _ _ _ _ _ us hl => match us, hl with | [_], _ => rfl
  obtain ⟨fd13, D13⟩ := c.t.d.def_ 13 (d := d_in) rfl
  have F13 : Fun K "_law_in" "_law_in" s_in (He.fAd K ("_law_in", none)) fd13 := fun_of D13
  have b13 := F13.binds (ps := ["_law_wire", "_law_wires"]) fun _ _ _ _ _ _ us hl => match us, hl with | [_, _], _ => rfl
  obtain ⟨fd14, D14⟩ := c.t.d.def_ 14 (d := d_l_is_gate) rfl
  have F14 : Fun K "_law_is_gate" "_law_is_gate" s_l_is_gate (He.fAd K ("_law_is_gate", none)) fd14 := fun_of D14
  have b14 := F14.binds (ps := ["_law_thing", "_law_wires"]) fun _ _ _ _ _ _ us hl => match us, hl with | [_, _], _ => rfl
  obtain ⟨fd15, D15⟩ := c.t.d.def_ 15 (d := d_l_is_net) rfl
  have F15 : Fun K "_law_is_net" "_law_is_net" s_l_is_net (He.fAd K ("_law_is_net", none)) fd15 := fun_of D15
  have b15 := F15.binds (ps := ["_law_thing"]) fun _ _ _ _ _ _ us hl => match us, hl with | [_], _ => rfl
  obtain ⟨fd16, D16⟩ := c.t.d.def_ 16 (d := d_right) rfl
  have F16 : Fun K "_law_right" "_law_right" s_right (He.fAd K ("_law_right", none)) fd16 := fun_of D16
  have b16 := F16.binds (ps := ["_law_thing"]) fun _ _ _ _ _ _ us hl => match us, hl with | [_], _ => rfl
  obtain ⟨fd17, D17⟩ := c.t.d.def_ 17 (d := d_long_right) rfl
  have F17 : Fun K "_law_long_right" "_law_long_right" s_long_right (He.fAd K ("_law_long_right", none)) fd17 := fun_of D17
  have b17 := F17.binds (ps := ["_law_deck_here"]) fun _ _ _ _ _ _ us hl => match us, hl with | [_], _ => rfl
  obtain ⟨fd18, D18⟩ := c.t.d.def_ 18 (d := d_law) rfl
  have F18 : Fun K "law" "law" s_law (He.fAd K ("law", none)) fd18 := fun_of D18
  have b18 := F18.binds (ps := ["_law_script"]) fun _ _ _ _ _ _ us hl => match us, hl with | [_], _ => rfl
  have e := hfa.symm.trans (He.glo_ok X G (c.t.d.fact 18 (f := .glo "law") rfl))
  cases e
  let T : Tx K mg := { f_is_whole := _, fd_is_whole := _, F_is_whole := F0, g_is_whole := He.glo_ok X G (c.t.d.fact 0 (f := .glo "is_whole") rfl), b_is_whole := b0, f_is_signs := _, fd_is_signs := _, F_is_signs := F1, g_is_signs := He.glo_ok X G (c.t.d.fact 1 (f := .glo "is_signs") rfl), b_is_signs := b1, c_is_signs := (He.cT K ("is_signs", none)).1, P_is_signs := (He.cT K ("is_signs", none)).2, cd_is_signs := code_of F1, f_is_net := _, fd_is_net := _, F_is_net := F2, g_is_net := He.glo_ok X G (c.t.d.fact 2 (f := .glo "is_net") rfl), b_is_net := b2, c_is_net := (He.cT K ("is_net", none)).1, P_is_net := (He.cT K ("is_net", none)).2, cd_is_net := code_of F2, f_is_gate := _, fd_is_gate := _, F_is_gate := F3, g_is_gate := He.glo_ok X G (c.t.d.fact 3 (f := .glo "is_gate") rfl), b_is_gate := b3, c_is_gate := (He.cT K ("is_gate", none)).1, P_is_gate := (He.cT K ("is_gate", none)).2, cd_is_gate := code_of F3, f_deck := _, fd_deck := _, F_deck := F4, g_deck := He.glo_ok X G (c.t.d.fact 4 (f := .glo "_law_deck") rfl), b_deck := b4, f_mixed := _, fd_mixed := _, F_mixed := F5, g_mixed := He.glo_ok X G (c.t.d.fact 5 (f := .glo "_law_mixed") rfl), b_mixed := b5, f_take := _, fd_take := _, F_take := F6, g_take := He.glo_ok X G (c.t.d.fact 6 (f := .glo "_law_take") rfl), b_take := b6, f_gate := _, fd_gate := _, F_gate := F7, g_gate := He.glo_ok X G (c.t.d.fact 7 (f := .glo "_law_gate") rfl), b_gate := b7, f_net := _, fd_net := _, F_net := F8, g_net := He.glo_ok X G (c.t.d.fact 8 (f := .glo "_law_net") rfl), b_net := b8, f_put := _, fd_put := _, F_put := F9, g_put := He.glo_ok X G (c.t.d.fact 9 (f := .glo "_law_put") rfl), b_put := b9, f_other := _, fd_other := _, F_other := F10, g_other := He.glo_ok X G (c.t.d.fact 10 (f := .glo "_law_other") rfl), b_other := b10, f_spoilt := _, fd_spoilt := _, F_spoilt := F11, g_spoilt := He.glo_ok X G (c.t.d.fact 11 (f := .glo "_law_spoilt") rfl), b_spoilt := b11, f_whole := _, fd_whole := _, F_whole := F12, g_whole := He.glo_ok X G (c.t.d.fact 12 (f := .glo "_law_whole") rfl), b_whole := b12, f_in := _, fd_in := _, F_in := F13, g_in := He.glo_ok X G (c.t.d.fact 13 (f := .glo "_law_in") rfl), b_in := b13, f_l_is_gate := _, fd_l_is_gate := _, F_l_is_gate := F14, g_l_is_gate := He.glo_ok X G (c.t.d.fact 14 (f := .glo "_law_is_gate") rfl), b_l_is_gate := b14, f_l_is_net := _, fd_l_is_net := _, F_l_is_net := F15, g_l_is_net := He.glo_ok X G (c.t.d.fact 15 (f := .glo "_law_is_net") rfl), b_l_is_net := b15, f_right := _, fd_right := _, F_right := F16, g_right := He.glo_ok X G (c.t.d.fact 16 (f := .glo "_law_right") rfl), b_right := b16, f_long_right := _, fd_long_right := _, F_long_right := F17, g_long_right := He.glo_ok X G (c.t.d.fact 17 (f := .glo "_law_long_right") rfl), b_long_right := b17, f_law := _, fd_law := _, F_law := F18, g_law := He.glo_ok X G (c.t.d.fact 18 (f := .glo "law") rfl), b_law := b18, m_all := He.free_ok X G (c.t.d.fact 19 (f := .free "all") rfl), m_bool := He.free_ok X G (c.t.d.fact 20 (f := .free "bool") rfl), m_enumerate := He.free_ok X G (c.t.d.fact 21 (f := .free "enumerate") rfl), m_int := He.free_ok X G (c.t.d.fact 22 (f := .free "int") rfl), m_isinstance := He.free_ok X G (c.t.d.fact 23 (f := .free "isinstance") rfl), m_len := He.free_ok X G (c.t.d.fact 24 (f := .free "len") rfl), m_list := He.free_ok X G (c.t.d.fact 25 (f := .free "list") rfl), m_min := He.free_ok X G (c.t.d.fact 26 (f := .free "min") rfl), m_range := He.free_ok X G (c.t.d.fact 27 (f := .free "range") rfl), m_repr := He.free_ok X G (c.t.d.fact 28 (f := .free "repr") rfl), m_reversed := He.free_ok X G (c.t.d.fact 29 (f := .free "reversed") rfl), m_str := He.free_ok X G (c.t.d.fact 30 (f := .free "str") rfl), m_sum := He.free_ok X G (c.t.d.fact 31 (f := .free "sum") rfl), m_tuple := He.free_ok X G (c.t.d.fact 32 (f := .free "tuple") rfl), k_MOST_INPUTS := He.int_ok X G (c.t.d.fact 33 (f := .int "MOST_INPUTS" 6) rfl), k_MOST_INS := He.int_ok X G (c.t.d.fact 34 (f := .int "MOST_INS" 3) rfl) }
  refine ⟨fd18, tf.map (He.cT K), sp_law K T.tabs, ?_, ?_, ?_, ?_, ?_, ?_⟩
  · rintro p hp
    obtain ⟨d, hd, rfl⟩ := List.mem_map.mp hp
    exact c.empty d hd
  · rintro p hp
    obtain ⟨d, hd, rfl⟩ := List.mem_map.mp hp
    exact c.out d hd
  · rintro p hp
    obtain ⟨d, hd, rfl⟩ := List.mem_map.mp hp
    exact PySem.W.codeHd_of_K X (c.hd d hd)
  · obtain ⟨oc, od, kV, doc, pm, an, cdv, ct, osl, rfl, lk, hcd⟩ := F18.ex
    exact fun s v => .of_eq rfl
  · intro H a ns hl hbits hT hS
    refine ⟨a, ns, rfl, hS, hl, fun P hP => ?_, fun _ => rfl⟩
    have hP : P ∈ (tf.map (He.cT K)).map (·.2) := hP
    obtain ⟨p, hp, rfl⟩ := List.mem_map.mp hP
    exact ⟨#[], hT p hp, by trivial⟩
  · intro base KB GB hTB
    have B : Tb base T := ⟨tab_of (hTB (He.cT K ("is_signs", none)) (List.mem_map.mpr ⟨_, (show (("is_signs", none) : He.Defn) ∈ tf by decide), rfl⟩)), tab_of (hTB (He.cT K ("is_net", none)) (List.mem_map.mpr ⟨_, (show (("is_net", none) : He.Defn) ∈ tf by decide), rfl⟩)), tab_of (hTB (He.cT K ("is_gate", none)) (List.mem_map.mpr ⟨_, (show (("is_gate", none) : He.Defn) ∈ tf by decide), rfl⟩))⟩
    exact ok_law T B
end Gk
open PySem PySem.W PyProof.Rows
set_option maxRecDepth 100000 in
set_option maxHeartbeats 0 in
theorem PySem.Challenge.cw_glitchnet_k01_what_is_a_net_holds : PySem.Challenge.rw_glitchnet_k01_what_is_a_net.Holds := by
  w_on; o_law
  refine HandSHeadRun.head_any (r := OpenLaw.row PySem.Challenge.rw_glitchnet_k01_what_is_a_net) (q := view (OpenLaw.row PySem.Challenge.rw_glitchnet_k01_what_is_a_net).prog [23]) (H := Gk.hk) (ob := Gk.ob) (M := 3000) (loose := [("is_whole" : PySem.Str), ("is_signs" : PySem.Str), ("MOST_INPUTS" : PySem.Str), ("MOST_INS" : PySem.Str), ("is_net" : PySem.Str), ("is_gate" : PySem.Str), ("_law_deck" : PySem.Str), ("_law_mixed" : PySem.Str), ("_law_take" : PySem.Str), ("_law_gate" : PySem.Str), ("_law_net" : PySem.Str), ("_law_put" : PySem.Str), ("_law_other" : PySem.Str), ("_law_spoilt" : PySem.Str), ("_law_whole" : PySem.Str), ("_law_in" : PySem.Str), ("_law_is_gate" : PySem.Str), ("_law_is_net" : PySem.Str), ("_law_right" : PySem.Str), ("_law_long_right" : PySem.Str)]) (d := HandSHeadRun.topDef (OpenLaw.row PySem.Challenge.rw_glitchnet_k01_what_is_a_net).prog 23) (kwd := []) Gk.ob_eq
    (by kernel_rfl) (fun s => by kernel_rfl) Gk.run (by kernel_rfl) (by kernel_rfl) (by kernel_rfl) (by rfl) (by first | assumption | decide +kernel) (by decide +kernel) ⟨rfl, rfl, rfl, rfl, rfl, by decide +kernel⟩ ?hw ?hc
  case hw => w_witness2
  case hc =>
    refine Gk.walk_GT (l := PySem.Challenge.rw_glitchnet_k01_what_is_a_net) (n := 63) (k := 9) (x := "_law_script") (CX := fun _ => L2.CX0) rfl (by decide) (by kernel_rfl) ⟨rfl, by decide, by decide⟩ ?F (fun _ _ _ _ _ z => z)
    intro w mg fa h Y G hmg0
    obtain ⟨K, KX, c⟩ := Y
    have hmg : mg ("law" : PySem.Str) = some (.ref fa) := by
      have e : (HandSHeadRun.topDef (OpenLaw.row PySem.Challenge.rw_glitchnet_k01_what_is_a_net).prog 23).name = ("law" : PySem.Str) := by kernel_rfl
      rw [← e]
      exact hmg0
    exact ⟨K, KX, Gk.facts KX G hmg c⟩
