import PyProof.Rows.All
import Wide.All
import OpenK.AllK
import Wide.FinOn
import HandS.ForMost
import HandS.IsInst
import HandS.TupLe
import HandS.TupAny
import HandS.TupMul
import HandS.More
import HandS.Codes
import HandS.Conv
import HandS.Deep
import HandS.TupSets
import HandS.Style
import HandS.Strs
import HandS.AnyAll
import HandS.GenList
import HandS.JoinGen
import HandS.Zip
import HandS.Rev
import HandS.FStr
import HandS.RevTup
import HandS.Head0
import HandS.Head1
import HandS.Head2
import HandS.HeadEnd
import HandS.HeadHook1
import HandS.HeadHook2
import HandS.HeadHook3
import HandS.HeadHook4
import HandS.HeadWalk
import HandS.Defaults
import HandS.ReplaceLit
import KE.KUnpackStar
import PyProof.ReprLen
import PyProof.ReprRoads
import PySem.Challenge.RW_glitchnet_k04_nets_written_and_read
set_option Elab.async false
set_option linter.all false
set_option maxRecDepth 100000
set_option maxHeartbeats 1000000
namespace Gk
open PySem PySem.Spec PyProof.Rows L2
/-! ### the text -/
def topS (i : Nat) : Stmt := PySem.Challenge.pw_glitchnet_k04_nets_written_and_read.main.body.getD i (.Pass ⟨0, 0, 0, 0⟩)
abbrev s_is_whole : Stmt := topS 4
abbrev s_is_signs : Stmt := topS 5
abbrev s_is_net : Stmt := topS 9
abbrev s_is_gate : Stmt := topS 10
abbrev s_show_net : Stmt := topS 13
abbrev s_read_net : Stmt := topS 14
abbrev s_read_head : Stmt := topS 15
abbrev s_read_gate : Stmt := topS 16
abbrev s_read_number : Stmt := topS 17
abbrev s_deck : Stmt := topS 19
abbrev s_mixed : Stmt := topS 20
abbrev s_take : Stmt := topS 21
abbrev s_gate : Stmt := topS 22
abbrev s_net : Stmt := topS 23
abbrev s_shown : Stmt := topS 24
abbrev s_near : Stmt := topS 25
abbrev s_right : Stmt := topS 26
abbrev s_law : Stmt := topS 27
theorem sc_is_whole : FnScope ["thing"] ["thing"] (defScope s_is_whole) := ⟨rfl, rfl, rfl, by decide +kernel, rfl, by decide +kernel, by decide +kernel⟩
theorem sc_is_signs : FnScope ["many", "thing", "sign"] ["many", "thing"] (defScope s_is_signs) := ⟨rfl, rfl, rfl, by decide +kernel, rfl, by decide +kernel, by decide +kernel⟩
theorem sc_is_net : FnScope ["thing", "many", "gates", "number", "gate"] ["thing"] (defScope s_is_net) := ⟨rfl, rfl, rfl, by decide +kernel, rfl, by decide +kernel, by decide +kernel⟩
theorem sc_is_gate : FnScope ["wires", "thing", "table", "ins", "wire"] ["wires", "thing"] (defScope s_is_gate) := ⟨rfl, rfl, rfl, by decide +kernel, rfl, by decide +kernel, by decide +kernel⟩
theorem sc_show_net : FnScope ["net", "many", "gates", "lines", "table", "ins", "wire"] ["net"] (defScope s_show_net) := ⟨rfl, rfl, rfl, by decide +kernel, rfl, by decide +kernel, by decide +kernel⟩
theorem sc_read_net : FnScope ["text", "head", "lines", "net", "line"] ["text"] (defScope s_read_net) := ⟨rfl, rfl, rfl, by decide +kernel, rfl, by decide +kernel, by decide +kernel⟩
theorem sc_read_head : FnScope ["line", "words"] ["line"] (defScope s_read_head) := ⟨rfl, rfl, rfl, by decide +kernel, rfl, by decide +kernel, by decide +kernel⟩
theorem sc_read_gate : FnScope ["line", "table", "wires", "wire"] ["line"] (defScope s_read_gate) := ⟨rfl, rfl, rfl, by decide +kernel, rfl, by decide +kernel, by decide +kernel⟩
theorem sc_read_number : FnScope ["word", "sign"] ["word"] (defScope s_read_number) := ⟨rfl, rfl, rfl, by decide +kernel, rfl, by decide +kernel, by decide +kernel⟩
theorem sc_deck : FnScope ["_law_script"] ["_law_script"] (defScope s_deck) := ⟨rfl, rfl, rfl, by decide +kernel, rfl, by decide +kernel, by decide +kernel⟩
theorem sc_mixed : FnScope ["_law_cell", "_law_k", "_law_number"] ["_law_cell", "_law_k"] (defScope s_mixed) := ⟨rfl, rfl, rfl, by decide +kernel, rfl, by decide +kernel, by decide +kernel⟩
theorem sc_take : FnScope ["_law_deck_here", "_law_most", "_law_cells", "_law_cell"] ["_law_deck_here", "_law_most"] (defScope s_take) := ⟨rfl, rfl, rfl, by decide +kernel, rfl, by decide +kernel, by decide +kernel⟩
theorem sc_gate : FnScope ["_law_deck_here", "_law_wires", "_law_near_here", "_law_size", "_law_ins", "_law_k"] ["_law_deck_here", "_law_wires", "_law_near_here"] (defScope s_gate) := ⟨rfl, rfl, rfl, by decide +kernel, rfl, by decide +kernel, by decide +kernel⟩
theorem sc_net : FnScope ["_law_deck_here", "_law_great", "_law_near_here", "_law_many", "_law_count", "_law_gates", "_law_k"] ["_law_deck_here"] (defScope s_net) := ⟨rfl, rfl, rfl, by decide +kernel, rfl, by decide +kernel, by decide +kernel⟩
theorem sc_shown : FnScope ["_law_net_here", "_law_lines", "_law_table", "_law_ins", "_law_line", "_law_wire"] ["_law_net_here"] (defScope s_shown) := ⟨rfl, rfl, rfl, by decide +kernel, rfl, by decide +kernel, by decide +kernel⟩
theorem sc_near : FnScope ["_law_deck_here", "_law_net_here", "_law_many", "_law_gates", "_law_at", "_law_table", "_law_ins", "_law_k", "_law_other"] ["_law_deck_here", "_law_net_here"] (defScope s_near) := ⟨rfl, rfl, rfl, by decide +kernel, rfl, by decide +kernel, by decide +kernel⟩
theorem sc_right : FnScope ["_law_net_here", "_law_text"] ["_law_net_here"] (defScope s_right) := ⟨rfl, rfl, rfl, by decide +kernel, rfl, by decide +kernel, by decide +kernel⟩
theorem sc_law : FnScope ["_law_script", "_law_deck_here", "_law_nets", "_law_turn", "_law_k"] ["_law_script"] (defScope s_law) := ⟨rfl, rfl, rfl, by decide +kernel, rfl, by decide +kernel, by decide +kernel⟩
structure Tx (K : PySem.W.Frag) (mg : Str → Option Value) where
  f_is_whole : Addr
  fd_is_whole : FuncData
  F_is_whole : Fun K "is_whole" "is_whole" s_is_whole f_is_whole fd_is_whole
  g_is_whole : mg "is_whole" = some (.ref f_is_whole)
  b_is_whole : Binds K fd_is_whole ["thing"] []
  f_is_signs : Addr
  fd_is_signs : FuncData
  F_is_signs : Fun K "is_signs" "is_signs" s_is_signs f_is_signs fd_is_signs
  g_is_signs : mg "is_signs" = some (.ref f_is_signs)
  b_is_signs : Binds K fd_is_signs ["many", "thing"] []
  c_is_signs : Addr
  P_is_signs : Addr
  cd_is_signs : fd_is_signs.code = .ref c_is_signs
  f_is_net : Addr
  fd_is_net : FuncData
  F_is_net : Fun K "is_net" "is_net" s_is_net f_is_net fd_is_net
  g_is_net : mg "is_net" = some (.ref f_is_net)
  b_is_net : Binds K fd_is_net ["thing"] []
  c_is_net : Addr
  P_is_net : Addr
  cd_is_net : fd_is_net.code = .ref c_is_net
  f_is_gate : Addr
  fd_is_gate : FuncData
  F_is_gate : Fun K "is_gate" "is_gate" s_is_gate f_is_gate fd_is_gate
  g_is_gate : mg "is_gate" = some (.ref f_is_gate)
  b_is_gate : Binds K fd_is_gate ["wires", "thing"] []
  c_is_gate : Addr
  P_is_gate : Addr
  cd_is_gate : fd_is_gate.code = .ref c_is_gate
  f_show_net : Addr
  fd_show_net : FuncData
  F_show_net : Fun K "show_net" "show_net" s_show_net f_show_net fd_show_net
  g_show_net : mg "show_net" = some (.ref f_show_net)
  b_show_net : Binds K fd_show_net ["net"] []
  f_read_net : Addr
  fd_read_net : FuncData
  F_read_net : Fun K "read_net" "read_net" s_read_net f_read_net fd_read_net
  g_read_net : mg "read_net" = some (.ref f_read_net)
  b_read_net : Binds K fd_read_net ["text"] []
  f_read_head : Addr
  fd_read_head : FuncData
  F_read_head : Fun K "read_head" "read_head" s_read_head f_read_head fd_read_head
  g_read_head : mg "read_head" = some (.ref f_read_head)
  b_read_head : Binds K fd_read_head ["line"] []
  f_read_gate : Addr
  fd_read_gate : FuncData
  F_read_gate : Fun K "read_gate" "read_gate" s_read_gate f_read_gate fd_read_gate
  g_read_gate : mg "read_gate" = some (.ref f_read_gate)
  b_read_gate : Binds K fd_read_gate ["line"] []
  f_read_number : Addr
  fd_read_number : FuncData
  F_read_number : Fun K "read_number" "read_number" s_read_number f_read_number fd_read_number
  g_read_number : mg "read_number" = some (.ref f_read_number)
  b_read_number : Binds K fd_read_number ["word"] []
  c_read_number : Addr
  P_read_number : Addr
  cd_read_number : fd_read_number.code = .ref c_read_number
  f_deck : Addr
  fd_deck : FuncData
  F_deck : Fun K "_law_deck" "_law_deck" s_deck f_deck fd_deck
  g_deck : mg "_law_deck" = some (.ref f_deck)
  b_deck : Binds K fd_deck ["_law_script"] []
  f_mixed : Addr
  fd_mixed : FuncData
  F_mixed : Fun K "_law_mixed" "_law_mixed" s_mixed f_mixed fd_mixed
  g_mixed : mg "_law_mixed" = some (.ref f_mixed)
  b_mixed : Binds K fd_mixed ["_law_cell", "_law_k"] []
  f_take : Addr
  fd_take : FuncData
  F_take : Fun K "_law_take" "_law_take" s_take f_take fd_take
  g_take : mg "_law_take" = some (.ref f_take)
  b_take : Binds K fd_take ["_law_deck_here", "_law_most"] []
  f_gate : Addr
  fd_gate : FuncData
  F_gate : Fun K "_law_gate" "_law_gate" s_gate f_gate fd_gate
  g_gate : mg "_law_gate" = some (.ref f_gate)
  b_gate : Binds K fd_gate ["_law_deck_here", "_law_wires", "_law_near_here"] []
  f_net : Addr
  fd_net : FuncData
  F_net : Fun K "_law_net" "_law_net" s_net f_net fd_net
  g_net : mg "_law_net" = some (.ref f_net)
  b_net : Binds K fd_net ["_law_deck_here"] []
  f_shown : Addr
  fd_shown : FuncData
  F_shown : Fun K "_law_shown" "_law_shown" s_shown f_shown fd_shown
  g_shown : mg "_law_shown" = some (.ref f_shown)
  b_shown : Binds K fd_shown ["_law_net_here"] []
  f_near : Addr
  fd_near : FuncData
  F_near : Fun K "_law_near" "_law_near" s_near f_near fd_near
  g_near : mg "_law_near" = some (.ref f_near)
  b_near : Binds K fd_near ["_law_deck_here", "_law_net_here"] []
  f_right : Addr
  fd_right : FuncData
  F_right : Fun K "_law_right" "_law_right" s_right f_right fd_right
  g_right : mg "_law_right" = some (.ref f_right)
  b_right : Binds K fd_right ["_law_net_here"] []
  f_law : Addr
  fd_law : FuncData
  F_law : Fun K "law" "law" s_law f_law fd_law
  g_law : mg "law" = some (.ref f_law)
  b_law : Binds K fd_law ["_law_script"] []
  m_all : mg "all" = none
  m_bool : mg "bool" = none
  m_enumerate : mg "enumerate" = none
  m_int : mg "int" = none
  m_isinstance : mg "isinstance" = none
  m_len : mg "len" = none
  m_list : mg "list" = none
  m_min : mg "min" = none
  m_range : mg "range" = none
  m_repr : mg "repr" = none
  m_reversed : mg "reversed" = none
  m_str : mg "str" = none
  m_sum : mg "sum" = none
  m_tuple : mg "tuple" = none
  k_MOST_INPUTS : ∃ t, mg "MOST_INPUTS" = some (.int 6 t)
  k_MOST_INS : ∃ t, mg "MOST_INS" = some (.int 3 t)
  k_MOST_FIGURES : ∃ t, mg "MOST_FIGURES" = some (.int 40 t)
structure Tb (base : Heap) {K : PySem.W.Frag} {mg : Str → Option Value} (T : Tx K mg) : Prop where
  TB_is_signs : GxR.TabB base mg T.c_is_signs T.P_is_signs
  TB_is_net : GxR.TabB base mg T.c_is_net T.P_is_net
  TB_is_gate : GxR.TabB base mg T.c_is_gate T.P_is_gate
  TB_read_number : GxR.TabB base mg T.c_read_number T.P_read_number
def Tx.tabs {K : PySem.W.Frag} {mg : Str → Option Value} (T : Tx K mg) : List Addr := [T.P_is_signs, T.P_is_net, T.P_is_gate, T.P_read_number]
/-! ### generator expressions whose elements may call -/
theorem inv_moved {X : Cx} {cp : List (Addr × Obj)} {σ : L2.St} {H : Hp} {s s' : Shared} (I : Inv X cp σ H s) (os : s'.os = s.os) (bare : AllBare s'.gens) (k : ∀ b o, s.heap.get? b = some o → s'.heap.get? b = some o) : Inv X cp σ H s' :=
  I.call' (ch := []) os (Un.kept k) (I.hok.kept k) bare fun b hb => absurd hb (by simp)
/-- the context of a generator expression's frame: C its frame, s, H the entry, fp its iterator's objects -/
abbrev gblk (X : Cx) (A : Around) (s : Shared) (H : Hp) (cenv : Env) (fp : List Addr) : Cx :=
  { X with A := A, s_0 := s, H_0 := H, env := cenv, outer := X.stack, stack := cenv :: X.stack, ex := fp, fn := fun _ => false, pn := [], xe := fun _ _ => False }
section
variable {X : Cx} {pins : List (Addr × Obj)} {σ : L2.St} {H : Hp} {s : Shared}
theorem gen_start {scope : Scope} {own : List (Str × Nat)} {fp : List Addr} {A : Around} {code it : Value} {s5 : Shared} {cp : List (Addr × Obj)}
    (I : Inv X pins σ H s) (ok : BlkOk X.N X.env.scope scope own) (nocell : ∀ y ∈ scope.names, y.2 ≠ .cell) (hN : X.N.Nodup) (hfp : ∀ b ∈ fp, FpOk X pins H b ∧ b < s.heap.objs.size)
    (hh : A.handled = none) (hfr : A.frames = some (genEnv scope (cloFrom X.env.cells scope.names []) s.heap.objs.size code builtinsNs X.env :: X.stack))
    (os : s5.os = s.os) (bare : AllBare s5.gens) (kp : ∀ b o, s.heap.get? b = some o → s5.heap.get? b = some o)
    (hns : s5.heap.Ns s.heap.objs.size fun y => if y = ".0" then some it else none)
    (hcp : ∀ p ∈ cp, s.heap.objs.size < p.1 ∧ s5.heap.get? p.1 = some p.2 ∧ ∀ v, p.2.data ≠ .cell v) :
    Inv (gblk X A s H (genEnv scope (cloFrom X.env.cells scope.names []) s.heap.objs.size code builtinsNs X.env) fp) cp (wipe σ (own.map (·.2))) H s5 := by
  have hfree : ∀ y ∈ scope.names, y.2 = .free → ∃ c, X.env.cells.lookup y.1 = some c := fun y hy e => by
    rcases ok.free y hy e with k | k
    · exact I.ok.has _ (.inl k)
    · exact I.ok.has _ (.inr k)
  generalize hcenv : genEnv scope (cloFrom X.env.cells scope.names []) s.heap.objs.size code builtinsNs X.env = cenv at hfr ⊢
  have hL : cenv.locals = s.heap.objs.size := by rw [← hcenv]; rfl
  have hcl : cenv.cells = cloFrom X.env.cells scope.names [] := by rw [← hcenv]; rfl
  have hsc : cenv.scope = scope := by rw [← hcenv]; rfl
  have cm : ∀ {y c}, (y, c) ∈ cloFrom X.env.cells scope.names [] → X.env.cells.lookup y = some c ∧ c < s.heap.objs.size := fun {y c} hm => by
    rcases cloFrom_mem hm with hm | ⟨h1, rfl⟩
    · cases hm
    · obtain ⟨c, hc⟩ := hfree _ h1 rfl
      rw [hc]
      obtain ⟨w, z⟩ := I.cell _ _ hc
      exact ⟨rfl, z.lt⟩
  have mem : ∀ {y c}, cenv.cells.lookup y = some c → X.env.cells.lookup y = some c ∧ c < s.heap.objs.size := fun {y c} e => by
    rw [hcl] at e
    exact cm (PySem.mem_of_lookup e)
  have look : ∀ {y}, scope.names.lookup y = some .free → ∃ c, cenv.cells.lookup y = some c ∧ X.env.cells.lookup y = some c := fun {y} hl => by
    have hy : (y, NameKind.free) ∈ scope.names := PySem.mem_of_lookup hl
    obtain ⟨c', e'⟩ := mem_lookup (cloFrom_has (cells := X.env.cells) (acc := []) hy)
    rw [← hcl] at e'
    exact ⟨c', e', (mem e').1⟩
  have okB : (gblk X A s H cenv fp).Ok := by
    refine ⟨I.ok.mod, by show cenv.scope.kind = _; rw [hsc]; exact ok.kind, by show cenv.globals = _; rw [← hcenv]; exact I.ok.glob, by show cenv.builtins = _; rw [← hcenv]; rfl, by show s.heap.objs.size ≤ cenv.locals; rw [hL]; exact Nat.le_refl _,
      fun y z c e1 e2 => I.ok.inj y z c (mem e1).1 (mem e2).1, fun y hy => ?_, fun y c z e => (by cases z), fun _ => hh, hfr, .inr ⟨rfl, by show cenv.frame = some cenv.locals; rw [← hcenv]; rfl⟩, fun b hb => ⟨?_, fun y c e z => ?_⟩, I.bs, Nat.le_trans I.ok.bsz I.sz, fun b o e hb => ?_, fun b hb z => ?_, I.stack, I.stkFree⟩
    · have hy' : scope.names.lookup y = some .cell ∨ scope.names.lookup y = some .free := by
        rw [← hsc]
        exact hy
      rcases hy' with e | e
      · exact absurd rfl (nocell _ (PySem.mem_of_lookup e))
      · obtain ⟨c, h1, _⟩ := look e
        exact ⟨c, h1⟩
    · show b ≠ cenv.locals
      rw [hL]; exact Nat.ne_of_lt (hfp b hb).2
    · exact (hfp b hb).1.2.2.2.2.1 y c (mem e).1 z
    · rcases (hfp b hb).1.2.2.2.1 with z | z
      · exact I.ok.noex b o e z
      · exact absurd (Nat.lt_of_lt_of_le (Heap.lt_size e) (Nat.le_trans I.ok.bsz z)) (Nat.lt_irrefl _)
    · rcases List.mem_cons.mp (I.stkSub b z) with z | z
      · exact (hfp b hb).1.2.1 z
      · exact (hfp b hb).1.2.2.1 z
  refine ⟨okB, os, bare, Un.kept kp, ⟨_, (by show s5.heap.Ns cenv.locals _; rw [hL]; exact hns), fun i y av e1 e2 e3 => ?_⟩, fun y c e => ?_, ?_, fun y c e => I.freeC y c (mem e).1, fun p hp => ?_, I.hok.kept kp, by rw [wipe_length]; exact I.len⟩
  · obtain ⟨e2, hne⟩ := wipe_some e2
    have e3 : Vis scope y := by rw [← hsc]; exact e3
    have no : ∀ k, scope.names.lookup y = some k → ¬ (k = .local ∨ k = .cell) := fun k e hh => by
      rcases ok.own _ (PySem.mem_of_lookup e) hh with e' | e'
      · obtain ⟨p, hp, hpy⟩ := List.mem_map.mp e'
        have e3 := ok.ix p hp
        have : p.1 = y := hpy
        rw [this] at e3
        exact hne (List.mem_map.mpr ⟨p, hp, nodup_ix hN e3 e1⟩)
      · exact e' (List.mem_of_getElem? e1)
    have hfr2 : scope.names.lookup y = some .free := by
      rcases e3 with e | e | e
      · exact absurd (.inl rfl) (no _ e)
      · exact absurd (.inr rfl) (no _ e)
      · exact e
    obtain ⟨m, hn, hl⟩ := I.loc
    have hvis : Vis X.env.scope y := (ok.free _ (PySem.mem_of_lookup hfr2) rfl).elim (fun k => .inr (.inl k)) (fun k => .inr (.inr k))
    obtain ⟨w, r, q⟩ := hl i y av e1 e2 hvis
    refine ⟨w, r, .inr ⟨.inr (by show cenv.scope.names.lookup y = some .free; rw [hsc]; exact hfr2), ?_⟩⟩
    obtain ⟨c, h1, h2⟩ := look hfr2
    rcases q with ⟨k, _⟩ | ⟨_, c', e', z⟩
    · have k : X.env.scope.names.lookup y = some .local := k
      rcases ok.free _ (PySem.mem_of_lookup hfr2) rfl with k' | k' <;> rw [show X.env.scope.names.lookup y = _ from k'] at k <;> cases k
    · rw [h2] at e'; cases e'
      exact ⟨c, h1, z.keeps kp⟩
  · obtain ⟨w, z⟩ := I.cell y c (mem e).1
    exact ⟨w, z.keeps kp⟩
  · show H cenv.locals = none
    rw [hL]; exact I.hok.fresh (Nat.le_refl _)
  · have hp : p ∈ cp := by simpa using hp
    obtain ⟨h1, h2, h3⟩ := hcp p hp
    refine ⟨h2, I.hok.fresh (Nat.le_of_lt h1), by show p.1 ≠ cenv.locals; rw [hL]; exact Nat.ne_of_gt h1, fun z => ?_, h3⟩
    rcases List.mem_cons.mp (I.stkSub _ z) with z | z
    · exact absurd (Nat.lt_trans I.lt h1) (by rw [z]; exact Nat.lt_irrefl _)
    · exact I.nofs (Nat.le_of_lt h1) z
end
/-! ### the talk of a generator and who asks it -/
section
variable {α : Type}
/-- handed out: x; the asker's state a (laid down in the pins cp) goes to one with Nx -/
def YG (Xg : Cx) (fp : List Addr) (tn : Nat → Heap → Prop) (AC : α → List (Addr × Obj) → Prop) (Yd : α → V → Hp → (α → Hp → Prop) → Prop) : Protocol := fun _ _ v s kap =>
  ∃ (a : α) (x : V) (σ : L2.St) (H : Hp) (i : Nat) (cp : List (Addr × Obj)) (Nx : α → Hp → Prop), RelV x v ∧ AC a cp ∧ Inv Xg cp σ H s ∧ tn i s.heap ∧ (∀ b ∈ fp, H b = none) ∧ Yd a x H Nx ∧
    ∀ a' cp' s', Nx a' H → AC a' cp' → Inv Xg cp' σ H s' → tn i s'.heap → kap (.send .none) s'
def RG (Xg : Cx) (AC : α → List (Addr × Obj) → Prop) (End : α → Hp → Prop) : GenEnd := fun _ _ r s =>
  ((r = .ok (.ret .none) ∨ r = .ok .next) ∧ ∃ (a : α) (σ : L2.St) (H : Hp) (cp : List (Addr × Obj)), AC a cp ∧ Inv Xg cp σ H s ∧ End a H) ∨ ∃ e, r = .error e ∧ False
/-- a generator's turns -/
def tGx (J : It) (g : TG) (tt : TT) (te : TE) (σ0 : L2.St) (vs : List Nat) (End : α → Hp → Prop) (Yd : α → V → Hp → (α → Hp → Prop) → Prop) (W : Nat → Nat → α → Hp → Prop) : Prop :=
  ∀ i m a H, W i m a H → (J.stop i H ∧ End a H) ∨ (J.go i H ∧ ∃ Nx : α → Hp → Prop, (∀ a' H', Nx a' H' → ∃ m', m' < m ∧ W (i + 1) m' a' H') ∧
    ∀ x H', J.yld i H x H' → g x σ0 H' fun σ2 H2 => wipe σ2 vs = σ0 ∧ tt σ2 H2 fun b H3 => if b = true then te σ2 H3 fun y H4 => Yd a y H4 Nx else Nx a H3)
theorem wipe_wipe_some {σ σ2 : L2.St} {vs : List Nat} (h : wipe σ2 vs = σ) : ∀ (j : Nat) v, σ[j]? = some (some v) → σ2[j]? = some (some v) := fun j v e => by
  rw [← h] at e
  exact (wipe_some e).1
theorem seg_gx {X : Cx} {A A' : Around} {s_0 : Shared} {H_0 : Hp} {elt tg iter : Expr} {ifs : List Expr} {scope : Scope} {pos : Pos} {it : Addr} {fp : List Addr} {tn : Nat → Heap → Prop} {J : It} {cenv : Env} {g : TG} {tt : TT} {te : TE} {σ0 : L2.St} {vs : List Nat}
    {AC : α → List (Addr × Obj) → Prop} {End : α → Hp → Prop} {Yd : α → V → Hp → (α → Hp → Prop) → Prop} {W : Nat → Nat → α → Hp → Prop}
    (hA : A.over (.compLoop (.GeneratorExp elt [⟨tg, iter, ifs, 0⟩] scope pos) 0 (.ref it) .none cenv) [] = A') (hc : X.calm = true) (hco : cenv.scope.isCoroutine = false)
    (T : Turn X.prog X.w X.K tg J fp it tn) (pg : PG (gblk X A' s_0 H_0 cenv fp) tg g) (pt : PTs (gblk X A' s_0 H_0 cenv fp) ifs tt) (pe : PE (gblk X A' s_0 H_0 cenv fp) elt te)
    (hAC : ∀ a cp, AC a cp → ∀ p ∈ cp, ∀ b ∈ fp, p.1 ≠ b) (turn : tGx J g tt te σ0 vs End Yd W) :
    ∀ (m n i : Nat) (a : α) (H : Hp) (s₀ s : Shared) (cp : List (Addr × Obj)), m < n → W i m a H → AC a cp → Inv (gblk X A' s_0 H_0 cenv fp) cp σ0 H s → tn i s.heap → (∀ b ∈ fp, H b = none) →
      Seg (model X.prog X.w) A (RG (gblk X A' s_0 H_0 cenv fp) AC End) (YG (gblk X A' s_0 H_0 cenv fp) fp tn AC Yd) n s₀
        (.compLoop (.GeneratorExp elt [⟨tg, iter, ifs, 0⟩] scope pos) 0 (.ref it) .none cenv)
        ((model X.prog X.w).den (.compLoop (.GeneratorExp elt [⟨tg, iter, ifs, 0⟩] scope pos) 0 (.ref it) .none cenv)) [] s := by
  have stat : ∀ {a : α} {cp : List (Addr × Obj)} {σ' : L2.St} {H' : Hp} {s' : Shared}, AC a cp → Inv (gblk X A' s_0 H_0 cenv fp) cp σ' H' s' → (∀ b ∈ fp, H' b = none) → ∀ b ∈ fp, FpOk (gblk X A' s_0 H_0 cenv fp) cp H' b := fun {a cp σ' H' s'} hac I' hn b hb =>
    ⟨hn b hb, (I'.ok.exf b hb).1, I'.ok.exfs b hb, .inl hb, fun x c e => (I'.ok.exf b hb).2 x c e, fun p hp => hAC a cp hac p (by simpa using hp) b hb⟩
  intro m
  induction m using Nat.strongRecOn with
  | ind m ih =>
    intro n i a H s₀ s cp hmn w hac I st nf
    show Seg _ A _ _ _ s₀ _ ((compTurn (.GeneratorExp elt [⟨tg, iter, ifs, 0⟩] scope pos) 0 (.ref it) .none cenv).onRaise (leaving cenv)) [] s
    rw [compTurn_gen, Sem.onRaise_eq_wrap]
    refine seg_bind_wrap (wpAny_standAt ?_)
    rcases turn i m a H w with ⟨stop, hend⟩ | ⟨go, Nx, hNx, step⟩
    · refine seg_bind_wrap ?_
      rw [hA]
      refine thnF (T.done (gblk X A' s_0 H_0 cenv fp) rfl rfl rfl hc i cp s σ0 H (fun _ _ => False) I (stat hac I nf) st stop) fun r s1 ⟨hr, I1⟩ => ?_
      subst hr
      exact seg_end (.ok .next) (.inl ⟨.inr rfl, a, _, H, cp, hac, I1, hend⟩)
    · refine seg_bind_wrap ?_
      rw [hA]
      refine thnF (T.item (gblk X A' s_0 H_0 cenv fp) rfl rfl rfl hc i cp s σ0 H (fun _ _ => False) I (stat hac I nf) st go) fun r s1 ⟨u, hr, h1⟩ => ?_
      subst hr
      refine seg_bind_wrap ?_
      rw [hA]
      refine thnF h1 fun _ s2 ⟨x, H2, I2, r2, y2, st2, n2⟩ => ?_
      have I2' := I2.pinned (stat hac I2 n2) (T.obj _ _ st2)
      refine seg_bind_wrap ?_
      rw [hA]
      refine thnF (pg.run _ s2 _ H2 x u _ I2' r2 (step x H2 y2)) fun _ s3 ⟨σ3, H3, I3, hw3, q3⟩ => ?_
      refine seg_bind_wrap ?_
      rw [hA]
      refine thnF (pt.run _ s3 σ3 H3 _ I3 q3) fun b s4 ⟨H4, I4, q4⟩ => ?_
      have hl : σ0.length = σ3.length := by rw [← hw3, wipe_length]
      have fin : ∀ {s' : Shared} {H' : Hp}, Inv (gblk X A' s_0 H_0 cenv fp) (cp ++ pinsAt fp s2.heap) σ3 H' s' → Inv (gblk X A' s_0 H_0 cenv fp) cp σ0 H' s' ∧ tn (i + 1) s'.heap ∧ ∀ b ∈ fp, H' b = none := fun {s' H'} I' => by
        have pin' : ∀ b ∈ fp, ∀ o, s2.heap.get? b = some o → s'.heap.get? b = some o ∧ H' b = none := fun b hb o e =>
          let z := I'.pin (b, o) (List.mem_append_right _ (List.mem_append_right _ (mem_pinsAt hb e)))
          ⟨z.1, z.2.1⟩
        refine ⟨(I'.unpinned (pins := cp)).weak hl (wipe_wipe_some hw3), T.keep _ _ _ st2 fun b hb o e => (pin' b hb o e).1, fun b hb => ?_⟩
        obtain ⟨o, e, _⟩ := T.obj _ _ st2 b hb
        exact (pin' b hb o e).2
      cases b with
      | false =>
        simp only [Bool.false_eq_true, if_false] at q4 ⊢
        obtain ⟨m', hm, w'⟩ := hNx a H4 q4
        obtain ⟨J1, J2, J3⟩ := fin I4
        exact seg_again rfl (ih m' hm n (i + 1) a H4 s₀ s4 cp (by omega) w' hac J1 J2 J3)
      | true =>
        simp only [if_true] at q4 ⊢
        have hy : ∀ v, yieldOut cenv v = yieldValue v := fun v => by simp only [yieldOut, hco, Bool.false_eq_true, if_false]
        simp only [hy]
        rw [Sem.bind_eq_wrap', Sem.bind_eq_wrap', Sem.wrap_wrap, Sem.wrap_wrap]
        refine seg_wrap ?_
        rw [hA]
        refine thnF (pe.run _ s4 σ3 H4 _ I4 q4) fun yv s5 ⟨y, H5, I5, r5, q5⟩ => ?_
        obtain ⟨J1, J2, J3⟩ := fin I5
        -- at least one more
        cases n with
        | zero => exact absurd hmn (Nat.not_lt_zero _)
        | succ n =>
          refine seg_at (seg_yield rfl rfl rfl ⟨a, y, σ0, H5, i + 1, cp, Nx, r5, hac, J1, J2, J3, q5, fun a' cp' s' nx hac' I' st' => ?_⟩)
          obtain ⟨m', hm, w'⟩ := hNx a' H5 nx
          exact seg_again rfl (ih m' hm n (i + 1) a' H5 s' s' cp' (by omega) w' hac' I' st' J3)
end
/-! ### a generator that is made -/
section
variable {X : Cx} {pins : List (Addr × Obj)} {σ : L2.St} {H : Hp} {s : Shared}
def GenObj (o : Obj) (g : Nat) : Prop := ∃ nm qn, o.cls = .type "generator" ∧ o.data = .fields #[.int g 0, nm, qn] ∧ o.slots = #[]
theorem GenObj.isGen {o : Obj} {g : Nat} (h : GenObj o g) {a : Addr} {hp : Heap} (e : hp.get? a = some o) : hp.IsGen a g := by
  obtain ⟨nm, qn, h1, h2, h3⟩ := h
  exact ⟨o, nm, qn, e, h1, h2, h3⟩
/-- the generator u, made and not begun, in the state s5 -/
def Gx (X : Cx) (pins : List (Addr × Obj)) (σ : L2.St) (A : Around) (J : It) (g : TG) (tt : TT) (te : TE) (vs : List Nat) (H4 : Hp) (u : Value) (s5 : Shared) : Prop :=
  ∃ (A' : Around) (s_0 : Shared) (H_0 : Hp) (cenv : Env) (fp : List Addr) (ga : Addr) (gn : Nat) (go : Obj) (tn : Nat → Heap → Prop) (gs : GenState),
    u = .ref ga ∧ GenObj go gn ∧ s5.gens[gn]? = some gs ∧ gs.bare = true ∧ Inv (gblk X A' s_0 H_0 cenv fp) [(ga, go)] (wipe σ vs) H4 s5 ∧ tn 0 s5.heap ∧ (∀ b ∈ fp, H4 b = none) ∧ (∀ b ∈ fp, b < ga) ∧
    (∀ i h h', tn i h → (∀ b ∈ fp, ∀ o, h.get? b = some o → h'.get? b = some o) → tn i h') ∧ (∀ cp σ' H' s', Inv (gblk X A' s_0 H_0 cenv fp) cp σ' H' s' → Inv X pins σ H' s') ∧
    ∀ (α : Type) (AC : α → List (Addr × Obj) → Prop) (End : α → Hp → Prop) (Yd : α → V → Hp → (α → Hp → Prop) → Prop) (W : Nat → Nat → α → Hp → Prop) (m n : Nat) (a : α) (cp : List (Addr × Obj)) (s' : Shared),
      tGx J g tt te (wipe σ vs) vs End Yd W → W 0 m a H4 → m < n → (∀ a cp, AC a cp → ∀ p ∈ cp, ∀ b ∈ fp, p.1 ≠ b) → AC a cp → Inv (gblk X A' s_0 H_0 cenv fp) cp (wipe σ vs) H4 s' → tn 0 s'.heap →
      gs.Goes (model X.prog X.w) A (RG (gblk X A' s_0 H_0 cenv fp) AC End) (YG (gblk X A' s_0 H_0 cenv fp) fp tn AC Yd) n (.send .none) s'
/-- what stands about an asker -/
structure Near (A B : Around) : Prop where
  hd : B.handled = A.handled
  fr : B.frames = A.frames
  gd : B.guards = A.guards
  dp : B.depth = A.depth
  un : B.units ≤ A.units + 8
theorem gx_make {c P : Addr} {elt tg iter : Expr} {ifs : List Expr} {gpos : Pos} {scope : Scope} {own : List (Str × Nat)} {wi : TI} {g : TG} {tt : TT} {te : TE} {k : Nat} {Q' : Value → Shared → Prop} {R : It → Hp → Prop} {A : Around}
    (hr : Room (k + 1) X.A) (near : Near X.A A) (hc : X.calm = true) (hN : X.N.Nodup) (TB : GxR.TabB X.base X.mg c P) (hcode : X.env.code = .ref c) (hco : scope.isCoroutine = false) (hdot : scope.names.lookup (".0" : Str) = some NameKind.local)
    (nocell : ∀ y ∈ scope.names, y.2 ≠ .cell) (ok : BlkOk X.N X.env.scope scope own) (hi : PI X tg iter wi)
    (hg : ∀ (A' : Around) (s : Shared) (H : Hp) (C : Addr) (cl : List (Str × Addr)) (code : Value) (fp : List Addr), Room k A' → A'.guards = X.A.guards → PG (gblk X A' s H (genEnv scope cl C code builtinsNs X.env) fp) tg g)
    (ht : ∀ (A' : Around) (s : Shared) (H : Hp) (C : Addr) (cl : List (Str × Addr)) (code : Value) (fp : List Addr), Room k A' → A'.guards = X.A.guards → PTs (gblk X A' s H (genEnv scope cl C code builtinsNs X.env) fp) ifs tt)
    (he : ∀ (A' : Around) (s : Shared) (H : Hp) (C : Addr) (cl : List (Str × Addr)) (code : Value) (fp : List Addr), Room k A' → A'.guards = X.A.guards → PE (gblk X A' s H (genEnv scope cl C code builtinsNs X.env) fp) elt te)
    (hs : ∀ v, genFold iter X.env v = pure v) (I : Inv X pins σ H s) (h : wi σ H fun J H1 => GxR.TabG H1 P ∧ R J H1)
    (hQ : ∀ J H1 H2 u s5, R J H1 → GxR.Tabbed P H1 H2 → Gx X pins σ A J g tt te (own.map (·.2)) H2 u s5 → Q' u s5) :
    wpAny (model X.prog X.w) X.A (eval (.GeneratorExp elt [⟨tg, iter, ifs, 0⟩] scope gpos) X.env) Q' X.xe s := by
  have hfree : ∀ y ∈ scope.names, y.2 = .free → ∃ c, X.env.cells.lookup y.1 = some c := fun y hy e => by
    rcases ok.free y hy e with k | k
    · exact I.ok.has _ (.inl k)
    · exact I.ok.has _ (.inr k)
  refine wpAny_GeneratorExp_make hco (closure_ok hfree) nocell hdot ok.kind (by have := hr.dp; omega) ?_ hs
  refine thn (hi.run pins s σ H _ I h) fun xv s1 hx => thn hx fun itv s2 h2 => ?_
  obtain ⟨it, fp, tn, J, H2, rfl, I2, T, st2, f2, ⟨ps, hP, ht3⟩, q⟩ := h2
  refine ⟨I2.nolimit, ?_⟩
  have hPs : s2.heap.get? P = some { cls := .none, data := .fields ps } := I2.hok P _ hP
  have cd : PySem.W.CodeHd s2.heap c P := TB.code.keeps fun b u e => I2.bk b u e
  have nP : ∀ b, H2 b = none → b ≠ P := fun b e z => by
    rw [z, hP] at e
    cases e
  have cont : ∀ (code : Value) (h3 : Heap) (tk : Nat) (ps' : Array Value), Heap.ExtBut P s2.heap h3 → s2.heap.objs.size ≤ h3.objs.size → h3.get? P = some { cls := .none, data := .fields ps' } → (∃ more, ps' = ps ++ more) → TriplesOk ps'.toList →
      wpAny (model X.prog X.w) X.A (builtinsFor X.env.globals X.env.builtins) (fun bi s₄ =>
        ∀ h', h'.Ns s₄.heap.objs.size (fun y => if y = ".0" then some (Value.ref it) else none) → Heap.SameBut s₄.heap.objs.size (s₄.heap.push { cls := .type "frame", data := .dict #[] }) h' →
          Q' (.ref h'.objs.size) { s₄ with
            gens := s₄.gens.push (.fresh (.compStart (.GeneratorExp elt [⟨tg, iter, ifs, 0⟩] scope gpos) 0 (.ref it) .none (genEnv scope (cloFrom X.env.cells scope.names []) s₄.heap.objs.size code bi X.env))),
            toks := s₄.toks + 1 + 1 + 1,
            heap := h'.push { cls := .type "generator", data := .fields #[.int s₄.gens.size 0, .str "<genexpr>" (s₄.toks + 1), .str (X.env.qual ++ "<genexpr>") (s₄.toks + 1 + 1)] } }) X.xe { s2 with heap := h3, toks := tk } := by
    rintro code h3 tk ps' hx hsz hP3 ⟨more, rfl⟩ ht4
    obtain ⟨bm, ob, e1, e2, e3, e4, e5, e6, e7, e8⟩ := TB.bm
    refine wpAny_builtinsFor (m := X.mg) (by rw [I2.ok.glob]; exact (I2.mod.glob.keeps I2.bk).extBut hx TB.gP) e1 e2 (hx _ _ e4 (I2.bk _ _ e5)) e6 e7 e8 ?_
    intro h' hns hsb
    have I3 : Inv X pins σ (upd H2 P (.tbl (ps ++ more))) { s2 with heap := h3, toks := tk } := GxR.inv_tab (g' := s2.gens) (d' := s2.drawn) I2 hP (fun b o hb e => hx b o hb e) hP3 I2.bare
    have lt2 : ∀ b ∈ fp, b < s2.heap.objs.size := fun b hb => by
      obtain ⟨o, e, _⟩ := T.obj _ _ st2 b hb
      exact Heap.lt_size e
    have f3 : ∀ b ∈ fp, FpOk X pins (upd H2 P (.tbl (ps ++ more))) b ∧ b < ({ s2 with heap := h3, toks := tk } : Shared).heap.objs.size := fun b hb => by
      refine ⟨⟨?_, (f2 b hb).2⟩, Nat.lt_of_lt_of_le (lt2 b hb) hsz⟩
      rw [upd_ne (nP b (f2 b hb).1)]
      exact (f2 b hb).1
    have st3 : tn 0 h3 := T.keep _ _ _ st2 fun b hb o e => hx b o (nP b (f2 b hb).1) e
    generalize hs4 : ({ s2 with heap := h3, toks := tk } : Shared) = s4 at I3 f3 hns hsb ⊢
    have h4 : s4.heap = h3 := by rw [← hs4]
    have hsz4 : h'.objs.size = s4.heap.objs.size + 1 := by rw [hsb.1, Heap.size_push]
    have keep' : ∀ b o, s4.heap.get? b = some o → h'.get? b = some o := fun b o e => hsb.extBut b o (Nat.ne_of_lt (Heap.lt_size e)) (Heap.get?_push_of_some _ e)
    generalize hgo : ({ cls := .type "generator", data := .fields #[.int s4.gens.size 0, .str "<genexpr>" (s4.toks + 1), .str (X.env.qual ++ "<genexpr>") (s4.toks + 1 + 1)] } : Obj) = go
    have hGO : GenObj go s4.gens.size := by rw [← hgo]; exact ⟨_, _, rfl, rfl, rfl⟩
    have k5 : ∀ b o, s4.heap.get? b = some o → (h'.push go).get? b = some o := fun b o e => Heap.get?_push_of_some _ (keep' b o e)
    have pg := fun A' => hg A' s4 (upd H2 P (.tbl (ps ++ more))) s4.heap.objs.size (cloFrom X.env.cells scope.names []) code fp
    have pt := fun A' => ht A' s4 (upd H2 P (.tbl (ps ++ more))) s4.heap.objs.size (cloFrom X.env.cells scope.names []) code fp
    have pe := fun A' => he A' s4 (upd H2 P (.tbl (ps ++ more))) s4.heap.objs.size (cloFrom X.env.cells scope.names []) code fp
    generalize hce : genEnv scope (cloFrom X.env.cells scope.names []) s4.heap.objs.size code builtinsNs X.env = cenv at pg pt pe ⊢
    have hscn : cenv.scope = scope := by rw [← hce]; rfl
    generalize hA' : A.over (.compLoop (.GeneratorExp elt [⟨tg, iter, ifs, 0⟩] scope gpos) 0 (.ref it) .none cenv) [] = A'
    have hfrA : A'.frames = some (cenv :: X.stack) := by
      rw [← hA']
      show pushEnvs [cenv] A.frames = _
      rw [near.fr, I2.ok.frames]
      rfl
    have hhd : A'.handled = none := by
      rw [← hA']
      show A.handled = none
      rw [near.hd]
      exact hr.hd
    have rm : Room k A' := by
      refine ⟨hhd, ?_, ?_⟩
      · have := hr.dp
        have := near.dp
        rw [← hA']
        show A.depth + 0 + 1 + 3 * k + 5 < _
        omega
      · have := hr.un
        have := near.un
        rw [← hA']
        show A.units + 0 + 3 + 16 * k + 200 < _
        omega
    have gdA : A'.guards = X.A.guards := by
      rw [← hA']
      show pushGuards [] A.guards = _
      rw [near.gd]
      rfl
    have I5 : Inv (gblk X A' s4 (upd H2 P (.tbl (ps ++ more))) cenv fp) [(h'.objs.size, go)] (wipe σ (own.map (·.2))) (upd H2 P (.tbl (ps ++ more)))
        { s4 with gens := s4.gens.push (.fresh (.compStart (.GeneratorExp elt [⟨tg, iter, ifs, 0⟩] scope gpos) 0 (.ref it) .none cenv)), toks := s4.toks + 1 + 1 + 1, heap := h'.push go } := by
      subst hce
      refine gen_start (it := .ref it) I3 ok nocell hN f3 hhd hfrA rfl (I3.bare.push rfl) k5 (hns.push _) fun p hp => ?_
      have e : p = (h'.objs.size, go) := by simpa using hp
      subst e
      refine ⟨by show s4.heap.objs.size < h'.objs.size; omega, Heap.get?_push_size _ (by rw [← hgo]; rfl), fun v z => ?_⟩
      rw [← hgo] at z
      cases z
    refine hQ J H2 _ _ _ q ⟨⟨_, upd_same, ht4⟩, fun b hb => upd_ne hb⟩ ⟨A', s4, _, cenv, fp, h'.objs.size, s4.gens.size, go, tn, _, rfl, hGO, Array.getElem?_push_size .., rfl, I5, ?_, fun b hb => (f3 b hb).1.1, fun b hb => ?_, T.keep, fun cp σ' H' s' I' => ?_, ?_⟩
    · exact T.keep _ _ _ st3 fun b _ o e => k5 b o (by rw [h4]; exact e)
    · have := (f3 b hb).2
      rw [hsz4]
      exact Nat.lt_succ_of_lt this
    · exact I3.call' (ch := fp) I'.os I'.base I'.hok I'.bare fun b hb => ⟨(f3 b hb).1.2.2.2.1, (f3 b hb).1.2.1, (f3 b hb).1.2.2.2.2.1, (f3 b hb).1.2.2.2.2.2⟩
    · intro α AC End Yd W m n a cp s' turn w hmn hAC hac I' st'
      refine ⟨rfl, ?_⟩
      have loop := seg_gx (A := A) (pos := gpos) (iter := iter) (scope := scope) hA' hc (by rw [hscn]; exact hco) T (pg A' rm gdA) (pt A' rm gdA) (pe A' rm gdA) hAC turn m n 0 a _ s' s' cp hmn w hac I' st' fun b hb => (f3 b hb).1.1
      show Seg _ A _ _ _ s' _ ((compStart (.GeneratorExp elt [⟨tg, iter, ifs, 0⟩] scope gpos) 0 (.ref it) .none cenv).onRaise (leaving cenv)) [] s'
      unfold compStart
      rw [Sem.onRaise_eq_wrap]
      show Seg _ A _ _ _ s' _ ((ask >>= _).wrap _ _ _ _) [] s'
      refine seg_bind_wrap (wpAny_askSetting ?_)
      split
      · exact seg_again rfl loop
      · first
          | exact seg_bind_wrap (wpAny_rule (seg_bind_wrap (wpAny_standAt (seg_bind_wrap (T.self _ 0 s' _ _ st' (seg_again rfl loop))))))
          | (refine seg_bind_wrap (wpAny_rule ?_); show Seg _ A _ _ _ s' _ ((standAt iter.pos >>= _).wrap _ _ _ _) [] s'; exact seg_bind_wrap (wpAny_standAt (seg_bind_wrap (T.self _ 0 s' _ _ st' (seg_again rfl loop)))))
  cases hf : codeAmong gpos ps.toList with
  | none =>
    refine wpAny_genexprCodeX hcode (cd.code hPs ht3) (cd.tab hPs) hf fun c' h' tk hx hge hlt hco' _ htab' _ => ?_
    obtain ⟨o1, vs, f1, tf, fl, tg, inF, tx, tt, op, _, _, _, _, _, _, _, _, _, htr, _⟩ := hco'
    exact cont _ h' tk _ hx (Nat.le_trans hge (Nat.le_of_lt hlt)) htab'.2 ⟨_, rfl⟩ htr
  | some cv =>
    refine wpAny_genexprCode_hit hcode (cd.code hPs ht3) hf ?_
    exact cont cv s2.heap s2.toks ps (Heap.ExtBut.refl _ _) (Nat.le_refl _) hPs ⟨#[], by simp⟩ ht3
end
/-! ### asking -/
section
variable {α : Type} {X : Cx} {A A' : Around} {s_0 : Shared} {H_0 : Hp} {cenv : Env} {fp : List Addr} {tn : Nat → Heap → Prop} {AC : α → List (Addr × Obj) → Prop} {End : α → Hp → Prop} {Yd : α → V → Hp → (α → Hp → Prop) → Prop} {ga : Addr} {gn n : Nat} {go : Obj}
theorem next_gx {gs : GenState} {s : Shared} {Q : Option Value → Shared → Prop} {E : Value → Shared → Prop} (hh : A.handled = none) (hroom : A.depth < recursionLimit) (hl : s.heap.NoLimit) (hG : GenObj go gn) (e : s.heap.get? ga = some go) (hgs : s.gens[gn]? = some gs)
    (hgo : gs.Goes (model X.prog X.w) A.in1 (RG (gblk X A' s_0 H_0 cenv fp) AC End) (YG (gblk X A' s_0 H_0 cenv fp) fp tn AC Yd) n (.send .none) (s.setGen gn .running))
    (item : ∀ (a : α) (x : V) (σ : L2.St) (H : Hp) (i : Nat) (cp : List (Addr × Obj)) (Nx : α → Hp → Prop) (v : Value) (s1 : Shared) (gs' : GenState), RelV x v → AC a cp → Inv (gblk X A' s_0 H_0 cenv fp) cp σ H s1 → tn i s1.heap → Yd a x H Nx → s1.gens[gn]? = some gs' →
      (∀ a' cp' s', Nx a' H → AC a' cp' → Inv (gblk X A' s_0 H_0 cenv fp) cp' σ H s' → tn i s'.heap → ∃ m, n = m + 1 ∧ gs'.Goes (model X.prog X.w) A.in1 (RG (gblk X A' s_0 H_0 cenv fp) AC End) (YG (gblk X A' s_0 H_0 cenv fp) fp tn AC Yd) m (.send .none) s') → Q (some v) s1)
    (done : ∀ (a : α) (σ : L2.St) (H : Hp) (cp : List (Addr × Obj)) (s1 : Shared), AC a cp → Inv (gblk X A' s_0 H_0 cenv fp) cp σ H s1 → End a H → Q none s1) :
    wpAny (model X.prog X.w) A (pyNext (.ref ga)) Q E s := by
  have hgl : gn < s.gens.size := (Array.getElem?_eq_some_iff.mp hgs).1
  refine GenW.wpAny_gsz (n := gn + 1) hgl (next_genG (Er := fun _ _ => False) hh hl hroom (hG.isGen e) hgs hgo (fun v s₁ gs' hbare hv => ?_) (fun s₁ hp h' hk => ?_) fun e s₁ he => he.elim)
  · intro hsz
    obtain ⟨a, x, σ, H, i, cp, Nx, r, hac, I, st, nf, hy, kap⟩ := hv
    have hsz1 : gn < s₁.gens.size := by
      have q : (s₁.setGen gn gs').gens.size = s₁.gens.size := GenW.setGen_size _ _ _
      have hsz' : gn + 1 ≤ (s₁.setGen gn gs').gens.size := hsz
      omega
    refine item a x σ H i cp Nx v (s₁.setGen gn gs') gs' r hac (inv_moved I rfl (allBare_setGen I.bare hbare) fun _ _ q => q) st hy (setGen_at hsz1) fun a' cp' s' nx hac' I' st' => ?_
    have z := kap a' cp' s' nx hac' I' st'
    cases n with
    | zero => exact z.elim
    | succ m => exact ⟨m, rfl, z⟩
  · intro _
    obtain ⟨a, σ, H, cp, hac, I, q⟩ := hp
    exact done a σ H cp _ hac (inv_moved I rfl (allBare_setGen I.bare rfl) hk) q
/-- all(..) asks on -/
theorem all_gx {R : Result → Shared → Prop} {Stop : Hp → Prop} {End : Unit → Hp → Prop} (hh : A.handled = none) (hroom : A.depth < recursionLimit) (hG : GenObj go gn)
    (yes : ∀ (σ : L2.St) (H : Hp) (cp : List (Addr × Obj)) (s1 : Shared), Inv (gblk X A' s_0 H_0 cenv fp) cp σ H s1 → End () H → R (.ok (.ret (.bool true))) s1)
    (no : ∀ (σ : L2.St) (H : Hp) (cp : List (Addr × Obj)) (s1 : Shared), Inv (gblk X A' s_0 H_0 cenv fp) cp σ H s1 → Stop H → R (.ok (.ret (.bool false))) s1) :
    ∀ (n : Nat) (s : Shared), s.heap.NoLimit → s.heap.get? ga = some go → (∃ gs, s.gens[gn]? = some gs ∧ gs.Goes (model X.prog X.w) A.in1.in1 (RG (gblk X A' s_0 H_0 cenv fp) (fun _ cp => cp = [(ga, go)]) End)
      (YG (gblk X A' s_0 H_0 cenv fp) fp tn (fun _ cp => cp = [(ga, go)]) (fun _ y H Nx => ∃ b : Bool, y = .bl b ∧ if b = true then Nx () H else Stop H)) n (.send .none) (s.setGen gn .running)) →
      codeAny (model X.prog X.w) A (.builtin "all.loop" ⟨[.ref ga], []⟩) R s := by
  intro n
  induction n with
  | zero =>
    rintro s hl e ⟨gs, hgs, hgo⟩
    refine codeAny_builtin F.entry_all_loop ?_
    rw [Around.under_plainId F.plain_all_loop _]
    show wpAny _ A.in1 (pyNext (.ref ga) >>= _) _ _ s
    refine wpAny_bind (next_gx (A := A.in1) hh hroom hl hG e hgs hgo (fun a x σ H i cp Nx v s1 gs' r hac I st hy at_ kap => ?_) fun a σ H cp s1 hac I q => ?_)
    · obtain ⟨b, rfl, hb⟩ := hy
      cases (show v = Value.bool b from r)
      refine wpAny_bind (wpAny_holding (wpAny_truthy_bool ?_))
      refine wpAny_bind (wpAny_letGo ?_)
      cases b with
      | true =>
        obtain ⟨m, hm, _⟩ := kap () cp s1 hb hac I st
        cases hm
      | false =>
        simp only [Bool.false_eq_true, if_false] at hb ⊢
        exact wpAny_bind (wpAny_rule (wpAny_pure (no σ H cp s1 I hb)))
    · exact wpAny_bind (wpAny_rule (wpAny_pure (yes σ H cp s1 I q)))
  | succ n ih =>
    rintro s hl e ⟨gs, hgs, hgo⟩
    refine codeAny_builtin F.entry_all_loop ?_
    rw [Around.under_plainId F.plain_all_loop _]
    show wpAny _ A.in1 (pyNext (.ref ga) >>= _) _ _ s
    refine wpAny_bind (next_gx (A := A.in1) hh hroom hl hG e hgs hgo (fun a x σ H i cp Nx v s1 gs' r hac I st hy at_ kap => ?_) fun a σ H cp s1 hac I q => ?_)
    · obtain ⟨b, rfl, hb⟩ := hy
      cases (show v = Value.bool b from r)
      refine wpAny_bind (wpAny_holding (wpAny_truthy_bool ?_))
      refine wpAny_bind (wpAny_letGo ?_)
      cases b with
      | true =>
        simp only [if_true] at hb ⊢
        subst hac
        refine wpAny_pure ⟨plainId_quiet F.plain_all_loop _, ih s1 I.nolimit (I.pin (ga, go) (List.mem_append_right _ List.mem_cons_self)).1 ⟨gs', at_, ?_⟩⟩
        obtain ⟨m, hm, z⟩ := kap () [(ga, go)] (s1.setGen gn .running) hb rfl (inv_moved I rfl (allBare_setGen I.bare rfl) fun _ _ q => q) st
        cases hm
        exact z
      | false =>
        simp only [Bool.false_eq_true, if_false] at hb ⊢
        exact wpAny_bind (wpAny_rule (wpAny_pure (no σ H cp s1 I hb)))
    · exact wpAny_bind (wpAny_rule (wpAny_pure (yes σ H cp s1 I q)))
end
section
variable {X : Cx}
/-- all(elt for tg in iter ..) -/
def tAllX (P : Addr) (wi : TI) (g : TG) (tt : TT) (te : TE) (vs : List Nat) : TE := fun σ H Q => wi σ H fun J H1 => GxR.TabG H1 P ∧ ∀ H2, GxR.Tabbed P H1 H2 → ∃ W : Nat → Nat → Unit → Hp → Prop, (∃ m, W 0 m () H2) ∧
  tGx J g tt te (wipe σ vs) vs (fun _ H => Q (.bl true) H) (fun _ y H Nx => ∃ b : Bool, y = .bl b ∧ if b = true then Nx () H else Q (.bl false) H) W
theorem pe_allX {c P : Addr} {elt tg iter : Expr} {ifs : List Expr} {p pos gpos : Pos} {scope : Scope} {own : List (Str × Nat)} {wi : TI} {g : TG} {tt : TT} {te : TE} {k : Nat}
    (hr : Room (k + 1) X.A) (hc : X.calm = true) (hN : X.N.Nodup) (hgl : Gl X "all") (hm : X.mg "all" = none) (hb : bootBuiltins "all" = some (.builtin "all")) (TB : GxR.TabB X.base X.mg c P) (hcode : X.env.code = .ref c)
    (hco : scope.isCoroutine = false) (hdot : scope.names.lookup (".0" : Str) = some NameKind.local) (nocell : ∀ y ∈ scope.names, y.2 ≠ .cell) (ok : BlkOk X.N X.env.scope scope own) (hi : PI X tg iter wi)
    (hg : ∀ (A' : Around) (s : Shared) (H : Hp) (C : Addr) (cl : List (Str × Addr)) (code : Value) (fp : List Addr), Room k A' → A'.guards = X.A.guards → PG (gblk X A' s H (genEnv scope cl C code builtinsNs X.env) fp) tg g)
    (ht : ∀ (A' : Around) (s : Shared) (H : Hp) (C : Addr) (cl : List (Str × Addr)) (code : Value) (fp : List Addr), Room k A' → A'.guards = X.A.guards → PTs (gblk X A' s H (genEnv scope cl C code builtinsNs X.env) fp) ifs tt)
    (he : ∀ (A' : Around) (s : Shared) (H : Hp) (C : Addr) (cl : List (Str × Addr)) (code : Value) (fp : List Addr), Room k A' → A'.guards = X.A.guards → PE (gblk X A' s H (genEnv scope cl C code builtinsNs X.env) fp) elt te)
    (hs : ∀ v, genFold iter X.env v = pure v)
    (hst : starEach [.GeneratorExp elt [⟨tg, iter, ifs, 0⟩] scope gpos] X.env = (false, eval (.GeneratorExp elt [⟨tg, iter, ifs, 0⟩] scope gpos) X.env) :: starEach [] X.env := by rfl) :
    PE X (.Call (.Name "all" p) [.GeneratorExp elt [⟨tg, iter, ifs, 0⟩] scope gpos] [] pos) (tAllX P wi g tt te (own.map (·.2))) := by
  refine ⟨fun pins s σ H Q I h => ?_⟩
  refine wpAny_Call_Name_kw (ld_blt I hgl hm hb ?_)
  refine PyProof.Rows.callWith_builtin1 ?_ hst (by rfl)
  rw [hst]
  show wpAny _ _ (spliced ((false, eval (.GeneratorExp elt [⟨tg, iter, ifs, 0⟩] scope gpos) X.env) :: backTo pos (starEach [] X.env))) _ _ s
  refine Calls.spliced_cons (gx_make (A := X.A.in1.in1) hr ⟨rfl, rfl, rfl, rfl, (by show X.A.units + 1 + 1 ≤ _; omega)⟩ hc hN TB hcode hco hdot nocell ok hi hg ht he hs I h fun J H1 H2 u s5 hR hT hG => ?_)
  obtain ⟨A', s_0, H_0, cenv, fp, ga, gn, go, tn, gs, rfl, hGO, hgs, hbare, I5, st5, nf, hlt, keep, back, goes⟩ := hG
  obtain ⟨W, ⟨m, w0⟩, turn⟩ := hR H2 hT
  refine Calls.spliced_nil ?_
  have pin5 := (I5.pin (ga, go) (List.mem_append_right _ List.mem_cons_self)).1
  refine call_function_tree F.kind_all F.plain_all F.entry_all (F.args_all1 _) ?_
  unfold Builtin.«all»
  refine wpAny_bind (m := oneArg "all" _) (wpAny_pure ?_)
  refine wpAny_bind (wpAny_pyIter_gen (hGO.isGen pin5) ?_)
  refine wpAny_pure ⟨plainId_quiet F.plain_all_loop _, all_gx (A' := A') (s_0 := s_0) (H_0 := H_0) (cenv := cenv) (fp := fp) (tn := tn) (go := go) (gn := gn) (Stop := fun H => Q (.bl false) H) (End := fun _ H => Q (.bl true) H) hr.hd hr.depth hGO
    (fun σ' H' cp s1 I1 q => ⟨.bl true, H', back _ _ _ _ I1, rfl, q⟩) (fun σ' H' cp s1 I1 q => ⟨.bl false, H', back _ _ _ _ I1, rfl, q⟩) (m + 1) s5 I5.nolimit pin5 ⟨gs, hgs, ?_⟩⟩
  refine goes Unit _ _ _ W m (m + 1) () [(ga, go)] _ turn w0 (Nat.lt_succ_self _) (fun a cp hac p hp b hb z => ?_) rfl (inv_moved I5 rfl (allBare_setGen I5.bare rfl) fun _ _ q => q) st5
  subst hac
  have e : p = (ga, go) := by simpa using hp
  subst e
  exact absurd (hlt b hb) (by rw [← z]; exact Nat.lt_irrefl _)
end
/-! ### tuple(..) -/
section
variable {X : Cx} {A A' : Around} {s_0 : Shared} {H_0 : Hp} {cenv : Env} {fp : List Addr} {tn : Nat → Heap → Prop} {ga S : Addr} {gn n : Nat} {go : Obj}
/-- the asker's list S holds what is out -/
def ACl (ga : Addr) (go : Obj) (S : Addr) (ys : List V) (cp : List (Addr × Obj)) : Prop := ∃ (acc : Array Value) (c : Nat), cp = [(ga, go), (S, lstObj acc c)] ∧ Vals ys acc.toList
def YdL (ys : List V) (y : V) (H : Hp) (Nx : List V → Hp → Prop) : Prop := ys.length < sizeLine ∧ Nx (ys ++ [y]) H
theorem ext_gx {R : Result → Shared → Prop} {End : List V → Hp → Prop} {res : Value} (hh : A.handled = none) (hroom : A.depth < recursionLimit) (hG : GenObj go gn) (hSa : S ≠ ga) (far : (gblk X A' s_0 H_0 cenv fp).s_0.heap.objs.size ≤ S) (hSc : ∀ x c, cenv.cells.lookup x = some c → c ≠ S)
    (keep : ∀ i h h', tn i h → (∀ b ∈ fp, ∀ o, h.get? b = some o → h'.get? b = some o) → tn i h') (hSf : ∀ b ∈ fp, b ≠ S)
    (yes : ∀ (σ : L2.St) (H : Hp) (ys : List V) (acc : Array Value) (c : Nat) (s1 : Shared), Inv (gblk X A' s_0 H_0 cenv fp) [(ga, go), (S, lstObj acc c)] σ H s1 → Vals ys acc.toList → End ys H → R (.ok (.ret res)) s1) :
    ∀ (n : Nat) (s : Shared), s.heap.NoLimit → s.heap.get? ga = some go → (∃ gs, s.gens[gn]? = some gs ∧ gs.Goes (model X.prog X.w) A.in1.in1 (RG (gblk X A' s_0 H_0 cenv fp) (ACl ga go S) End)
      (YG (gblk X A' s_0 H_0 cenv fp) fp tn (ACl ga go S) YdL) n (.send .none) (s.setGen gn .running)) →
      codeAny (model X.prog X.w) A (.builtin "list.extend.loop" ⟨[.ref S, .ref ga, res], []⟩) R s := by
  intro n
  induction n with
  | zero =>
    rintro s hl e ⟨gs, hgs, hgo⟩
    refine codeAny_builtin F.entry_extend_loop ?_
    rw [Around.under_plainId F.plain_extend_loop _]
    show wpAny _ A.in1 (pyNext (.ref ga) >>= _) _ _ s
    refine wpAny_bind (next_gx (A := A.in1) hh hroom hl hG e hgs hgo (fun ys x σ H i cp Nx v s1 gs' r hac I st hy at_ kap => ?_) fun ys σ H cp s1 hac I q => ?_)
    · obtain ⟨acc, c, rfl, rv⟩ := hac
      have pS := I.pin (S, lstObj acc c) (List.mem_append_right _ (List.mem_cons_of_mem _ List.mem_cons_self))
      have I0 : Inv (gblk X A' s_0 H_0 cenv fp) [(ga, go)] σ H s1 := I.pins_of fun p hp => I.pin p (List.mem_append_right _ (by rw [List.mem_singleton.mp hp]; exact List.mem_cons_self))
      have I1 := I0.turned (t' := s1.toks) (h' := s1.heap.update S (Obj.mapSeq (·.push v))) (it := S) (fun b o hb q => (Heap.get?_update_other _ _ (Ne.symm hb)).trans q) pS.2.1 pS.2.2.1 (.inr far) hSc (fun p hp => by rw [List.mem_singleton.mp (show p ∈ [(ga, go)] by simpa using hp)]; exact Ne.symm hSa)
      have e2 := Heap.get?_update_self (Obj.mapSeq (·.push v)) pS.1 rfl
      obtain ⟨m, hm, _⟩ := kap (ys ++ [x]) [(ga, go), (S, _)] _ hy.2 ⟨acc.push v, _, rfl, by rw [Array.toList_push]; exact rv.append (.cons r .nil)⟩ (I1.pins_of fun p hp => by
        rcases List.mem_cons.mp hp with z | z
        · rw [z]; exact I1.pin (ga, go) (List.mem_append_right _ List.mem_cons_self)
        · rw [List.mem_singleton.mp z]; exact ⟨e2, pS.2.1, pS.2.2.1, pS.2.2.2.1, fun v q => by cases q⟩) (keep _ _ _ st fun b hb o q => (Heap.get?_update_other _ _ (Ne.symm (hSf b hb))).trans q)
      cases hm
    · obtain ⟨acc, c, rfl, rv⟩ := hac
      exact wpAny_pure (yes σ H ys acc c s1 I rv q)
  | succ n ih =>
    rintro s hl e ⟨gs, hgs, hgo⟩
    refine codeAny_builtin F.entry_extend_loop ?_
    rw [Around.under_plainId F.plain_extend_loop _]
    show wpAny _ A.in1 (pyNext (.ref ga) >>= _) _ _ s
    refine wpAny_bind (next_gx (A := A.in1) hh hroom hl hG e hgs hgo (fun ys x σ H i cp Nx v s1 gs' r hac I st hy at_ kap => ?_) fun ys σ H cp s1 hac I q => ?_)
    · obtain ⟨acc, c, rfl, rv⟩ := hac
      have pS := I.pin (S, lstObj acc c) (List.mem_append_right _ (List.mem_cons_of_mem _ List.mem_cons_self))
      have I0 : Inv (gblk X A' s_0 H_0 cenv fp) [(ga, go)] σ H s1 := I.pins_of fun p hp => I.pin p (List.mem_append_right _ (by rw [List.mem_singleton.mp hp]; exact List.mem_cons_self))
      have I1 := I0.turned (t' := s1.toks) (h' := s1.heap.update S (Obj.mapSeq (·.push v))) (it := S) (fun b o hb q => (Heap.get?_update_other _ _ (Ne.symm hb)).trans q) pS.2.1 pS.2.2.1 (.inr far) hSc (fun p hp => by rw [List.mem_singleton.mp (show p ∈ [(ga, go)] by simpa using hp)]; exact Ne.symm hSa)
      have e2 := Heap.get?_update_self (Obj.mapSeq (·.push v)) pS.1 rfl
      have hln := rv.length
      have hlt : acc.size < sizeLine := by
        have := hy.1
        rw [hln] at this
        simpa using this
      have pG := I1.pin (ga, go) (List.mem_append_right _ List.mem_cons_self)
      show wpAny _ A.in1 (updateSeq S (·.push v) >>= _) _ _ _
      refine wpAny_bind ?_
      refine wpAny_updateSeq pS.1 rfl (wpAny_pure ⟨plainId_quiet F.plain_extend_loop _, ih _ I1.nolimit pG.1 ⟨gs', at_, ?_⟩⟩) (Nat.le_of_lt hlt) (by show (acc.push v).size ≤ sizeLine + 1; rw [Array.size_push]; omega)
      obtain ⟨m, hm, z⟩ := kap (ys ++ [x]) [(ga, go), (S, _)] (({ s1 with heap := s1.heap.update S (Obj.mapSeq (·.push v)) } : Shared).setGen gn .running) hy.2 ⟨acc.push v, _, rfl, by rw [Array.toList_push]; exact rv.append (.cons r .nil)⟩ (inv_moved (I1.pins_of fun p hp => by
        rcases List.mem_cons.mp hp with z | z
        · rw [z]; exact pG
        · rw [List.mem_singleton.mp z]; exact ⟨e2, pS.2.1, pS.2.2.1, pS.2.2.2.1, fun v q => by cases q⟩) rfl (allBare_setGen (s := { s1 with heap := s1.heap.update S (Obj.mapSeq (·.push v)) }) I1.bare rfl) fun _ _ q => q) (keep _ _ _ st fun b hb o q => (Heap.get?_update_other _ _ (Ne.symm (hSf b hb))).trans q)
      cases hm
      exact z
    · obtain ⟨acc, c, rfl, rv⟩ := hac
      exact wpAny_pure (yes σ H ys acc c s1 I rv q)
end
section
variable {X : Cx} {pins : List (Addr × Obj)} {σ : L2.St} {s5 : Shared} {J : It} {g : TG} {tt : TT} {te : TE} {vs : List Nat} {H4 : Hp} {u : Value}
/-- all that a generator hands out, in a list of the asker's own -/
theorem collect_gx {A : Around} {E : Value → Shared → Prop} {Q : List Value → Shared → Prop} {End : List V → Hp → Prop} {W : Nat → Nat → List V → Hp → Prop} {m : Nat} (hh : A.handled = none) (hroom : A.depth < recursionLimit) (G : Gx X pins σ A.in1.in1 J g tt te vs H4 u s5)
    (w0 : W 0 m [] H4) (turn : tGx J g tt te (wipe σ vs) vs End YdL W)
    (hQ : ∀ (s' : Shared) (acc : Array Value) (ys : List V) (H' : Hp), Inv X pins σ H' s' → Vals ys acc.toList → End ys H' → Q acc.toList s') : wpAny (model X.prog X.w) A (collect u) Q E s5 := by
  obtain ⟨A', s_0, H_0, cenv, fp, ga, gn, go, tn, gs, rfl, hGO, hgs, hbare, I5, st5, nf, hlt, keep, back, goes⟩ := G
  have pin5 := I5.pin (ga, go) (List.mem_append_right _ List.mem_cons_self)
  have glt : ga < s5.heap.objs.size := Heap.lt_size pin5.1
  have hSI : s5.heap.objs.size ≠ ga := Nat.ne_of_gt glt
  unfold collect
  refine wpAny_bind (wpAny_runValue (codeAny_builtin F.entry_proto_collect ?_))
  rw [Around.under_plainId F.plain_proto_collect _]
  show wpAny _ A.in1 (newList [] >>= fun l => again (.builtin "list.__iadd__" ⟨[l, .ref ga], []⟩)) _ _ s5
  refine wpAny_bind (wpAny_newObj_type ?_)
  refine wpAny_pure ⟨plainId_quiet F.plain_list_iadd _, codeAny_builtin F.entry_list_iadd ?_⟩
  rw [Around.under_plainId F.plain_list_iadd _]
  show wpAny _ A.in1 (Builtin.List.listExtendWith (.ref s5.heap.objs.size) (.ref ga) (.ref s5.heap.objs.size)) _ _ _
  unfold Builtin.List.listExtendWith
  have k1 : ∀ b o, s5.heap.get? b = some o → (s5.heap.push { cls := .type "list", data := .seq ([] : List Value).toArray }).get? b = some o := fun b o e => Heap.get?_push_of_some _ e
  have hT : Shared.TypeIs { s5 with heap := s5.heap.push { cls := .type "list", data := .seq ([] : List Value).toArray } } (.ref ga) "generator" := Heap.IsGen.typeIs (s := { s5 with heap := _ }) (hGO.isGen (k1 _ _ pin5.1))
  refine wpAny_bind (wpAny_typeOf hT ?_)
  have h1 : Builtin.List.listSameRef (.ref s5.heap.objs.size) (.ref ga) = false := by simp [Builtin.List.listSameRef, hSI]
  have h2 : (Value.type "generator" == Value.type "list") = false := by decide
  have h3 : (Value.type "generator" == Value.type "tuple") = false := by decide
  simp only [h1, h2, h3, Bool.or_false, Bool.false_eq_true, if_false]
  refine wpAny_bind (wpAny_pyIter_gen (s := { s5 with heap := _ }) (hGO.isGen (k1 _ _ pin5.1)) ?_)
  refine wpAny_bind (wpAny_holding ?_)
  unfold Builtin.List.listLengthHint
  refine wpAny_bind (wpAny_specialOf hT F.gen_no_len ?_)
  show wpAny _ A.in1 (specialOf (Value.ref ga) (Str.ofString "__length_hint__") >>= _) _ _ _
  refine wpAny_bind (wpAny_specialOf hT F.gen_no_hint ?_)
  refine wpAny_pure ?_
  show wpAny _ A.in1 (rule "list.extend.makes-room" >>= fun _ => Builtin.List.listTouch (.ref s5.heap.objs.size) >>= fun _ =>
    again (.builtin "list.extend.loop" ⟨[.ref s5.heap.objs.size, .ref ga, .ref s5.heap.objs.size], []⟩)) _ _ _
  refine wpAny_bind (wpAny_rule ?_)
  have hS₁ : (s5.heap.push { cls := .type "list", data := .seq ([] : List Value).toArray }).get? s5.heap.objs.size = some { cls := .type "list", data := .seq ([] : List Value).toArray } := Heap.get?_push_size _ rfl
  refine wpAny_bind ?_
  show wpAny _ A.in1 (updateSeq s5.heap.objs.size (·.push .none) >>= fun _ => updateSeq s5.heap.objs.size (·.pop)) _ _ _
  refine wpAny_bind (wpAny_updateSeq hS₁ rfl ?_)
  have hS₂ := Heap.get?_update_self (Obj.mapSeq (·.push Value.none)) hS₁ rfl
  refine wpAny_updateSeq hS₂ rfl ?_
  have hS₃ := Heap.get?_update_self (Obj.mapSeq (·.pop)) hS₂ rfl
  obtain ⟨c3, hS₄⟩ : ∃ c, (((s5.heap.push { cls := .type "list", data := .seq ([] : List Value).toArray }).update s5.heap.objs.size (Obj.mapSeq (·.push Value.none))).update s5.heap.objs.size (Obj.mapSeq (·.pop))).get? s5.heap.objs.size = some (lstObj #[] c) := ⟨_, hS₃⟩
  have k3 : ∀ b o, s5.heap.get? b = some o → (((s5.heap.push { cls := .type "list", data := .seq ([] : List Value).toArray }).update s5.heap.objs.size (Obj.mapSeq (·.push Value.none))).update s5.heap.objs.size (Obj.mapSeq (·.pop))).get? b = some o :=
    fun b o e => (Heap.get?_update_other _ _ (Ne.symm (Nat.ne_of_lt (Heap.lt_size e)))).trans ((Heap.get?_update_other _ _ (Ne.symm (Nat.ne_of_lt (Heap.lt_size e)))).trans (k1 b o e))
  have fS : FpOk (gblk X A' s_0 H_0 cenv fp) [(ga, go)] H4 s5.heap.objs.size := I5.fpOk (Nat.le_refl _) (I5.hok.fresh (Nat.le_refl _))
  have hfS : ∀ b ∈ fp, b ≠ s5.heap.objs.size := fun b hb => Nat.ne_of_lt (Nat.lt_trans (hlt b hb) glt)
  have I6 := inv_moved (s' := { s5 with heap := ((s5.heap.push { cls := .type "list", data := .seq ([] : List Value).toArray }).update s5.heap.objs.size (Obj.mapSeq (·.push Value.none))).update s5.heap.objs.size (Obj.mapSeq (·.pop)) }) I5 rfl I5.bare k3
  refine wpAny_pure ⟨plainId_quiet F.plain_extend_loop _, ext_gx (A := A) (A' := A') (s_0 := s_0) (H_0 := H_0) (cenv := cenv) (fp := fp) (tn := tn) (go := go) (gn := gn) (End := End) hh hroom hGO hSI ?_ fS.2.2.2.2.1 keep hfS
    (fun σ' H' ys acc c s1 I1 rv q => ?_) (m + 1) _ I6.nolimit (k3 _ _ pin5.1) ⟨gs, hgs, ?_⟩⟩
  · exact Nat.le_trans I5.sz (Nat.le_refl _)
  · show wpAny _ A (load s5.heap.objs.size >>= _) _ _ s1
    have pS := (I1.pin (s5.heap.objs.size, lstObj acc c) (List.mem_append_right _ (List.mem_cons_of_mem _ List.mem_cons_self))).1
    refine wpAny_bind (wpAny_load pS ?_)
    exact wpAny_pure (hQ s1 acc ys H' (back _ _ _ _ I1) rv q)
  · refine goes (List V) (ACl ga go s5.heap.objs.size) End YdL W m (m + 1) [] [(ga, go), (s5.heap.objs.size, lstObj #[] c3)] _ turn w0 (Nat.lt_succ_self _) (fun ys cp hac p hp b hb z => ?_) ⟨#[], c3, rfl, .nil⟩
      (inv_moved (I6.pins_of fun p hp => ?_) rfl (allBare_setGen (s := { s5 with heap := _ }) I5.bare rfl) fun _ _ q => q) (keep _ _ _ st5 fun b hb o q => k3 b o q)
    · obtain ⟨acc, c, rfl, _⟩ := hac
      rcases List.mem_cons.mp hp with e | e
      · rw [e] at z
        exact absurd (hlt b hb) (by rw [← z]; exact Nat.lt_irrefl _)
      · rw [List.mem_singleton.mp e] at z
        exact hfS b hb z.symm
    · rcases List.mem_cons.mp hp with e | e
      · rw [e]
        exact I6.pin (ga, go) (List.mem_append_right _ List.mem_cons_self)
      · rw [List.mem_singleton.mp e]
        exact ⟨hS₄, fS.1, fS.2.1, fS.2.2.1, fun v q => by cases q⟩
end
section
variable {X : Cx}
/-- tuple(elt for tg in iter ..) -/
def tTupX (P : Addr) (wi : TI) (g : TG) (tt : TT) (te : TE) (vs : List Nat) : TE := fun σ H Q => wi σ H fun J H1 => GxR.TabG H1 P ∧ ∀ H2, GxR.Tabbed P H1 H2 → ∃ W : Nat → Nat → List V → Hp → Prop, (∃ m, W 0 m [] H2) ∧
  tGx J g tt te (wipe σ vs) vs (fun ys H => ys.length ≤ sizeLine ∧ ∀ p, H p = none → Q (.ref p) (upd H p (.tup ys))) YdL W
theorem pe_tupX {c P : Addr} {elt tg iter : Expr} {ifs : List Expr} {p pos gpos : Pos} {scope : Scope} {own : List (Str × Nat)} {wi : TI} {g : TG} {tt : TT} {te : TE} {k : Nat}
    (hr : Room (k + 1) X.A) (hc : X.calm = true) (hN : X.N.Nodup) (hgl : Gl X "tuple") (hm : X.mg "tuple" = none) (hb : bootBuiltins "tuple" = some (.type "tuple")) (TB : GxR.TabB X.base X.mg c P) (hcode : X.env.code = .ref c)
    (hco : scope.isCoroutine = false) (hdot : scope.names.lookup (".0" : Str) = some NameKind.local) (nocell : ∀ y ∈ scope.names, y.2 ≠ .cell) (ok : BlkOk X.N X.env.scope scope own) (hi : PI X tg iter wi)
    (hg : ∀ (A' : Around) (s : Shared) (H : Hp) (C : Addr) (cl : List (Str × Addr)) (code : Value) (fp : List Addr), Room k A' → A'.guards = X.A.guards → PG (gblk X A' s H (genEnv scope cl C code builtinsNs X.env) fp) tg g)
    (ht : ∀ (A' : Around) (s : Shared) (H : Hp) (C : Addr) (cl : List (Str × Addr)) (code : Value) (fp : List Addr), Room k A' → A'.guards = X.A.guards → PTs (gblk X A' s H (genEnv scope cl C code builtinsNs X.env) fp) ifs tt)
    (he : ∀ (A' : Around) (s : Shared) (H : Hp) (C : Addr) (cl : List (Str × Addr)) (code : Value) (fp : List Addr), Room k A' → A'.guards = X.A.guards → PE (gblk X A' s H (genEnv scope cl C code builtinsNs X.env) fp) elt te)
    (hs : ∀ v, genFold iter X.env v = pure v)
    (hst : starEach [.GeneratorExp elt [⟨tg, iter, ifs, 0⟩] scope gpos] X.env = (false, eval (.GeneratorExp elt [⟨tg, iter, ifs, 0⟩] scope gpos) X.env) :: starEach [] X.env := by rfl) :
    PE X (.Call (.Name "tuple" p) [.GeneratorExp elt [⟨tg, iter, ifs, 0⟩] scope gpos] [] pos) (tTupX P wi g tt te (own.map (·.2))) := by
  refine ⟨fun pins s σ H Q I h => ?_⟩
  refine wpAny_Call_Name_kw (ld_blt I hgl hm hb ?_)
  refine PyProof.Rows.callWith_type1 ?_ hst (by rfl)
  rw [hst]
  show wpAny _ _ (spliced ((false, eval (.GeneratorExp elt [⟨tg, iter, ifs, 0⟩] scope gpos) X.env) :: backTo pos (starEach [] X.env))) _ _ s
  refine Calls.spliced_cons (gx_make (A := X.A.in1.in1.in1.in1) hr ⟨rfl, rfl, rfl, rfl, (by show X.A.units + 1 + 1 + 1 + 1 ≤ _; omega)⟩ hc hN TB hcode hco hdot nocell ok hi hg ht he hs I h fun J H1 H2 u s5 hR hT hG => ?_)
  obtain ⟨W, ⟨m, w0⟩, turn⟩ := hR H2 hT
  refine Calls.spliced_nil ?_
  have ⟨A', s_0, H_0, cenv, fp, ga, gn, go, tn, gs, eu, hGO, hgs, hbare, I5, st5, nf, hlt, keep, back, goes⟩ := hG
  have pin5 := (I5.pin (ga, go) (List.mem_append_right _ List.mem_cons_self)).1
  rw [eu] at hG ⊢
  refine callType_codes (Q₁ := fun obj s₁ => s₁.TypeIs obj "tuple" ∧ EP X pins σ Q obj s₁) F.called_tuple (F.typeCall_tuple_1 _) F.entry_object_init ?_ fun obj s₁ h₁ =>
    ⟨h₁.1, F.args_object_init_2 obj _, object_init_meets F.called_tuple.init.lookup F.called_tuple.made (by decide) X.prog X.w X.A.in1 _ s₁ ⟨h₁.1, rfl, h₁.2⟩⟩
  refine codeAny_of_tree ?_
  show wpAny _ X.A.in1.in1 (do checkBuiltinCall "tuple.__new__" ⟨[.type "tuple", .ref ga], []⟩; again (.builtin "tuple.__new__" ⟨[.type "tuple", .ref ga], []⟩)) _ _ s5
  refine wpAny_bind (wpAny_of_eq (F.newCall_tuple_1 _) (wpAny_pure ⟨plainId_quiet F.plain_tuple_new _, codeAny_builtin F.entry_tuple_new ?_⟩))
  rw [Around.under_plainId F.plain_tuple_new _]
  have hsub := sub_tuple_self
  have hinit := init_tuple_lookup
  have hmh := madeHere_tuple
  have hTI : s5.TypeIs (.ref ga) "generator" := (hGO.isGen pin5).typeIs
  have col : ∀ {Q0 : List Value → Shared → Prop} {E0 : Value → Shared → Prop}, (∀ (s' : Shared) (acc : Array Value), (∃ (ys : List V) (H' : Hp), Inv X pins σ H' s' ∧ Vals ys acc.toList ∧ ys.length ≤ sizeLine ∧ ∀ p, H' p = none → Q (.ref p) (upd H' p (.tup ys))) → Q0 acc.toList s') →
      wpAny (model X.prog X.w) X.A.in1.in1 (collect (.ref ga)) Q0 E0 s5 := fun hq => collect_gx hr.hd hr.depth hG w0 turn (fun s' acc ys H' I' rv q => hq s' acc ⟨ys, H', I', rv, q.1, q.2⟩)
  wp_walk using wpAny_typeOf hTI, col
  rintro s' acc ⟨ys, H', I', rv, small, q⟩
  show wpAny _ _ (Builtin.Tuple.tupleExact acc.toList.toArray >>= fun v => ret v) _ _ _
  unfold Builtin.Tuple.tupleExact
  refine wpAny_bind (wpAny_newObj_type ?_ (by show acc.toList.toArray.size ≤ sizeLine; rw [List.size_toArray, ← rv.length]; exact small))
  refine wpAny_pure ?_
  have free : H' s'.heap.objs.size = none := I'.hok.fresh (Nat.le_refl _)
  refine ⟨⟨_, Heap.get?_push_size _ rfl, rfl⟩, .ref s'.heap.objs.size, upd H' s'.heap.objs.size (.tup ys), I'.laid (t' := s'.toks) (fun b u z => Heap.get?_push_of_some _ z) (Nat.le_refl _) ⟨small, acc.toList, rv, ?_⟩, rfl, q _ free⟩
  exact ⟨_, Heap.get?_push_size _ rfl, rfl, 0, rfl⟩
end
/-! ### a def by its body, its code object known -/
theorem okC {P : Program} {w : World} {K : PySem.W.Frag} {mg : Str → Option Value} {base : Heap} {x qual : Str} {st : Stmt} {f : Addr} {fd : FuncData} {N ps : List Str} {k : Nat} {sp : Sp} (F : Fun K x qual st f fd) (S : FnScope N ps (defScope st)) (len : ∀ vs H Q E, sp vs H Q E → vs.length = ps.length)
    (body : ∀ (A : Around) (outer : List Env) (s : Shared) (H : Hp) (vs : List V) (Q : VK) (E : XK), Room k (A.deeper (envOfC qual (defScope st) s.heap.objs.size f fd.code)) → sp vs H Q E →
      ∃ t, PSs (cxOf CX0 P w K mg base N qual (defScope st) f fd.code A outer s H E).nox (defBody st) t ∧ t { nx := fun _ H' => Q .non H', rt := Q } (start N vs) H) : FnOk P w K mg base CX0 (k + 1) f fd ps sp := by
  obtain ⟨oc, od, kV, doc, pm, an, cdv, ct, osl, rfl, lk, hcd⟩ := F.ex
  refine fn_of lk hcd S len fun A outer s H vs Q E hr hsp => ?_
  obtain ⟨t, h, q⟩ := body A outer s H vs Q E hr hsp
  exact ⟨t, h.nox, q⟩
/-! ### from the head's facts -/
theorem fun_of {K : PySem.W.Frag} {x qual : Str} {st : Stmt} {f : Addr} {fd : FuncData} (F : FunD K x qual (defArgs st) (defBody st) (defScope st) [] [] f fd) : Fun K x qual st f fd := by
  obtain ⟨oc, od, dV, kV, doc, pm, an, cdv, ct, osl, rfl, lk, hcd, hd, _⟩ := F.ex
  rcases hd with ⟨_, rfl⟩ | ⟨z, _⟩
  · exact ⟨⟨oc, od, kV, doc, pm, an, cdv, ct, osl, rfl, lk, hcd⟩, F.kp⟩
  · exact absurd rfl z
theorem code_of {K : PySem.W.Frag} {x qual : Str} {st : Stmt} {p : He.Defn} {fd : FuncData} (F : Fun K x qual st (He.fAd K p) fd) : fd.code = .ref (He.cT K p).1 := by
  obtain ⟨oc, od, kV, doc, pm, an, cdv, ct, osl, rfl, lk, hcd⟩ := F.ex
  obtain ⟨c, rfl⟩ := He.codeIn_ref hcd
  show Value.ref c = Value.ref (He.codeOf K p)
  rw [He.codeOf_eq lk rfl]
theorem tab_of {base : Heap} {mg : Str → Option Value} {c P : Addr} (h : LamX.TabB base mg c P) : GxR.TabB base mg c P := ⟨h.code, h.bm, h.gP⟩
/-! ### heaps whose tables grow -/
def Tabs (H : Hp) (Ps : List Addr) : Prop := ∀ P ∈ Ps, GxR.TabG H P
/-- what is no table stays; tables stay tables -/
def Gr (H H' : Hp) : Prop := (∀ b o, (∀ ps, o ≠ HO.tbl ps) → H b = some o → H' b = some o) ∧ ∀ b, GxR.TabG H b → GxR.TabG H' b
theorem Gr.refl {H : Hp} : Gr H H := ⟨fun _ _ _ e => e, fun _ e => e⟩
theorem Gr.trans {H H1 H2 : Hp} (a : Gr H H1) (b : Gr H1 H2) : Gr H H2 := ⟨fun c o n e => b.1 c o n (a.1 c o n e), fun c e => b.2 c (a.2 c e)⟩
theorem Gr.of {H H' : Hp} (h : ∀ b o, H b = some o → H' b = some o) : Gr H H' := ⟨fun b o _ e => h b o e, fun b ⟨ps, e, t⟩ => ⟨ps, h _ _ e, t⟩⟩
theorem Gr.tab {P : Addr} {H H' : Hp} (t : GxR.TabG H P) (h : GxR.Tabbed P H H') : Gr H H' := by
  obtain ⟨ps, e, _⟩ := t
  refine ⟨fun b o n q => ?_, fun b q => ?_⟩
  · by_cases hb : b = P
    · rw [hb, e] at q
      exact absurd (Option.some.inj q).symm (n ps)
    · rw [h.2 b hb]; exact q
  · by_cases hb : b = P
    · rw [hb]; exact h.1
    · obtain ⟨ps', e', t'⟩ := q
      exact ⟨ps', by rw [h.2 b hb]; exact e', t'⟩
theorem Gr.tup {H H' : Hp} (g : Gr H H') {a : Addr} {xs : List V} (h : H a = some (.tup xs)) : H' a = some (.tup xs) := g.1 a _ (fun _ z => by cases z) h
theorem Gr.lst {H H' : Hp} (g : Gr H H') {a : Addr} {xs : List V} (h : H a = some (.lst xs)) : H' a = some (.lst xs) := g.1 a _ (fun _ z => by cases z) h
theorem Gr.tabs {H H' : Hp} (g : Gr H H') {Ps : List Addr} (h : Tabs H Ps) : Tabs H' Ps := fun P hP => g.2 P (h P hP)
theorem Gr.none {H : Hp} {a : Addr} {o : HO} (n : H a = Option.none) : Gr H (upd H a o) := Gr.of fun b u e => by
  rw [upd_ne (ne_of_none e n)]
  exact e
namespace CwR
/-- behind it a token is out -/
def PEp (X : Cx) (e : Expr) (t : TE) : Prop := ∀ (pins : List (Addr × Obj)) (s : Shared) (σ : L2.St) (H : Hp) (Q : VK), Inv X pins σ H s → t σ H Q → wpAny (model X.prog X.w) X.A (eval e X.env) (fun u s' => 1 ≤ s'.toks ∧ EP X pins σ Q u s') X.xe s
theorem pep_ix {X : Cx} {a : Expr} {i : Int} {j : Nat} {p pos : Pos} {ta : TE} {r : R2} (hr : IxR X r) (ha : PE X a ta) (hs : PlainIx (.Constant (.int i) j p)) : PEp X (.Subscript a (.Constant (.int i) j p) pos) (tOp r ta (tC (.int i))) := by
  intro pins s σ H Q I h
  refine Subscript_ (thn (ha.run pins s σ H _ I h) fun v s1 ⟨x, H1, I1, r1, q1⟩ => wpAny_Constant_int ?_)
  refine wpAny_mono (PySem.wpAny_toks (hr a _ pins { s1 with toks := s1.toks + 1 } σ H1 x (.int i) v (.int i s1.toks) Q (I1.tok _) r1 ⟨_, rfl⟩ q1 (hs _ _))) (fun u s2 q => ⟨?_, q.2⟩) fun _ _ z => z.2
  have h1 : s1.toks + 1 ≤ s2.toks := q.1
  omega
theorem pep_repl {X : Cx} {o : Expr} {to : TE} {y z : Str} {j k : Nat} {c0 c1 apos pos : Pos} (ho : PEp X o to) (hyz : (y == z) = false := by decide)
    (hst : starEach [.Constant (.str y) j c0, .Constant (.str z) k c1] X.env = [(false, eval (.Constant (.str y) j c0) X.env), (false, eval (.Constant (.str z) k c1) X.env)] := by rfl)
    (hbase : attributeBase o "replace" X.env (eval o X.env) = eval o X.env := by rfl) (hline : (apos.endLine == pos.line) = true := by rfl) :
    PEp X (.Call (.Attribute o "replace" apos) [.Constant (.str y) j c0, .Constant (.str z) k c1] [] pos) (CwR.tReplC to y z) := by
  intro pins s σ H Q I h
  refine PySem.Call_method2 hbase hst hline (wpAny_mono (ho pins s σ H _ I h) (fun v s1 q => ?_) fun _ _ z => z)
  obtain ⟨hk, v', H1, I1, r1, x, e1, hb, q⟩ := q
  subst e1
  obtain ⟨tx, e2⟩ := r1
  subst e2
  refine ⟨"str", _, PySem.F.plainAttrs_str, PySem.F.slot_str_replace, PySem.F.type_str_replace, typeIs_str _ _ _, (fun _ e => nomatch e), Calls.callWith_builtin rfl (Calls.evalArgs_plain (Calls.spliced_cons ?_))⟩
  refine Calls.Constant_str (Calls.spliced_cons (Calls.Constant_str (Calls.spliced_nil ?_)))
  refine wpAny_mono (PySem.wpAny_toks (PySem.SC.replace (Q := fun u s' => EP X pins σ Q u s') (by show s1.toks ≠ 0; omega) (by show s1.toks + 1 ≠ 0; omega) (by show s1.toks ≠ s1.toks + 1; omega) hyz hb fun t' k => ⟨.str (Txt.replace x y z), H1, I1.tok k, ⟨t', rfl⟩, q⟩)) (fun u s2 q => ⟨?_, q.2⟩) fun _ _ z => z.2
  have h1 : s1.toks + 1 + 1 ≤ s2.toks := q.1
  omega
theorem pe_replP {X : Cx} {e : Expr} {t : TE} (h : PEp X e t) : PE X e t := ⟨fun pins s σ H Q I q => wpAny_mono (h pins s σ H Q I q) (fun _ _ z => z.2) fun _ _ z => z⟩
end CwR

/-! ### x, *y = a list -/
namespace StarR
section
open PySem.W
variable {X : Cx}
theorem pgs_star {e : Expr} {p : Pos} {es : List Expr} {t : TG} {u : TGs} (h1 : PG X e t) (h2 : PGs X es u) : PGs X (.Starred e p :: es) (gCons t u) := by
  refine ⟨fun pins s σ H vs us Q I r h => ?_⟩
  obtain ⟨v, vr, e1, h⟩ := h
  subst e1
  cases r with
  | cons r rr =>
    show wpAny _ _ (assignInOrder (assign e X.env :: (assignEach es X.env).map (·.2)) _) _ _ _
    refine assignInOrder_cons (thn (h1.run pins s σ H _ _ _ I r h) fun _ s1 ⟨σ1, H1, I1, q1⟩ => ?_)
    exact h2.run pins s1 σ1 H1 _ _ Q I1 rr q1
theorem star_list {prog : Program} {w : World} {A : Around} {E : Value → Shared → Prop} {s : Shared} {l : Addr} {items : Array Value} {Q : List Value → Shared → Prop} (hl : s.heap.IsList l items) (hh : A.handled = none) (hn : 1 ≤ items.size) (hz : items.size ≤ sizeLine)
    (h : ∀ (h' : Heap) (tk : Nat), (∀ b o, s.heap.get? b = some o → h'.get? b = some o) → Q (items.toList.take 1 ++ [.ref h'.objs.size] ++ []) { s with heap := h'.push { cls := .type "list", data := .seq (items.toList.drop 1).toArray }, toks := tk }) : wpAny (model prog w) A (unpackItems (.ref l) 2 (some 1)) Q E s := by
  have hlt : l ≠ s.heap.objs.size := by obtain ⟨o, ho, _⟩ := hl; exact Nat.ne_of_lt (Heap.lt_size ho)
  unfold unpackItems
  refine wpAny_bind ?_
  unfold notIterableAtAll
  refine wpAny_bind (wpAny_specialOf hl.typeIs slot_list_iter.lookup ?_)
  refine wpAny_pure ?_
  simp only [Bool.false_eq_true, if_false]
  refine wpAny_bind (wpAny_holding (wpAny_pyIter_list hl ?_))
  refine wpAny_bind (wpAny_holding (kun_draw hlt 1 0 _ _ ⟨_, Heap.get?_push_size _ rfl, rfl, rfl⟩ (hl.push _) (by omega) fun h₁ hit₁ hs₁ => ?_))
  have hl₁ : h₁.IsList l items := (hl.push _).extBut hs₁.extBut hlt
  rw [Nat.zero_add] at hit₁
  have hit₁' := hit₁
  obtain ⟨oi, hoi, _⟩ := hit₁'
  have hl₁' := hl₁
  obtain ⟨ol, hol, _⟩ := hl₁'
  rw [List.drop_zero]
  have hfl : (items.toList.take 1).length = 1 := by rw [List.length_take, Array.length_toList]; omega
  rw [if_neg (show ¬ ((items.toList.take 1).length < 1) by rw [hfl]; omega)]
  refine wpAny_bind (wpAny_holding (kun_collect (s := { s with heap := h₁ }) (T := "list_iterator") (.inr (.inr (.inl rfl))) (Walks.list (A := A.in1) hh s.heap.objs.size l hlt items) (fun j u st => st.1.typeIs) (k := 1) (by omega) ⟨hit₁, hl₁⟩ (Heap.lt_size hoi) (Heap.lt_size hol) (fun h₂ tk hk => ?_) hz))
  have hrl : (items.toList.drop 1).length = items.size - 1 := by rw [List.length_drop, Array.length_toList]
  show wpAny _ _ (if (items.toList.drop 1).length < 0 then _ else _) _ _ _
  rw [if_neg (by omega)]
  show wpAny _ _ (newList ((items.toList.drop 1).take ((items.toList.drop 1).length - 0)) >>= fun d => pure (items.toList.take 1 ++ [d] ++ (items.toList.drop 1).drop ((items.toList.drop 1).length - 0))) _ _ _
  rw [Nat.sub_zero, List.take_length, List.drop_length]
  have he : ∀ b o, s.heap.get? b = some o → h₂.get? b = some o := fun b o e => by
    have hb : b ≠ s.heap.objs.size := Nat.ne_of_lt (Heap.lt_size e)
    exact hk b o hb (hs₁.extBut b o hb (Heap.get?_push_of_some _ e))
  exact wpAny_bind (wpAny_newList (wpAny_pure (h h₂ tk he)) (by rw [hrl]; omega))
/-- x, *y = a list that has an x -/
def gStar (K : PySem.W.Frag) (t : TGs) : TG := fun v σ H Q => ∃ a x xs, v = .ref a ∧ SqL K H a (x :: xs) ∧ ∀ D, H D = none → t [x, .ref D] σ (upd H D (.lst xs)) Q
theorem pg_star {es : List Expr} {k : Nat} {pos : Pos} {t : TGs} (hc : X.calm = true) (h : PGs X es t)
    (hn : (assignEach es X.env).length = 2 := by rfl) (hst : (assignEach es X.env).findIdx? (·.1) = some 1 := by rfl) : PG X (.Tuple es k pos) (gStar X.K t) := by
  refine ⟨fun pins s σ H v u Q I r hw => ?_⟩
  obtain ⟨a, x, xs, e1, hq, hw⟩ := hw
  subst e1
  cases r
  obtain ⟨its, rv, pl, hz⟩ := I.list hq
  have hl' : s.heap.IsList a its.toArray := by
    obtain ⟨o, m, e, c, d, q⟩ := pl
    exact ⟨o, e, c, m, q⟩
  cases rv with
  | cons r1 rr =>
    rename_i y ys
    have lz : ys.length + 1 ≤ sizeLine := by
      have := rr.length
      rw [← this]
      exact hz
    rw [PyProof.Rows.assign_Tuple]
    refine wpAny_bind (wpAny_standAt ?_)
    unfold unpack
    rw [hn, hst]
    refine wpAny_bind (wpAny_holding (star_list hl' (I.ok.hd hc) (by simp) (by simpa using lz) fun h' tk hx => ?_))
    have I1 : Inv X pins σ H { s with heap := h', toks := tk } := I.kept hx
    have hf : H h'.objs.size = none := I1.hok.fresh (Nat.le_refl _)
    have I2 : Inv X pins σ (upd H h'.objs.size (.lst xs)) { s with heap := h'.push { cls := .type "list", data := .seq ys.toArray }, toks := tk } :=
      I1.laid (t' := tk) (fun b u e => Heap.get?_push_of_some _ e) (Nat.le_refl _) ⟨by have : xs.length + 1 ≤ sizeLine := hz; omega, ys, 0, rr, Heap.get?_push_size _ rfl⟩
    have e2 : ((y :: ys).toArray.toList.take 1 ++ [Value.ref h'.objs.size] ++ []) = [y, .ref h'.objs.size] := by simp
    have e3 : ((y :: ys).toArray.toList.drop 1).toArray = ys.toArray := by simp
    rw [e2, e3]
    exact h.run pins _ σ _ _ _ Q I2 (.cons r1 (.cons (show L2.RelV (V.ref h'.objs.size) (Value.ref h'.objs.size) from rfl) .nil)) (hw _ hf)
end
end StarR

/-! ### list(reversed(a list)) -/
namespace RevL
open RT PySem.Calls
section
variable {prog : Program} {w : World} {A : Around} {E : Value → Shared → Prop} {s : Shared}
theorem grows_rev {it l S : Addr} {c0 : Nat} {xs : Array Value} {R : Result → Shared → Prop} {res : Value} (quiet : A.handled = none) (rev : s.heap.IsRevIter it l ((xs.size : Int) - 1)) (src : s.heap.IsList l xs) (apart : l ≠ it) (few : xs.size ≤ sizeLine)
    (tgt : s.heap.get? S = some { cls := .type "list", data := .seq #[] c0 }) (n1 : S ≠ it) (n2 : S ≠ l)
    (fin : ∀ (hp : Heap) (tk : Nat) (acc : Array Value) (c : Nat), (∀ b o, b ≠ it → b ≠ S → s.heap.get? b = some o → hp.get? b = some o) → hp.get? S = some { cls := .type "list", dict := none, data := .seq acc c, slots := #[] } → ItemsOf (fun i v => xs[xs.size - 1 - i]? = some v) acc xs.size → R (.ok (.ret res)) { s with heap := hp, toks := tk }) :
    wpAny (model prog w) A.in1 (Builtin.List.listExtendWith (.ref S) (.ref it) res)
      (fun f st => match f with | .done g => R (.ok g) st | .again c => c.quiet = true ∧ codeAny (model prog w) A c R st) (fun e st => R (.error e) st) s := by
  have walk := (Walks.listRev (prog := prog) (w := w) (A := A.in1) quiet it l apart xs).toS
  have notIn : S ∉ [it, l] := by
    intro h
    rcases List.mem_cons.mp h with h | h
    · exact n1 h
    · exact n2 (List.mem_singleton.mp h)
  have ty : s.TypeIs (.ref it) "list_reverseiterator" := rev.typeIs
  have unlike : Builtin.List.listSameRef (.ref S) (.ref it) = false := by simp [Builtin.List.listSameRef, n1]
  unfold Builtin.List.listExtendWith
  refine wpAny_bind (wpAny_typeOf ty (?_))
  rw [if_neg (show ¬ _ by rw [unlike]; decide)]
  refine wpAny_bind (wpAny_pyIter_revIter rev (wpAny_bind (wpAny_holding ?_)))
  unfold Builtin.List.listLengthHint
  refine wpAny_bind (wpAny_specialOf ty nolen_lri (?_))
  show wpAny _ _ (specialOf (Value.ref it) (Str.ofString "__length_hint__") >>= _) _ _ _
  refine wpAny_bind (wpAny_specialOf ty hint_lri (?_))
  generalize name : ("list_reverseiterator.__length_hint__" : String) = nm
  wp_delta
  rw [show splitId nm = some ("list_reverseiterator", "__length_hint__") by rw [← name]; decide +kernel]
  rw [← name]
  refine wpAny_bind (wpAny_isInstance (b := true) ty (by rw [isSubtype_type]; kernel_rfl) (wpAny_pure ?_))
  rw [if_neg (show ¬ _ by decide)]
  have first : ((xs.size : Nat) : Int) - 1 - ((0 : Nat) : Int) = (xs.size : Int) - 1 := by omega
  refine wpAny_pure ⟨plainId_quiet F.plain_extend_loop _, codeAny_extend_loopS walk few _ notIn _ xs.size 0 _ _ _ rfl (Nat.zero_le _) ⟨Nat.zero_le _, by rw [first]; exact rev, src⟩ tgt (ItemsOf.nil _) fun st acc c moved hS got => ?_⟩
  rw [Moved.eq_with moved]
  refine fin st.heap st.toks acc c (fun b o b1 b2 e => moved.heap b o (fun h => ?_) e) hS got
  rcases List.mem_cons.mp h with h | h
  · exact b2 h
  · exact b1 (List.mem_singleton.mp h)
theorem call_list_rev {it l : Addr} {xs : Array Value} {Q : Value → Shared → Prop} (quiet : A.handled = none) (rev : s.heap.IsRevIter it l ((xs.size : Int) - 1)) (src : s.heap.IsList l xs) (apart : l ≠ it) (few : xs.size ≤ sizeLine)
    (fin : ∀ (hp : Heap) (tk : Nat) (acc : Array Value) (c : Nat), (∀ b o, b ≠ it → s.heap.get? b = some o → hp.get? b = some o) → hp.get? s.heap.objs.size = some { cls := .type "list", dict := none, data := .seq acc c, slots := #[] } → ItemsOf (fun i v => xs[xs.size - 1 - i]? = some v) acc xs.size → Q (.ref s.heap.objs.size) { s with heap := hp, toks := tk }) :
    wpAny (model prog w) A (call (.type "list") [.ref it]) Q E s := by
  have newAt : ∀ {b : Addr} {o : Obj}, s.heap.get? b = some o → b ≠ s.heap.objs.size := fun e => Nat.ne_of_lt (Heap.lt_size e)
  have itNew : s.heap.objs.size ≠ it := by
    obtain ⟨o, e, _⟩ := id rev
    exact (newAt e).symm
  have lNew : s.heap.objs.size ≠ l := by
    obtain ⟨o, e, _⟩ := id src
    exact (newAt e).symm
  refine callType_codes (Q₁ := fun v st => v = .ref s.heap.objs.size ∧ st = { s with heap := s.heap.push { cls := .type "list", data := .seq #[] } }) F.called_list (F.typeCall_list_1 _) F.entry_list_init (code_list_new _ ⟨rfl, rfl⟩) ?_
  rintro v st ⟨rfl, rfl⟩
  have made : (s.heap.push { cls := .type "list", data := .seq #[] }).get? s.heap.objs.size = some { cls := .type "list", data := .seq #[] } := Heap.get?_push_size _ rfl
  refine ⟨⟨_, made, rfl⟩, F.args_list_init_2 _ _, ?_⟩
  show wpAny _ A.in1.in1 (do let was ← Builtin.List.listItems (.ref s.heap.objs.size); Builtin.List.listUpdate (.ref s.heap.objs.size) (fun _ => #[]); letGo was.toList.reverse; Builtin.List.listExtendWith (.ref s.heap.objs.size) (.ref it) .none) _ _ _
  refine wpAny_bind ?_
  unfold Builtin.List.listItems
  refine wpAny_bind (wpAny_seqItems made rfl (wpAny_pure (wpAny_bind ?_)))
  show wpAny _ _ (updateSeq s.heap.objs.size (fun _ => (#[] : Array Value))) _ _ _
  refine wpAny_updateSeq made rfl (wpAny_bind (wpAny_letGo ?_))
  have emptied := Heap.get?_update_self (Obj.mapSeq (fun _ => (#[] : Array Value))) made rfl
  have stays : ∀ b o, s.heap.get? b = some o → ((s.heap.push { cls := .type "list", data := .seq #[] }).update s.heap.objs.size (Obj.mapSeq (fun _ => (#[] : Array Value)))).get? b = some o := fun b o e =>
    (Heap.get?_update_other _ _ (newAt e).symm).trans (Heap.get?_push_of_some _ e)
  refine grows_rev (A := A.in1) quiet (rev.at fun o e => stays _ _ e) (by obtain ⟨o, e, r⟩ := id src; exact ⟨o, stays _ _ e, r⟩) apart few emptied itNew lNew fun hp tk acc c keep hS got => ?_
  exact ⟨rfl, fin hp tk acc c (fun b o b1 e => keep b o b1 (newAt e) (stays b o e)) hS got⟩
def tLstRev (K : PySem.W.Frag) (te : TE) : TE := fun σ H Q => te σ H fun v H1 => ∃ (a : Addr) (xs : List V), v = .ref a ∧ SqL K H1 a xs ∧ ∀ q, H1 q = none → Q (.ref q) (upd H1 q (.lst xs.reverse))
theorem pe_lstRev {X : Cx} {e : Expr} {te : TE} {p1 p2 pos pos2 : Pos} (calm : X.calm = true) (g1 : Gl X "list") (m1 : X.mg "list" = none) (g2 : Gl X "reversed") (m2 : X.mg "reversed" = none) (he : PE X e te)
    (st1 : starEach [e] X.env = (false, eval e X.env) :: starEach [] X.env := by rfl)
    (st2 : starEach [.Call (.Name "reversed" p2) [e] [] pos2] X.env = (false, eval (.Call (.Name "reversed" p2) [e] [] pos2) X.env) :: starEach [] X.env := by rfl) :
    PE X (.Call (.Name "list" p1) [.Call (.Name "reversed" p2) [e] [] pos2] [] pos) (tLstRev X.K te) := by
  refine ⟨fun pins s σ H Q I told => ?_⟩
  refine Call_ (ld_blt I g1 m1 boot_list (PyProof.Rows.callWith_type1 (args_cons (Call_ (ld_blt I g2 m2 PyProof.Rows.boot_reversed (PyProof.Rows.callWith_type1 (args_cons (thn (he.run pins s σ H _ I told) ?_) st1) st1 rfl))) st2) st2 rfl))
  rintro u s1 ⟨v, H1, I1, r1, a, xs, rfl, list, q⟩
  refine args_nil ?_
  cases (show u = Value.ref a from r1)
  obtain ⟨us, rv, plain, few⟩ := I1.list list
  have src := plain.isList
  refine call_reversed_list src (args_nil ?_)
  have apart : a ≠ s1.heap.objs.size := by
    obtain ⟨o, e, _⟩ := id src
    exact Nat.ne_of_lt (Heap.lt_size e)
  have few2 : us.toArray.size ≤ sizeLine := by
    rw [List.size_toArray, ← rv.length]
    exact few
  refine call_list_rev (s := { s1 with heap := s1.heap.push (revObj a ((us.toArray.size : Int) - 1)) }) (I1.ok.hd calm) ⟨_, Heap.get?_push_size _ rfl, rfl, rfl⟩ (src.push _) apart few2 fun hp tk acc c keep hS got => ?_
  have size2 : s1.heap.objs.size ≤ (s1.heap.push (revObj a ((us.toArray.size : Int) - 1))).objs.size := by
    rw [Heap.size_push]
    exact Nat.le_succ _
  refine ⟨.ref _, upd H1 _ (.lst xs.reverse), I1.laid (t' := tk) (fun b o e => keep b o (Nat.ne_of_lt (Heap.lt_size e)) (Heap.get?_push_of_some _ e)) size2 ⟨by rw [List.length_reverse]; exact few, acc.toList, c, vals_rev rv got, ?_⟩, rfl, q _ (I1.hok.fresh size2)⟩
  rw [Array.toArray_toList]
  exact hS
end
end RevL

/-! ### heaps -/
theorem same_upd {H : Hp} {p : Addr} {o : HO} (h : H p = none) : Same H (upd H p o) := fun b x e => by
  rw [upd_ne (ne_of_none e h)]
  exact e
def Fr (d l : Addr) (H H' : Hp) : Prop := ∀ b o, b ≠ d → b ≠ l → H b = some o → H' b = some o
theorem Fr.trans {d l : Addr} {H H1 H2 : Hp} (a : Fr d l H H1) (b : Fr d l H1 H2) : Fr d l H H2 := fun c o h1 h2 h => b c o h1 h2 (a c o h1 h2 h)
theorem Fr.refl {d l : Addr} {H : Hp} : Fr d l H H := fun _ _ _ _ h => h
theorem Fr.new {d l p : Addr} {H : Hp} {o : HO} (h : H p = none) : Fr d l H (upd H p o) := fun b x _ _ e => same_upd h b x e
theorem Fr.of {d l : Addr} {H H' : Hp} (h : Same H H') : Fr d l H H' := fun b x _ _ e => h b x e
theorem Fr.d {d l : Addr} {H : Hp} {o : HO} : Fr d l H (upd H d o) := fun b x h1 _ e => by rw [upd_ne h1]; exact e
theorem Fr.l {d l : Addr} {H : Hp} {o : HO} : Fr d l H (upd H l o) := fun b x _ h2 e => by rw [upd_ne h2]; exact e
def Deck (H : Hp) (d l : Addr) : Prop := d ≠ l ∧ ∃ (cs : List Int) (z : Int), H d = some (.lst [.ref l, .int z]) ∧ H l = some (.lst (cs.map V.int)) ∧ cs.length ≤ 63 ∧ 0 ≤ z ∧ z < 4294967296
theorem Deck.same {H H' : Hp} {d l : Addr} (D : Deck H d l) (s : Same H H') : Deck H' d l := by
  obtain ⟨ne, cs, z, hd, hl, r⟩ := D
  exact ⟨ne, cs, z, s _ _ hd, s _ _ hl, r⟩
theorem Deck.new {H : Hp} {d l p : Addr} {o : HO} (D : Deck H d l) (h : H p = none) : Deck (upd H p o) d l := D.same (same_upd h)
theorem Deck.ne_new {H : Hp} {d l p : Addr} (D : Deck H d l) (h : H p = none) : p ≠ d ∧ p ≠ l := by
  obtain ⟨ne, cs, z, hd, hl, r⟩ := D
  exact ⟨(ne_of_none hd h).symm, (ne_of_none hl h).symm⟩
theorem p29 : (0 : Int) < 2147483629 := by decide
theorem p47 : (0 : Int) < 2147483647 := by decide
theorem p87 : (0 : Int) < 2147483587 := by decide
theorem sl1 : 1 ≤ sizeLine := by decide
theorem sl2 : 2 ≤ sizeLine := by decide
theorem sl3 : 3 ≤ sizeLine := by decide
theorem sl4 : 4 ≤ sizeLine := by decide
theorem seqIx0 {α : Type} (x : α) (xs : List α) : seqIndex? 0 (x :: xs).length = some 0 := by
  refine (ixN_seq (n := (x :: xs).length) (i := 0) (j := 0) ?_).1
  unfold ixN
  rw [if_pos (by decide), if_pos (by rw [List.length_cons]; omega)]
  rfl
theorem dpInts {K : PySem.W.Frag} {H : Hp} : ∀ cs : List Int, DpAll K H (cs.map V.int) (cs.map PyData.int)
  | [] => .nil
  | c :: r => .cons (.int c) (dpInts r)
theorem shInts (ns : List Int) : SeqAt.shaped (.list (ns.map PyData.int)) = true := by
  unfold SeqAt.shaped
  rw [Bool.and_eq_true]
  refine ⟨?_, ?_⟩
  · simp only [PyData.canLay0, canLayAll_ints]
  · simp only [PyData.depth, depthAll_ints]
    decide
theorem at_pick {xs : List V} {j : Int} (h0 : 0 ≤ j) (h1 : j < xs.length) : ∃ x, atI xs j = some x ∧ x ∈ xs := by
  obtain ⟨k, rfl⟩ : ∃ k : Nat, j = (k : Int) := ⟨j.toNat, (Int.toNat_of_nonneg h0).symm⟩
  have hk : k < xs.length := by omega
  exact ⟨xs[k], atI_nat (List.getElem?_eq_getElem hk), List.getElem_mem hk⟩
theorem units65 {k : Nat} {A : Around} (r : Room k A) : A.units + 65 < cLine := by have := r.un; omega
def rLenK (K : PySem.W.Frag) : List V → Hp → VK → Prop := fun xs H Q => ∃ p ys, xs = [.ref p] ∧ (SqL K H p ys ∨ SqT K H p ys) ∧ Q (.int ys.length) H
def rTupK (K : PySem.W.Frag) : List V → Hp → VK → Prop := fun xs H Q => ∃ p ys, xs = [.ref p] ∧ ((SqL K H p ys ∧ ∀ l, H l = none → Q (.ref l) (upd H l (.tup ys))) ∨ (SqT K H p ys ∧ Q (.ref p) H))
def rLstK (K : PySem.W.Frag) : List V → Hp → VK → Prop := fun xs H Q => ∃ p ys, xs = [.ref p] ∧ (SqL K H p ys ∨ SqT K H p ys) ∧ ∀ l, H l = none → Q (.ref l) (upd H l (.lst ys))
/-- joining ways behind a test, behind an expression -/
def tCutT (t : TT) : TT := fun σ H Q => ∃ Mid : Bool → Hp → Prop, t σ H Mid ∧ ∀ b H1, Mid b H1 → Q b H1
theorem pt_cut {X : Cx} {e : Expr} {t : TT} (h : PT X e t) : PT X e (tCutT t) := ⟨fun pins s σ H Q I hw => by
  obtain ⟨Mid, h1, q⟩ := hw
  exact thn (h.run pins s σ H _ I h1) fun c s1 ⟨H1, I1, m⟩ => ⟨H1, I1, q _ _ m⟩⟩
def tCutE (t : TE) : TE := fun σ H Q => ∃ Mid : VK, t σ H Mid ∧ ∀ v H1, Mid v H1 → Q v H1
theorem pe_cut {X : Cx} {e : Expr} {t : TE} (h : PE X e t) : PE X e (tCutE t) := ⟨fun pins s σ H Q I hw => by
  obtain ⟨Mid, h1, q⟩ := hw
  exact thn (h.run pins s σ H _ I h1) fun u s1 ⟨v, H1, I1, r, m⟩ => ⟨v, H1, I1, r, q _ _ m⟩⟩

/-! ### defs called where nothing is being shown (so that repr tells what stands there) -/
structure FnG (P : Program) (w : World) (K : PySem.W.Frag) (mg : Str → Option Value) (bs : Heap) (CX : CXT) (k : Nat) (f : Addr) (fd : FuncData) (ps : List Str) (sp : Sp) : Prop where
  many : ∀ vs H Q E, sp vs H Q E → vs.length = ps.length
  go : ∀ A : Around, A.guards = some [] → Room k A → ∀ (fr : List Env) (s : Shared) (H : Hp) (ar : Args) (us : List Value) (vs : List V) (Q : VK) (E : XK), Env0 P w K mg bs A fr s H → BindsTo s fd ar (ps.zip us) → Vals vs us → sp vs H Q E → codeAny (model P w) A (.call (.ref f) ar) (CR CX fr P w H s Q E) s
theorem FnG.of {P : Program} {w : World} {K : PySem.W.Frag} {mg : Str → Option Value} {bs : Heap} {CX : CXT} {k : Nat} {f : Addr} {fd : FuncData} {ps : List Str} {sp : Sp} (F : FnOk P w K mg bs CX k f fd ps sp) : FnG P w K mg bs CX k f fd ps sp :=
  ⟨F.len, fun A _ room fr s H ar us vs Q E e0 b r h => F.run A fr s H ar us vs Q E room e0 b r h⟩
theorem okG {CX : CXT} {P : Program} {w : World} {K : PySem.W.Frag} {mg : Str → Option Value} {bs : Heap} {x qual : Str} {st : Stmt} {f : Addr} {fd : FuncData} {N ps : List Str} {k : Nat} {sp : Sp} (F : Fun K x qual st f fd) (S : FnScope N ps (defScope st))
    (many : ∀ vs H Q E, sp vs H Q E → vs.length = ps.length)
    (body : ∀ (cdv : Value) (A : Around) (fr : List Env) (s : Shared) (H : Hp) (vs : List V) (Q : VK) (E : XK), A.guards = some [] → Room k (A.deeper (envOfC qual (defScope st) s.heap.objs.size f cdv)) → sp vs H Q E →
      ∃ t, PSs (cxOf CX P w K mg bs N qual (defScope st) f cdv A fr s H E) (defBody st) t ∧ t ⟨fun _ H' => Q .non H', Q, fun _ _ => False, fun _ _ => False⟩ (start N vs) H) : FnG P w K mg bs CX (k + 1) f fd ps sp := by
  obtain ⟨oc, od, kV, doc, pm, an, cdv, ct, osl, rfl, lk, code⟩ := F.ex
  refine ⟨many, fun A nothing room fr s H ar us vs Q E e0 bound rel told => ?_⟩
  have stays : ∀ b o, bs.get? b = some o → s.heap.get? b = some o := fun b o z => (e0.bs b o z).1
  have inK : K.In s.heap := e0.mod.kin.keeps stays
  have places : ∀ y ∈ ps.zip us, (defScope st).names.lookup y.1 = some .local ∨ ((defScope st).names.lookup y.1 = some .cell ∧ ((cellsFrom (s.heap.objs.size + 1) (defScope st).names []).lookup y.1).isSome = true) := by
    rintro ⟨n, v⟩ hy
    exact (S.par n (List.of_mem_zip hy).1).imp id fun c => ⟨c, PySem.W.cellsFrom_some _ _ _ (Or.inl c)⟩
  refine codeAny_call_function room.depth (inK _ _ lk) rfl S.co S.gen rfl (PySem.W.codeRec_of inK code) (bound _ _ _ _
    (wpAny_newFunctionEnv_cells S.kind places fun env he s1 made => ?_))
  subst he
  obtain ⟨t, runs, holds⟩ := body cdv A fr s H vs Q E nothing (room.deeper _) told
  refine ⟨(e0.mod.nolimit.keeps stays).keeps made.toInCall.keep, codeAny_func (wpAny_mono (runs.run [] s1 (start N vs) H _ (inv_start S room.hd e0 (many _ _ _ _ told) rel made) holds) (fun fl s2 z => ?_) fun _ _ z => z)⟩
  match fl, z with
  | .ret _, ⟨v, _, H', J, rv, q⟩ => exact ⟨v, H', J.os, J.bare, J.base, J.hok, rv, q⟩
  | .next, ⟨_, H', J, q⟩ => exact ⟨V.non, H', J.os, J.bare, J.base, J.hok, rfl, q⟩
  | .brk, ⟨_, _, _, q⟩ => exact q.elim
  | .cont, ⟨_, _, _, q⟩ => exact q.elim
theorem okG0 {P : Program} {w : World} {K : PySem.W.Frag} {mg : Str → Option Value} {bs : Heap} {x qual : Str} {st : Stmt} {f : Addr} {fd : FuncData} {N ps : List Str} {k : Nat} {sp : Sp} (F : Fun K x qual st f fd) (S : FnScope N ps (defScope st))
    (many : ∀ vs H Q E, sp vs H Q E → vs.length = ps.length)
    (body : ∀ (cdv : Value) (A : Around) (fr : List Env) (s : Shared) (H : Hp) (vs : List V) (Q : VK) (E : XK), A.guards = some [] → Room k (A.deeper (envOfC qual (defScope st) s.heap.objs.size f cdv)) → sp vs H Q E →
      ∃ t, PSs (cxOf CX0 P w K mg bs N qual (defScope st) f cdv A fr s H E).nox (defBody st) t ∧ t ⟨fun _ H' => Q .non H', Q, fun _ _ => False, fun _ _ => False⟩ (start N vs) H) : FnG P w K mg bs CX0 (k + 1) f fd ps sp :=
  okG F S many fun cdv A fr s H vs Q E g r h => by
    obtain ⟨t, p, q⟩ := body cdv A fr s H vs Q E g r h
    exact ⟨t, p.nox, q⟩
section
variable {X : Cx} {CX : CXT} {k : Nat} {f : Addr} {fd : FuncData} {ps : List Str} {sp : Sp} {ds : List Value} {dvs : List V} {E : XK}
theorem runG {pins : List (Addr × Obj)} {σ : L2.St} {H : Hp} {s : Shared} {Q : VK} {us : List Value} {vs : List V} (F : FnG X.prog X.w X.K X.mg X.base CX k f fd ps sp) (nothing : X.A.guards = some []) (room : Room k X.A) (hb : Binds X.K fd ps ds)
    (hd : Vals dvs ds) (out : Passes CX X E) (I : Inv X pins σ H s) (r : Vals vs us) (told : sp (vs ++ dvs) H Q E) : wpAny (model X.prog X.w) X.A (call (.ref f) us) (EP X pins σ Q) X.xe s := by
  have rel : Vals (vs ++ dvs) (us ++ ds) := r.append hd
  have size : (us ++ ds).length = ps.length := rel.length ▸ F.many _ _ _ _ told
  refine wpAny_call (codeAny_mono (F.go X.A nothing room X.stack s H _ _ _ Q E I.env0 (hb s us I.kIn size) rel told) fun res s2 z => ?_)
  match res, z with
  | .error e, z => exact out pins σ H s e s2 I z
  | .ok (.ret u), z => exact I.after z
  | .ok .next, z => exact z.elim
  | .ok .brk, z => exact z.elim
  | .ok .cont, z => exact z.elim
theorem pe_callG {x : Str} {p pos : Pos} {e : Expr} {es : List Expr} {t : TA} (F : FnG X.prog X.w X.K X.mg X.base CX k f fd ps sp) (nothing : X.A.guards = some []) (room : Room k X.A) (hg : Gl X x) (hm : X.mg x = some (.ref f)) (kp : PySem.W.keepIn X.K (.ref f) = true)
    (hb : Binds X.K fd ps ds) (hd : Vals dvs ds) (out : Passes CX X E) (ha : PA X (e :: es) t) (nd : (x == ("__debug__" : Str)) = false := by decide) (he : starEach (e :: es) X.env = (false, eval e X.env) :: starEach es X.env := by rfl)
    (hpl : (backTo pos (starEach es X.env)).any (·.1) = false := by rfl) : PE X (.Call (.Name x p) (e :: es) [] pos) (tCall sp dvs E t) := by
  refine ⟨fun pins s σ H Q I told => wpAny_Call_Name_kw (ld_glob I hg hm ?_ nd)⟩
  refine PySem.W.callWith_K (h₀ := X.base) I.ok.mod.kin kp (thn (ha.run pos pins s σ H _ I told) ?_) he hpl
  rintro us s1 ⟨vs, H1, J, r, q⟩
  exact ⟨J.kIn, runG F nothing room hb hd out J r q⟩
end
/-! ### what is shown by repr: plain data, whose lists and dicts were made by the law -/
def kD : Key → PyData
  | .inl i => .int i
  | .inr x => .str x
mutual
inductive Sh (H : Hp) : V → PyData → Prop
  | non : Sh H .non .none
  | bl (b : Bool) : Sh H (.bl b) (.bool b)
  | int (i : Int) : Sh H (.int i) (.int i)
  | str (x : Str) : Sh H (.str x) (.str x)
  | lst {a : Addr} {xs : List V} {ds : List PyData} : H a = some (.lst xs) → a ≠ sysModules → ShAll H xs ds → Sh H (.ref a) (.list ds)
  | tup {a : Addr} {xs : List V} {ds : List PyData} : H a = some (.tup xs) → ShAll H xs ds → Sh H (.ref a) (.tuple ds)
  | dic {a : Addr} {kvs : List (Key × V)} {ds : List PyData} : H a = some (.dK kvs) → ShAll H (kvs.map (·.2)) ds → Sh H (.ref a) (.dict ((kvs.map fun kv => kD kv.1).zip ds))
inductive ShAll (H : Hp) : List V → List PyData → Prop
  | nil : ShAll H [] []
  | cons {v : V} {vs : List V} {d : PyData} {ds : List PyData} : Sh H v d → ShAll H vs ds → ShAll H (v :: vs) (d :: ds)
end
theorem ShAll.length {H : Hp} : ∀ {vs : List V} {ds : List PyData}, ShAll H vs ds → vs.length = ds.length
  | _, _, .nil => rfl
  | _, _, .cons _ t => by rw [List.length_cons, List.length_cons, t.length]
mutual
theorem Sh.same {H H' : Hp} (s : Same H H') : ∀ {v : V} {d : PyData}, Sh H v d → Sh H' v d
  | _, _, .non => .non
  | _, _, .bl b => .bl b
  | _, _, .int i => .int i
  | _, _, .str x => .str x
  | _, _, .lst h n t => .lst (s _ _ h) n (t.same s)
  | _, _, .tup h t => .tup (s _ _ h) (t.same s)
  | _, _, .dic h t => .dic (s _ _ h) (t.same s)
theorem ShAll.same {H H' : Hp} (s : Same H H') : ∀ {vs : List V} {ds : List PyData}, ShAll H vs ds → ShAll H' vs ds
  | _, _, .nil => .nil
  | _, _, .cons h t => .cons (h.same s) (t.same s)
end
/-- the name of the class of such data -/
def tyD : PyData → String
  | .none => "NoneType"
  | .bool _ => "bool"
  | .int _ => "int"
  | .str _ => "str"
  | .list _ => "list"
  | .tuple _ => "tuple"
  | .dict _ => "dict"
theorem Sh.ty {K : PySem.W.Frag} {H : Hp} {v : V} {d : PyData} (h : Sh H v d) : TyX K H v (.type (tyD d)) := by
  cases h with
  | non => exact .base .non
  | bl b => exact .base (.bl b)
  | int i => exact .base (.int i)
  | str x => exact .base (.str x)
  | lst h _ _ => exact .base (.lst h)
  | tup h _ => exact .base (.tup h)
  | dic h _ => exact .base (.dK h)
section
variable {X : Cx} {pins : List (Addr × Obj)} {σ : L2.St} {H : Hp} {s : Shared}
theorem pairs_keys {P : Program} {w : World} {h : Heap} : ∀ {es : List DictEntry} {kvs : List (Key × Value)}, Pairs (mixKind P w) es kvs → ReadsAll h (es.map (·.key)) (kvs.map fun kv => kD kv.1) []
  | _, _, .nil => .nil
  | _, _, .cons (kv := kv) hk _ t => by
    have r := pairs_keys (h := h) t
    rcases keyIs_shape (k := kv.1) hk with ⟨i, u, e1, e2⟩ | ⟨x, u, e1, e2⟩
    · rw [List.map_cons, List.map_cons, e1, e2]
      exact ReadsAll.cons (as := []) (.int i u) r
    · rw [List.map_cons, List.map_cons, e1, e2]
      exact ReadsAll.cons (as := []) (.str x u) r
theorem pairs_vals {P : Program} {w : World} : ∀ {es : List DictEntry} {kvs : List (Key × Value)}, Pairs (mixKind P w) es kvs → es.map (·.val) = kvs.map (·.2)
  | _, _, .nil => rfl
  | _, _, .cons _ hv t => by rw [List.map_cons, List.map_cons, hv, pairs_vals t]
theorem kv_rel : ∀ {kvs : List (Key × V)} {vs : List (Key × Value)}, KV kvs vs → kvs.map (·.1) = vs.map (·.1) ∧ Vals (kvs.map (·.2)) (vs.map (·.2))
  | _, _, .nil => ⟨rfl, .nil⟩
  | _, _, .cons h t => by
    obtain ⟨a, b⟩ := kv_rel t
    exact ⟨by rw [List.map_cons, List.map_cons, a, h.1], .cons h.2 b⟩
mutual
theorem Sh.reads (I : Inv X pins σ H s) : ∀ (v : V) (d : PyData) (u : Value), Sh H v d → RelV v u → ∃ as, Reads s.heap u d as ∧ sysModules ∉ as
  | _, _, _, .non, r => by cases r; exact ⟨_, .none, List.not_mem_nil⟩
  | _, _, _, .bl b, r => by cases r; exact ⟨_, .bool b, List.not_mem_nil⟩
  | _, _, _, .int i, r => by obtain ⟨t, rfl⟩ := r; exact ⟨_, .int i t, List.not_mem_nil⟩
  | _, _, _, .str x, r => by obtain ⟨t, rfl⟩ := r; exact ⟨_, .str x t, List.not_mem_nil⟩
  | _, _, _, .lst (a := a) (xs := xs) h n t, r => by
    cases r
    obtain ⟨_, its, c, rv, ho⟩ := (show ObjOk X.prog X.w H s.heap a (.lst xs) from I.hok a _ h)
    obtain ⟨as, q, m⟩ := ShAll.reads I _ _ its t rv
    exact ⟨_, .list ho rfl rfl (by simpa using q), fun z => (List.mem_cons.mp z).elim (fun e => n e.symm) m⟩
  | _, _, _, .tup (a := a) (xs := xs) h t, r => by
    cases r
    obtain ⟨_, its, rv, o, ho, hc, c, hd⟩ := (show ObjOk X.prog X.w H s.heap a (.tup xs) from I.hok a _ h)
    obtain ⟨as, q, m⟩ := ShAll.reads I _ _ its t rv
    exact ⟨_, .tuple ho hc hd (by simpa using q), m⟩
  | _, _, _, .dic (a := a) (kvs := kvs) (ds := ds) h t, r => by
    cases r
    obtain ⟨_, low, vs, rel, o, es, ep, ho, hx, hd, _, hp, _⟩ := (show ObjOk X.prog X.w H s.heap a (.dK kvs) from I.hok a _ h)
    obtain ⟨rk, rv⟩ := kv_rel rel
    obtain ⟨as, q, m⟩ := ShAll.reads I _ _ (vs.map (·.2)) t rv
    have k1 : (kvs.map fun kv => kD kv.1) = vs.map fun kv => kD kv.1 := by
      have := congrArg (List.map kD) rk
      rw [List.map_map, List.map_map] at this
      exact this
    have ln : (kvs.map fun kv => kD kv.1).length = ds.length := by
      have := t.length
      rw [List.length_map] at this
      rw [List.length_map, this]
    refine ⟨_, .dict (as := []) (bs := as) ho hx.1 hd ?_ ?_, ?_⟩
    · rw [List.map_fst_zip (Nat.le_of_eq ln), k1]
      exact pairs_keys hp
    · rw [List.map_snd_zip (Nat.le_of_eq ln.symm), pairs_vals hp]
      exact q
    · intro z
      rcases List.mem_cons.mp z with e | e
      · exact absurd low (by rw [← e]; simp)
      · exact m e
theorem ShAll.reads (I : Inv X pins σ H s) : ∀ (vs : List V) (ds : List PyData) (us : List Value), ShAll H vs ds → Vals vs us → ∃ as, ReadsAll s.heap us ds as ∧ sysModules ∉ as
  | _, _, _, .nil, r => by cases r; exact ⟨_, .nil, List.not_mem_nil⟩
  | _, _, _, .cons h t, r => by
    cases r with
    | cons r1 r2 =>
      obtain ⟨as, q1, m1⟩ := Sh.reads I _ _ _ h r1
      obtain ⟨bs, q2, m2⟩ := ShAll.reads I _ _ _ t r2
      exact ⟨_, .cons q1 q2, fun z => (List.mem_append.mp z).elim m1 m2⟩
end
end
def rRepr : List V → Hp → VK → Prop := fun xs H Q => ∃ x d, xs = [x] ∧ Sh H x d ∧ d.showable = true ∧ d.shown.length ≤ sizeLine ∧ d.depth ≤ 50 ∧ Q (.str d.shown) H
theorem call_repr {X : Cx} (nothing : X.A.guards = some []) (hu : X.A.units + 64 < cLine) : CallR X (.builtin "repr") rRepr := by
  intro pins s σ H xs us Q I r h
  obtain ⟨x, d, rfl, sh, able, fits, deep, q⟩ := h
  cases r with
  | @cons _ u _ _ r1 r2 =>
    cases r2
    obtain ⟨as, rd, low⟩ := Sh.reads I _ _ _ sh r1
    have fin : ∀ h' t tk, (∀ b o, s.heap.get? b = some o → h'.get? b = some o) → EP X pins σ Q (.str d.shown t) { s with heap := h', toks := tk } := fun h' t tk kept => ⟨.str d.shown, H, I.kept kept, ⟨t, rfl⟩, q⟩
    cases sh with
    | non => cases r1; exact PySem.P.repr_of_none (fin _ _ _ fun _ _ z => z)
    | bl b => cases r1; exact PySem.P.repr_of_bool (fin _ _ _ fun _ _ z => z)
    | int i => obtain ⟨t, rfl⟩ := r1; exact PySem.P.repr_of_int (of_decide_eq_true able) (fin _ _ _ fun _ _ z => z)
    | str x => obtain ⟨t, rfl⟩ := r1; exact PySem.P.repr_of_str (fin _ _ _ fun _ _ z => z) fits
    | lst _ _ _ => cases r1; exact repr_of_reads' rd able (fun _ => low) nothing (by omega) (fun _ _ z => z) fin fits
    | tup _ _ => cases r1; exact repr_of_reads' rd able (fun _ => low) nothing (by omega) (fun _ _ z => z) fin fits
    | dic _ _ => cases r1; exact repr_of_reads' rd able (fun _ => low) nothing (by omega) (fun _ _ z => z) fin fits
/-- a display's list is none of the interpreter's own -/
def tLstN (t : TA) : TE := fun σ H Q => t σ H fun xs H1 => xs.length ≤ sizeLine ∧ ∀ p, H1 p = none → p ≠ sysModules → Q (.ref p) (upd H1 p (.lst xs))
theorem pe_lstN {X : Cx} {es : List Expr} {t : TA} {pos : Pos} (h : PA X es t) : PE X (.List es pos) (tLstN t) := by
  refine ⟨fun pins s σ H Q I told => wpAny_List_spliced (thn (h.run pos pins s σ H _ I told) ?_)⟩
  rintro us s1 ⟨xs, H1, J, r, small, q⟩
  have free : H1 s1.heap.objs.size = none := J.hok.fresh (Nat.le_refl _)
  refine ⟨by rw [← r.length]; exact small, .ref s1.heap.objs.size, upd H1 s1.heap.objs.size (.lst xs), J.laid (t' := s1.toks) (fun b u z => Heap.get?_push_of_some _ z) (Nat.le_refl _) ⟨small, us, 0, r, Heap.get?_push_size _ rfl⟩, rfl, q _ free (Nat.ne_of_gt J.big)⟩
/-! ### the end of a law whose defs are called where nothing is being shown -/
theorem law_G {P : Program} {w : World} {K : PySem.W.Frag} {mg mb : Str → Option Value} {CX : CXT} {k : Nat} {fa a : Addr} {fd : FuncData} {x : Str} {sp : Sp} {s : Shared} {vs : List Value} {ns : List Int}
    (inK : K.In s.heap) (gl : s.heap.Ns mainGlobals mg) (bl : s.heap.Ns builtinsNs mb) (boot : ∀ y : Str, y ≠ "__name__" → mb y = bootBuiltins y) (lim : s.heap.NoLimit) (ng : s.gens = #[])
    (at_ : s.heap.get? a = some { cls := .type "list", data := .seq vs.toArray }) (are : IntsAre vs ns) (small : ns.length ≤ sizeLine) (room : Room k callerA)
    (F : ∀ bs : Heap, K.In bs → bs.Ns mainGlobals mg → FnG P w K mg bs CX k fa fd [x] sp) (bound : ∀ (s : Shared) (u : Value), BindsTo s fd ⟨[u], []⟩ [(x, u)])
    (told : ∀ H : Hp, Only H → SqL K H a (ns.map V.int) → sp [.ref a] H (fun v _ => v = .bl true) fun _ _ _ => False)
    (noX : ∀ H e s', CX [] H s (fun _ _ _ => False) e s' → False) :
    codeAny (model P w) callerA (.call (.ref fa) ⟨[.ref a], []⟩) (fun r s' => r = .ok (.ret (.bool true)) ∧ OldK s.heap s'.heap ∧ s'.os = s.os ∧ AllBare s'.gens) s := by
  have main : ∀ H : Hp, Only H → SqL K H a (ns.map V.int) → HOk P w H s.heap → (∀ b, H b ≠ none → b = a) → (H a ≠ none → K.lookup a = none) →
      codeAny (model P w) callerA (.call (.ref fa) ⟨[.ref a], []⟩) (fun r s' => r = .ok (.ret (.bool true)) ∧ OldK s.heap s'.heap ∧ s'.os = s.os ∧ AllBare s'.gens) s := by
    intro H only list ok alone out
    have seen : ∀ {b : Addr} {o : Obj}, s.heap.get? b = some o → H b = none → (hidT s.heap H).get? b = some o := fun z n => hidT_get z n
    have dict : ∀ {b : Addr} {o : Obj} {es : Array DictEntry} {ep : Nat}, s.heap.get? b = some o → o.data = .dict es ep → H b = none := by
      intro b o es ep z dz
      refine Classical.byContradiction fun some_ => ?_
      have eb := alone b some_
      rw [eb, at_] at z
      cases z
      cases (show Data.seq vs.toArray _ = Data.dict es ep from dz)
    have names : ∀ {b : Addr} {m : Str → Option Value}, s.heap.Ns b m → (hidT s.heap H).Ns b m := by
      rintro b m ⟨o, es, ep, z, dz, rest⟩
      exact ⟨o, es, ep, seen z (dict z dz), dz, rest⟩
    have inB : K.In (hidT s.heap H) := by
      intro b o z
      refine seen (inK b o z) (Classical.byContradiction fun some_ => ?_)
      have eb := alone b some_
      subst eb
      rw [out some_] at z
      cases z
    obtain ⟨ml, l1, l2⟩ := lim
    have mod : Mod K mg (hidT s.heap H) := ⟨inB, names gl, ⟨mb, names bl, boot⟩, ⟨ml, names l1, l2⟩⟩
    have env : Env0 P w K mg (hidT s.heap H) callerA [] s H := { frames := rfl, mod := mod, bs := fun b o z => of_hidT z, bsz := Nat.le_of_eq (hidT_size _ _), funs := trivial, frf := (fun b hb => by cases (show b ∈ ([] : List Addr) from hb)), hok := ok, bare := .of_eq ng }
    refine codeAny_mono ((F _ inB (names gl)).go callerA rfl room [] s H _ [.ref a] [.ref a] _ _ env (bound s (.ref a)) (.cons rfl .nil) (told H only list)) fun r s2 z => ?_
    match r, z with
    | .error e, z => exact (noX H e s2 z).elim
    | .ok .next, z => exact z.elim
    | .ok .brk, z => exact z.elim
    | .ok .cont, z => exact z.elim
    | .ok (.ret u), ⟨v, H2, os, bare, un, ok2, rel, q⟩ =>
      cases (show v = V.bl true from q)
      cases (show u = Value.bool true from rel)
      refine ⟨rfl, OldK.of_keep fun b o z => ?_, os, bare⟩
      by_cases hb : H b = none
      · exact un.keep b o z hb (fun m => by cases (show b ∈ ([] : List Addr) from m)) (fun m => by cases m)
      · rcases only b with n | ⟨ob, xs, f⟩
        · exact absurd n hb
        · have o1 := (ok b _ f).1
          have o2 := (ok2 b _ (un.frzs b ob _ f)).1
          rw [z] at o1
          rw [Option.some.inj o1]
          exact o2
  have rel := vals_ints are
  cases hk : K.lookup a with
  | some o =>
    have z := inK a o hk
    rw [at_] at z
    cases z
    exact main (fun _ => none) (fun _ => .inl rfl) (.inr ⟨_, vs.toArray, _, hk, rfl, rfl, rfl, by rw [List.size_toArray, are.length]; exact small, by simpa using rel⟩) (fun b u z => by cases z) (fun b z => absurd rfl z) fun z => absurd rfl z
  | none =>
    have on : ∀ b : Addr, b = a → (if b = a then some (HO.frz { cls := .type "list", data := .seq vs.toArray } (.lst (ns.map V.int))) else none) = some (HO.frz { cls := .type "list", data := .seq vs.toArray } (.lst (ns.map V.int))) := fun b e => if_pos e
    refine main (fun b => if b = a then some (.frz { cls := .type "list", data := .seq vs.toArray } (.lst (ns.map V.int))) else none) (fun b => ?_) (.inl (.inr ⟨_, on a rfl⟩)) (fun b u z => ?_) (fun b z => ?_) fun _ => hk
    · rcases Classical.em (b = a) with e | e
      · exact .inr ⟨_, _, on b e⟩
      · exact .inl (if_neg e)
    · rcases Classical.em (b = a) with e | e
      · have := (on b e).symm.trans z
        cases this
        subst e
        exact ⟨at_, by rw [List.length_map]; exact small, vs, _, rel, at_⟩
      · have := (if_neg e).symm.trans z
        cases this
    · exact Classical.byContradiction fun e => z (if_neg e)
theorem walk_G {l : PySem.W.OpenLaw} {n k : Nat} {q : Program} {loose : List Str} {XP : (Str → Option Value) → Heap → Prop} {YP : World → Heap → Prop} {d : DefRec} {K : Params → PySem.W.Frag} {CX : World → CXT} {sp : World → Sp} {x : Str}
    (most : l.most = some n) (small : n ≤ sizeLine) (nodef : d.params.defaults = []) (room : Room k callerA) (inK : ∀ (w : World) (h : Heap), YP w h → (K w.params).In h)
    (F : ∀ (w : World) (mg : Str → Option Value) (fa : Addr) (h : Heap), (K w.params).In h → h.Ns mainGlobals mg → mg d.name = some (.ref fa) →
      ∃ fd : FuncData, (∀ (s : Shared) (u : Value), BindsTo s fd ⟨[u], []⟩ [(x, u)]) ∧ ∀ bs : Heap, (K w.params).In bs → bs.Ns mainGlobals mg → FnG l.prog w (K w.params) mg bs (CX w) k fa fd [x] (sp w))
    (told : ∀ (w : World) (H : Hp) (a : Addr) (ns : List Int), ns.length ≤ n → Only H → SqL (K w.params) H a (ns.map V.int) → sp w [.ref a] H (fun v _ => v = .bl true) fun _ _ _ => False)
    (noX : ∀ (w : World) (H : Hp) (s : Shared) (e : Value) (s' : Shared), CX w [] H s (fun _ _ _ => False) e s' → False) :
    PySem.W.WalkO q loose XP YP l.row.toRowW d [] (fun f vs => PySem.call f vs) := by
  refine Att.attach_call most nodef fun w s₀ s₁ mg mb fa o pm cd doc a vs ns G Y ho hd hcd hmg hobj hints hlen hg => ?_
  obtain ⟨fd, bound, FG⟩ := F w mg fa _ (inK w _ Y) G.T.g hmg
  exact law_G (inK w _ Y) G.T.g G.T.b G.T.builtins G.T.nolimit hg hobj hints (Nat.le_trans hlen small) room FG bound (fun H only list => told w H a ns hlen only list) fun H e s2 => noX w H s₁ e s2

/-! ### the end of a law whose defs are called where nothing is being shown, with tables of code objects -/
def LawAtG (l : PySem.W.OpenLaw) (w : World) (K : PySem.W.Frag) (CX : CXT) (k n : Nat) (x : Str) (mg : Str → Option Value) (f : Addr) (top : Heap) : Prop :=
  ∃ (fd : FuncData) (ts : List (Addr × Addr)) (sp : Sp), (∀ t ∈ ts, top.get? t.2 = some { cls := .none, data := .fields #[] }) ∧ (∀ t ∈ ts, K.lookup t.2 = none) ∧ (∀ t ∈ ts, PySem.W.CodeHd top t.1 t.2) ∧ (∀ (st : Shared) (v : Value), BindsTo st fd ⟨[v], []⟩ [(x, v)]) ∧
    (∀ (H : Hp) (p : Addr) (zs : List Int), zs.length ≤ n → (∀ z ∈ zs, Builtin.Int.intBits z ≤ 1048576) → (∀ t ∈ ts, H t.2 = some (.tbl #[])) → SqL K H p (zs.map V.int) → sp [.ref p] H (fun v _ => v = .bl true) fun _ _ _ => False) ∧
    ∀ under : Heap, K.In under → under.Ns mainGlobals mg → (∀ t ∈ ts, LamX.TabB under mg t.1 t.2) → FnG l.prog w K mg under CX k f fd [x] sp
theorem law_GT {P : Program} {w : World} {K : PySem.W.Frag} {mg mb : Str → Option Value} {CX : CXT} {k : Nat} {f p : Addr} {ts : List (Addr × Addr)} {fd : FuncData} {x : Str} {sp : Sp} {s : Shared} {us : List Value} {zs : List Int}
    (inK : K.In s.heap) (gl : s.heap.Ns mainGlobals mg) (bl : s.heap.Ns builtinsNs mb) (boot : ∀ y : Str, y ≠ "__name__" → mb y = bootBuiltins y) (lim : s.heap.NoLimit) (ng : s.gens = #[])
    (bare : ∀ t ∈ ts, s.heap.get? t.2 = some { cls := .none, data := .fields #[] }) (out : ∀ t ∈ ts, K.lookup t.2 = none) (code : ∀ t ∈ ts, PySem.W.CodeHd s.heap t.1 t.2)
    (bmod : ∃ (m : Addr) (o : Obj), mg "__builtins__" = some (.ref m) ∧ m ≠ builtinsNs ∧ s.heap.get? m = some o ∧ o.cls = .type "module" ∧ o.dict = some builtinsNs ∧ o.data = .plain)
    (script : s.heap.get? p = some { cls := .type "list", data := .seq us.toArray }) (are : IntsAre us zs) (small : zs.length ≤ sizeLine) (room : Room k callerA)
    (F : ∀ under : Heap, K.In under → under.Ns mainGlobals mg → (∀ t ∈ ts, LamX.TabB under mg t.1 t.2) → FnG P w K mg under CX k f fd [x] sp) (bound : ∀ (st : Shared) (v : Value), BindsTo st fd ⟨[v], []⟩ [(x, v)])
    (told : ∀ H : Hp, (∀ t ∈ ts, H t.2 = some (.tbl #[])) → SqL K H p (zs.map V.int) → sp [.ref p] H (fun v _ => v = .bl true) fun _ _ _ => False)
    (noX : ∀ H e st, CX [] H s (fun _ _ _ => False) e st → False) :
    codeAny (model P w) callerA (.call (.ref f) ⟨[.ref p], []⟩) (fun r st => r = .ok (.ret (.bool true)) ∧ OldK s.heap st.heap ∧ st.os = s.os ∧ AllBare st.gens) s := by
  have tabAt : ∀ c ∈ ts.map Prod.snd, s.heap.get? c = some { cls := .none, data := .fields #[] } := by
    intro c hc
    obtain ⟨t, ht, rfl⟩ := List.mem_map.mp hc
    exact bare t ht
  have inTs : ∀ {t : Addr × Addr}, t ∈ ts → t.2 ∈ ts.map Prod.snd := fun ht => List.mem_map_of_mem ht
  have pNo : ¬ p ∈ ts.map Prod.snd := by
    intro hp
    have both := (tabAt p hp).symm.trans script
    have kinds := congrArg (fun o : Option Obj => o.map Obj.cls) both
    simp at kinds
  have main : ∀ H : Hp, (∀ t ∈ ts, H t.2 = some (.tbl #[])) → (∀ c, H c = none ∨ c ∈ ts.map Prod.snd ∨ ∃ o ys, H c = some (.frz o (.lst ys))) → SqL K H p (zs.map V.int) → HOk P w H s.heap → (∀ c, H c ≠ none → c = p ∨ c ∈ ts.map Prod.snd) → (H p ≠ none → K.lookup p = none) →
      codeAny (model P w) callerA (.call (.ref f) ⟨[.ref p], []⟩) (fun r st => r = .ok (.ret (.bool true)) ∧ OldK s.heap st.heap ∧ st.os = s.os ∧ AllBare st.gens) s := by
    intro H tabs kinds list ok alone off
    have free : ∀ {c : Addr} {o : Obj}, s.heap.get? c = some o → (∀ ys m, ¬ o.data = .seq ys m) → ¬ o.data = .fields #[] → H c = none := by
      intro c o ho n1 n2
      refine Classical.byContradiction fun some_ => ?_
      rcases alone c some_ with rfl | hc
      · cases Option.some.inj (ho.symm.trans script)
        exact n1 _ _ rfl
      · cases Option.some.inj (ho.symm.trans (tabAt c hc))
        exact n2 rfl
    have names : ∀ {c : Addr} {m : Str → Option Value}, s.heap.Ns c m → (hidT s.heap H).Ns c m := by
      rintro c m ⟨o, es, ep, ho, dz, more⟩
      refine ⟨o, es, ep, hidT_get ho (free ho (fun ys j z => ?_) fun z => ?_), dz, more⟩ <;> exact Data.noConfusion (dz.symm.trans z)
    have inB : K.In (hidT s.heap H) := by
      intro c o ho
      refine hidT_get (inK c o ho) (Classical.byContradiction fun some_ => ?_)
      rcases alone c some_ with rfl | hc
      · exact absurd (ho.symm.trans (off some_)) (by simp)
      · obtain ⟨t, ht, rfl⟩ := List.mem_map.mp hc
        exact absurd (ho.symm.trans (out t ht)) (by simp)
    obtain ⟨ml, l1, l2⟩ := lim
    have mod : L2.Mod K mg (hidT s.heap H) := ⟨inB, names gl, ⟨mb, names bl, boot⟩, ⟨ml, names l1, l2⟩⟩
    have tables : ∀ t ∈ ts, LamX.TabB (hidT s.heap H) mg t.1 t.2 := by
      intro t ht
      constructor
      · obtain ⟨o, ys, file, tf, flags, tg, inF, text, tt, c1, c2, c3, c4, c5, c6, c7, c8, c9, c10⟩ := code t ht
        refine ⟨o, ys, file, tf, flags, tg, inF, text, tt, hidT_get c1 (free c1 (fun us j z => Data.noConfusion (c3.symm.trans z)) fun z => ?_), c2, c3, c4, c5, c6, c7, c8, c9, c10⟩
        have z2 := c3.symm.trans z
        cases z2
        simp at c4
      · obtain ⟨m, o, b1, b2, b3, b4, b5, b6⟩ := bmod
        refine ⟨m, o, b1, b2, fun z => ?_, fun z => ?_, hidT_get b3 (free b3 (fun us j z => Data.noConfusion (b6.symm.trans z)) fun z => Data.noConfusion (b6.symm.trans z)), b4, b5, b6⟩
        · obtain ⟨o', es, ep, ho, dz, _⟩ := gl
          subst z
          cases Option.some.inj (b3.symm.trans ho)
          exact Data.noConfusion (b6.symm.trans dz)
        · subst z
          cases Option.some.inj (b3.symm.trans (bare t ht))
          exact Data.noConfusion b6
      · intro z
        obtain ⟨o', es, ep, ho, dz, _⟩ := gl
        rw [z] at ho
        cases Option.some.inj (ho.symm.trans (bare t ht))
        exact Data.noConfusion dz
    have env : Env0 P w K mg (hidT s.heap H) callerA [] s H := { frames := rfl, mod := mod, bs := fun c o z => of_hidT z, bsz := Nat.le_of_eq (hidT_size _ _), funs := trivial, frf := (fun c hc => by cases (show c ∈ ([] : List Addr) from hc)), hok := ok, bare := .of_eq ng }
    refine codeAny_mono ((F _ inB (names gl) tables).go callerA rfl room [] s H _ [.ref p] [.ref p] _ _ env (bound s (.ref p)) (.cons rfl .nil) (told H tabs list)) fun r st z => ?_
    match r, z with
    | .error e, z => exact (noX H e st z).elim
    | .ok .next, z => exact z.elim
    | .ok .brk, z => exact z.elim
    | .ok .cont, z => exact z.elim
    | .ok (.ret u), ⟨v, H2, os, bg, un, ok2, rel, q⟩ =>
      cases (show v = V.bl true from q)
      cases (show u = Value.bool true from rel)
      have old : ∀ c o, ¬ c ∈ ts.map Prod.snd → s.heap.get? c = some o → st.heap.get? c = some o := by
        intro c o nc ho
        by_cases hc : H c = none
        · exact un.keep c o ho hc (fun m => by cases (show c ∈ ([] : List Addr) from m)) (fun m => by cases m)
        · rcases kinds c with n | n | ⟨ob, ys, fz⟩
          · exact absurd n hc
          · exact absurd n nc
          · have o1 := (ok c _ fz).1
            have o2 := (ok2 c _ (un.frzs c ob _ fz)).1
            rw [ho] at o1
            rw [Option.some.inj o1]
            exact o2
      have grown : ∀ c ∈ ts.map Prod.snd, ∃ more : Array Value, st.heap.get? c = some { cls := .none, data := .fields more } := by
        intro c hc
        obtain ⟨t, ht, rfl⟩ := List.mem_map.mp hc
        obtain ⟨more, hm⟩ := un.tbls t.2 #[] (tabs t ht)
        exact ⟨_, ok2 t.2 _ hm⟩
      refine ⟨rfl, ⟨fun c o ho => ?_, fun c o ho => ?_⟩, os, bg⟩
      · by_cases hc : c ∈ ts.map Prod.snd
        · obtain ⟨more, hm⟩ := grown c hc
          obtain ⟨t, ht, rfl⟩ := List.mem_map.mp hc
          cases Option.some.inj (ho.symm.trans (bare t ht))
          exact .inr (.inl ⟨((code t ht).tab (bare t ht)).isCodeTable, rfl, #[], more, rfl, by rw [Array.empty_append]; exact hm⟩)
        · exact .inl (old c o hc ho)
      · by_cases hc : c ∈ ts.map Prod.snd
        · obtain ⟨more, hm⟩ := grown c hc
          exact ⟨_, hm⟩
        · exact ⟨o, old c o hc ho⟩
  have rel := vals_ints are
  let base : Hp := fun c => if c ∈ ts.map Prod.snd then some (.tbl #[]) else none
  have onT : ∀ {c : Addr}, c ∈ ts.map Prod.snd → base c = some (.tbl #[]) := fun hc => if_pos hc
  have offT : ∀ {c : Addr}, ¬ c ∈ ts.map Prod.snd → base c = none := fun hc => if_neg hc
  cases hk : K.lookup p with
  | some o =>
    cases Option.some.inj ((inK p o hk).symm.trans script)
    refine main base (fun t ht => onT (inTs ht)) (fun c => ?_) (.inr ⟨_, us.toArray, _, hk, rfl, rfl, rfl, by rw [List.size_toArray, are.length]; exact small, by simpa using rel⟩) (fun c u z => ?_) (fun c z => ?_) fun z => absurd (offT pNo) z
    · rcases Classical.em (c ∈ ts.map Prod.snd) with hc | hc
      · exact .inr (.inl hc)
      · exact .inl (offT hc)
    · rcases Classical.em (c ∈ ts.map Prod.snd) with hc | hc
      · cases Option.some.inj ((onT hc).symm.trans z)
        exact tabAt c hc
      · exact absurd ((offT hc).symm.trans z) (by simp)
    · exact .inr (Classical.byContradiction fun hc => z (offT hc))
  | none =>
    let frz : HO := .frz { cls := .type "list", data := .seq us.toArray } (.lst (zs.map V.int))
    have onP : (fun c => if c = p then some frz else base c) p = some frz := if_pos rfl
    have offP : ∀ {c : Addr}, ¬ c = p → (fun c => if c = p then some frz else base c) c = base c := fun hc => if_neg hc
    refine main (fun c => if c = p then some frz else base c) (fun t ht => ?_) (fun c => ?_) (.inl (.inr ⟨_, onP⟩)) (fun c u z => ?_) (fun c z => ?_) fun _ => hk
    · refine (offP fun e => pNo ?_).trans (onT (inTs ht))
      rw [← e]
      exact inTs ht
    · rcases Classical.em (c = p) with rfl | e
      · exact .inr (.inr ⟨_, _, onP⟩)
      · rcases Classical.em (c ∈ ts.map Prod.snd) with hc | hc
        · exact .inr (.inl hc)
        · exact .inl ((offP e).trans (offT hc))
    · rcases Classical.em (c = p) with rfl | e
      · cases Option.some.inj (onP.symm.trans z)
        exact ⟨script, by rw [List.length_map]; exact small, us, _, rel, script⟩
      · have z := (offP e).symm.trans z
        rcases Classical.em (c ∈ ts.map Prod.snd) with hc | hc
        · cases Option.some.inj ((onT hc).symm.trans z)
          exact tabAt c hc
        · exact absurd ((offT hc).symm.trans z) (by simp)
    · rcases Classical.em (c = p) with e | e
      · exact .inl e
      · exact .inr (Classical.byContradiction fun hc => z ((offP e).trans (offT hc)))
theorem walk_GT {l : PySem.W.OpenLaw} {n k : Nat} {q : Program} {loose : List Str} {XP : (Str → Option Value) → Heap → Prop} {YP : World → Heap → Prop} {d : DefRec} {CX : World → CXT} {x : Str}
    (most : l.most = some n) (small : n ≤ sizeLine) (nodef : d.params.defaults = []) (room : Room k callerA)
    (F : ∀ (w : World) (mg : Str → Option Value) (f : Addr) (top : Heap), YP w top → top.Ns mainGlobals mg → mg d.name = some (.ref f) → ∃ K : PySem.W.Frag, K.In top ∧ LawAtG l w K (CX w) k n x mg f top)
    (noX : ∀ (w : World) (H : Hp) (s : Shared) (e : Value) (st : Shared), CX w [] H s (fun _ _ _ => False) e st → False) :
    PySem.W.WalkO q loose XP YP l.row.toRowW d [] (fun f vs => PySem.call f vs) := by
  refine Att.attach_callB most nodef fun w s0 s mg mb f o pm cd doc p us zs G Y ho hd hcd named script are few bits ng => ?_
  obtain ⟨K, inK, fd, ts, sp, bare, out, code, bound, told, FG⟩ := F w mg f _ Y G.T.g named
  exact law_GT inK G.T.g G.T.b G.T.builtins G.T.nolimit ng bare out code G.T.bmain script are (Nat.le_trans few small) room FG bound (fun H tabs list => told H p zs few bits tabs list) fun H e st => noX w H s e st

/-! ### data made by the law or the program: numbers, truths, texts, lists and tuples of these -/
mutual
inductive Tk (H : Hp) : V → PyData → Prop
  | bl (b : Bool) : Tk H (.bl b) (.bool b)
  | int (i : Int) : Tk H (.int i) (.int i)
  | str (x : Str) : Tk H (.str x) (.str x)
  | lst {a : Addr} {xs : List V} {ds : List PyData} : H a = some (.lst xs) → TkAll H xs ds → Tk H (.ref a) (.list ds)
  | tup {a : Addr} {xs : List V} {ds : List PyData} : H a = some (.tup xs) → TkAll H xs ds → Tk H (.ref a) (.tuple ds)
inductive TkAll (H : Hp) : List V → List PyData → Prop
  | nil : TkAll H [] []
  | cons {v : V} {vs : List V} {d : PyData} {ds : List PyData} : Tk H v d → TkAll H vs ds → TkAll H (v :: vs) (d :: ds)
end
theorem TkAll.length {H : Hp} : ∀ {vs : List V} {ds : List PyData}, TkAll H vs ds → vs.length = ds.length
  | _, _, .nil => rfl
  | _, _, .cons _ t => by rw [List.length_cons, List.length_cons, t.length]
mutual
theorem Tk.same {H H' : Hp} (s : Same H H') : ∀ {v : V} {d : PyData}, Tk H v d → Tk H' v d
  | _, _, .bl b => .bl b
  | _, _, .int i => .int i
  | _, _, .str x => .str x
  | _, _, .lst h t => .lst (s _ _ h) (t.same s)
  | _, _, .tup h t => .tup (s _ _ h) (t.same s)
theorem TkAll.same {H H' : Hp} (s : Same H H') : ∀ {vs : List V} {ds : List PyData}, TkAll H vs ds → TkAll H' vs ds
  | _, _, .nil => .nil
  | _, _, .cons h t => .cons (h.same s) (t.same s)
end
theorem TkAll.get {H : Hp} : ∀ {xs : List V} {ds : List PyData} {j : Nat} {x : V}, TkAll H xs ds → xs[j]? = some x → ∃ d, ds[j]? = some d ∧ Tk H x d
  | _, _, _, _, .nil, h => by simp at h
  | _, _, 0, _, .cons (d := d) a _, h => by
    cases (Option.some.inj h)
    exact ⟨d, rfl, a⟩
  | _, _, j + 1, _, .cons _ t, h => t.get h
theorem TkAll.append {H : Hp} : ∀ {xs ys : List V} {ds es : List PyData}, TkAll H xs ds → TkAll H ys es → TkAll H (xs ++ ys) (ds ++ es)
  | _, _, _, _, .nil, t => t
  | _, _, _, _, .cons a r, t => .cons a (r.append t)
theorem TkAll.ints {H : Hp} : ∀ ns : List Int, TkAll H (ns.map V.int) (ns.map PyData.int)
  | [] => .nil
  | n :: r => .cons (.int n) (TkAll.ints r)
theorem Tk.int_inv {H : Hp} {v : V} {i : Int} (h : Tk H v (.int i)) : v = .int i := by cases h; rfl
theorem Tk.tup_inv {H : Hp} {v : V} {ds : List PyData} (h : Tk H v (.tuple ds)) : ∃ a xs, v = .ref a ∧ H a = some (.tup xs) ∧ TkAll H xs ds := by
  cases h with
  | tup h t => exact ⟨_, _, rfl, h, t⟩
theorem Tk.lst_inv {H : Hp} {v : V} {ds : List PyData} (h : Tk H v (.list ds)) : ∃ a xs, v = .ref a ∧ H a = some (.lst xs) ∧ TkAll H xs ds := by
  cases h with
  | lst h t => exact ⟨_, _, rfl, h, t⟩
theorem TkAll.int_inv {H : Hp} : ∀ {vs : List V} {ns : List Int}, TkAll H vs (ns.map PyData.int) → vs = ns.map V.int
  | _, [], .nil => rfl
  | _, n :: r, .cons h t => by rw [List.map_cons, h.int_inv, t.int_inv]
/-- heaps without one place -/
def hd1 (p : Addr) (H : Hp) : Hp := fun b => if b = p then none else H b
theorem hd1_le {p : Addr} {H : Hp} : Same (hd1 p H) H := fun b o e => by
  unfold hd1 at e
  by_cases h : b = p
  · rw [if_pos h] at e; cases e
  · rw [if_neg h] at e; exact e
theorem hd1_same {p : Addr} {H H' : Hp} (s : Same H H') : Same (hd1 p H) (hd1 p H') := fun b o e => by
  unfold hd1 at e ⊢
  by_cases h : b = p
  · rw [if_pos h] at e; cases e
  · rw [if_neg h] at e ⊢; exact s _ _ e
theorem hd1_upd {p : Addr} {H : Hp} {o : HO} : Same (hd1 p H) (hd1 p (upd H p o)) := fun b x e => by
  unfold hd1 at e ⊢
  by_cases h : b = p
  · rw [if_pos h] at e; cases e
  · rw [if_neg h] at e ⊢; rw [upd_ne h]; exact e
theorem hd1_at {p b : Addr} {H : Hp} (h : b ≠ p) : hd1 p H b = H b := if_neg h
theorem hd1_of {p : Addr} {H H' : Hp} (s : Same H H') (n : H p = none) : Same H (hd1 p H') := fun b o e => by
  rw [hd1_at (ne_of_none e n)]
  exact s _ _ e
theorem same_of_hd1 {p : Addr} {H H' : Hp} {o : HO} (s : Same H (hd1 p H')) : Same H (upd H' p o) := fun b x e => by
  have z := s b x e
  unfold hd1 at z
  by_cases h : b = p
  · rw [if_pos h] at z; cases z
  · rw [if_neg h] at z; rw [upd_ne h]; exact z

/-! ### tables and gates -/
def tabOf (bs : List Bool) : Str := ⟨(bs.map fun b => if b = true then 49 else 48).toArray⟩
def plc (ws : List Int) : Int := ws.foldl (fun p w => 2 * p + w) 0
def gateM (bs : List Bool) (ws : List Int) : Int := if bs.getD (plc ws).toNat false = true then 1 else 0
theorem plc_snoc (ws : List Int) (w : Int) : plc (ws ++ [w]) = 2 * plc ws + w := by
  unfold plc
  rw [List.foldl_append]
  rfl
theorem plc_take {ws : List Int} {i : Nat} {u : Int} (h : ws[i]? = some u) : plc (ws.take (i + 1)) = 2 * plc (ws.take i) + u := by
  rw [List.take_add_one, h]
  exact plc_snoc _ _
theorem plc_bd : ∀ (n : Nat) (ws : List Int), ws.length = n → (∀ w ∈ ws, w = 0 ∨ w = 1) → 0 ≤ plc ws ∧ plc ws < 2 ^ n := by
  intro n
  induction n with
  | zero =>
    intro ws h _
    cases List.eq_nil_of_length_eq_zero h
    decide
  | succ n ih =>
    intro ws h hw
    have hne : ws ≠ [] := fun z => by rw [z] at h; cases h
    obtain ⟨r, x, rfl⟩ : ∃ r x, ws = r ++ [x] := ⟨ws.dropLast, ws.getLast hne, (List.dropLast_concat_getLast hne).symm⟩
    have hr := ih r (by rw [List.length_append] at h; simpa using h) fun w h' => hw w (List.mem_append_left _ h')
    have hx := hw x (by simp)
    rw [plc_snoc, Int.pow_succ]
    omega
theorem gate01 (bs : List Bool) (ws : List Int) : gateM bs ws = 0 ∨ gateM bs ws = 1 := by
  unfold gateM
  split
  · exact .inr rfl
  · exact .inl rfl
theorem int_sign (b : Bool) : PySem.intText? ⟨#[if b = true then 49 else 48]⟩ = some (if b = true then 1 else 0) := by
  cases b <;> decide +kernel
def spGate (K : PySem.W.Frag) : Sp := fun vs H Q _ => ∃ (bs : List Bool) (la : Addr) (ws : List Int), vs = [.str (tabOf bs), .ref la] ∧ SqL K H la (ws.map V.int) ∧ (∀ w ∈ ws, w = 0 ∨ w = 1) ∧ bs.length = 2 ^ ws.length ∧ ws.length ≤ 3 ∧ Q (.int (gateM bs ws)) H
theorem gate_read {bs : List Bool} {ws : List Int} (hw : ∀ w ∈ ws, w = 0 ∨ w = 1) (hb : bs.length = 2 ^ ws.length) (h3 : ws.length ≤ 3) : ∃ b : Bool, 0 ≤ plc ws ∧ plc ws < 2 ^ 63 ∧ plc ws < (tabOf bs).length ∧ (tabOf bs).cps[(plc ws).toNat]? = some (if b = true then 49 else 48) ∧ gateM bs ws = if b = true then 1 else 0 := by
  obtain ⟨p0, p1⟩ := plc_bd _ ws rfl hw
  have p8 : plc ws < 8 := by
    have : (2 : Int) ^ ws.length ≤ 8 := by
      have : ws.length = 0 ∨ ws.length = 1 ∨ ws.length = 2 ∨ ws.length = 3 := by omega
      rcases this with h | h | h | h <;> rw [h] <;> decide
    omega
  have hlt : (plc ws).toNat < bs.length := by
    have : ((2 ^ ws.length : Nat) : Int) = (2 : Int) ^ ws.length := by simp
    omega
  refine ⟨bs[(plc ws).toNat], p0, by omega, ?_, ?_, ?_⟩
  · have : (tabOf bs).length = bs.length := by simp [tabOf, Str.length]
    rw [this]
    omega
  · simp [tabOf, List.getElem?_eq_getElem hlt]
  · unfold gateM
    rw [List.getD_eq_getElem?_getD, List.getElem?_eq_getElem hlt]
    rfl

/-! ### walks -/
theorem gx_tup {α : Type} {K : PySem.W.Frag} {a : Addr} {xs : List V} {g : TG} {tt : TT} {te : TE} {vs : List Nat} {σ0 : L2.St} {End : α → Hp → Prop} {Yd : α → V → Hp → (α → Hp → Prop) → Prop} {a0 : α} {H0 : Hp} (Pv : Nat → α → Hp → Prop) (h0 : Pv 0 a0 H0)
    (hl : ∀ i c H, i ≤ xs.length → Pv i c H → SqT K H a xs)
    (hs : ∀ i x c H, xs[i]? = some x → Pv i c H → g x σ0 H fun σ2 H2 => wipe σ2 vs = σ0 ∧ tt σ2 H2 fun b H3 => if b = true then te σ2 H3 fun y H4 => Yd c y H4 (Pv (i + 1)) else Pv (i + 1) c H3) (hd : ∀ c H, Pv xs.length c H → End c H) :
    ∃ W : Nat → Nat → α → Hp → Prop, (∃ m, W 0 m a0 H0) ∧ tGx (Itt K a) g tt te σ0 vs End Yd W := by
  refine ⟨fun i m c H => m = xs.length - i ∧ i ≤ xs.length ∧ Pv i c H, ⟨xs.length, rfl, Nat.zero_le _, h0⟩, ?_⟩
  rintro i m c H ⟨rfl, hi, p⟩
  by_cases hlt : i < xs.length
  · have hx : xs[i]? = some xs[i] := List.getElem?_eq_getElem hlt
    refine .inr ⟨⟨xs, xs[i], hl i c H hi p, hx⟩, Pv (i + 1), fun c' H' p' => ⟨xs.length - (i + 1), by omega, rfl, hlt, p'⟩, fun x H' y => ?_⟩
    obtain ⟨rfl, y⟩ := y
    exact hs i x c _ (y xs (hl i c _ hi p)) p
  · have e : i = xs.length := by omega
    subst e
    exact .inl ⟨⟨xs, hl _ c H hi p, Nat.le_refl _⟩, hd c H p⟩
theorem lc_zipT {K : PySem.W.Frag} {a b : Addr} {xs ys : List V} {g : TG} {tt : TT} {te : TE} {vs : List Nat} {σ : L2.St} {H1 : Hp} {D : Addr} {Qd : Hp → Prop} (el : xs.length = ys.length) (Pv : Nat → Hp → Prop) (h0 : Pv 0 (upd H1 D (.lst []))) (hl : ∀ i H, i ≤ xs.length → Pv i H → SqT K H a xs ∧ SqT K H b ys)
    (hs : ∀ i x y T H, xs[i]? = some x → ys[i]? = some y → H T = none → Pv i H → g (.ref T) (wipe σ vs) (upd H T (.tup [x, y])) fun σ2 H2 => wipe σ2 vs = wipe σ vs ∧ tt σ2 H2 fun b H3 =>
      if b = true then te σ2 H3 fun y H4 => ∃ acc, H4 D = some (.lst acc) ∧ acc.length < sizeLine ∧ Pv (i + 1) (upd H4 D (.lst (acc ++ [y]))) else Pv (i + 1) H3) (hd : ∀ H, Pv xs.length H → Qd H) :
    ∃ W : Nat → Nat → Hp → Prop, (∃ m, W 0 m (upd H1 D (.lst []))) ∧ ∀ i m H, W i m H →
      ((RZ.ItzT K a b).stop i H ∧ Qd H) ∨ ((RZ.ItzT K a b).go i H ∧ ∃ Nx : Hp → Prop, (∀ H', Nx H' → ∃ m', m' < m ∧ W (i + 1) m' H') ∧ ∀ x H', (RZ.ItzT K a b).yld i H x H' → g x (wipe σ vs) H' fun σ2 H2 => wipe σ2 vs = wipe σ vs ∧ tt σ2 H2 fun b H3 =>
        if b = true then te σ2 H3 fun y H4 => ∃ acc, H4 D = some (.lst acc) ∧ acc.length < sizeLine ∧ Nx (upd H4 D (.lst (acc ++ [y]))) else Nx H3) := by
  refine ⟨fun i m H => m = xs.length - i ∧ i ≤ xs.length ∧ Pv i H, ⟨xs.length, by simp, Nat.zero_le _, h0⟩, ?_⟩
  rintro i m H ⟨rfl, hi, p⟩
  obtain ⟨qx, qy⟩ := hl i H hi p
  by_cases hlt : i < xs.length
  · have hx : xs[i]? = some xs[i] := List.getElem?_eq_getElem hlt
    have hy : ys[i]? = some (ys[i]'(by omega)) := List.getElem?_eq_getElem _
    refine .inr ⟨⟨xs, ys, _, _, qx, qy, hx, hy⟩, Pv (i + 1), fun H' p' => ⟨xs.length - (i + 1), by omega, rfl, hlt, p'⟩, fun x H' y => ?_⟩
    obtain ⟨T, x1, y1, rfl, nT, rfl, e1, e2⟩ := y
    exact hs i x1 y1 T H (e1 xs qx) (e2 ys qy) nT p
  · have e : i = xs.length := by omega
    subst e
    exact .inl ⟨⟨xs, ys, qx, qy, .inl (Nat.le_refl _)⟩, hd H p⟩

/-! ### enumerate(tuple) -/
theorem draws_tuple {P : Program} {w : World} {A : Around} (hA : A.handled = none) (it a : Addr) (items : Array Value) (hne : a ≠ it) : Draws P w A it [it, a] items.size (fun i v => items[i]? = some v) (fun i h => h.IsTupleIter it a i ∧ h.IsTuple a items) where
  live := fun _ _ st => let ⟨o, ho, _⟩ := st.1; ⟨o, ho⟩
  frame := fun _ _ _ st hk => ⟨st.1.at fun o e => hk it (by simp) o e, by
    obtain ⟨o, ho, r⟩ := st.2
    exact ⟨o, hk a (by simp) o ho, r⟩⟩
  item := fun i s Q E hi st hQ => by
    refine RZ.nextOf_tuple_item st.1 st.2 (x := items[i]) (by simp [hi]) fun h' hit' hs' => ?_
    refine hQ _ h' s.toks (by simp [hi]) ⟨hit', ?_⟩ hs'
    obtain ⟨o, ho, r⟩ := st.2
    exact ⟨o, hs'.extBut a o hne ho, r⟩
  done := fun s Q E st hE => RZ.nextOf_tuple_end hA st.1 st.2 (by simp) hE
open PySem.AutoSeq1 in
set_option maxHeartbeats 1000000 in
theorem meets_enumerate_newT (l : Addr) (items : Array Value) (o : Obj) (hc : o.cls = .type "tuple") (n : Nat) (hd : o.data = .seq items n) :
    Meets (Builtin.«enumerate.__new__» ⟨[.type "enumerate", .ref l], []⟩) (fun _ R s => s.heap.get? l = some o ∧
      R (.ok (.ret (.ref (s.heap.push { cls := .type "tuple_iterator", data := .fields #[.ref l, .int 0 0] }).objs.size)))
        { s with heap := (s.heap.push { cls := .type "tuple_iterator", data := .fields #[.ref l, .int 0 0] }).push { cls := .type "enumerate", data := .fields #[.none, .bool false, .ref s.heap.objs.size, rawInt 0, .none, .none] } }) :=
  .of_wp fun prog w A R s h => by
    obtain ⟨hp, g, d, tk, os⟩ := s; obtain ⟨hl, h⟩ := h
    have hsub := sub_enumerate
    have hL : Heap.IsTuple (Shared.heap ⟨hp, g, d, tk, os⟩) l items := ⟨_, hl, hc, n, hd⟩
    wp_walk using wpAny_loadPart' hl
    refine wpAny_stack_any fun st => wpAny_pure ?_
    split
    · rename_i c _ _ _ _ _
      cases (c == Value.type "enumerate")
      · wp_walk using wpAny_loadPart' hl, wpAny_pyIter_tuple hL
        exact ⟨_, rfl, h⟩
      · wp_walk using wpAny_loadPart' hl, wpAny_pyIter_tuple hL
        exact ⟨_, rfl, h⟩
    · wp_walk using wpAny_loadPart' hl, wpAny_pyIter_tuple hL
      exact ⟨_, rfl, h⟩
theorem call_enumerate_tuple {prog : Program} {w : World} {A : Around} {E : Value → Shared → Prop} {s : Shared} {l : Addr} {items : Array Value} {Q : Value → Shared → Prop} (hL : s.heap.IsTuple l items)
    (h : ∀ h', IsEnum h' (s.heap.objs.size + 1) s.heap.objs.size 0 .none → h'.IsTupleIter s.heap.objs.size l 0 → h'.objs.size = s.heap.objs.size + 2 →
      (∀ b o, s.heap.get? b = some o → h'.get? b = some o) → Q (.ref (s.heap.objs.size + 1)) { s with heap := h' }) :
    wpAny (model prog w) A (call (.type "enumerate") [.ref l]) Q E s := by
  obtain ⟨o, hl, hc, n, hd⟩ := hL
  refine callType_new F.called_enumerate (by decide) (F.typeCall_enumerate_1 _) (F.newCall_enumerate_1 _) (fun obj => F.args_object_init_2 obj _) F.entry_enumerate_new
    (meets_enumerate_newT l items o hc n hd) ⟨hl, ?_⟩
  have hz : (s.heap.push { cls := .type "tuple_iterator", data := .fields #[.ref l, .int 0 0] }).objs.size = s.heap.objs.size + 1 := Heap.size_push ..
  show _ ∧ _
  rw [hz]
  have he : IsEnum ((s.heap.push { cls := .type "tuple_iterator", data := .fields #[.ref l, .int 0 0] }).push
      { cls := .type "enumerate", data := .fields #[.none, .bool false, .ref s.heap.objs.size, rawInt 0, .none, .none] }) (s.heap.objs.size + 1) s.heap.objs.size 0 .none := by
    have := Heap.get?_push_size (s.heap.push { cls := .type "tuple_iterator", data := .fields #[.ref l, .int 0 0] })
      (o := { cls := .type "enumerate", data := .fields #[.none, .bool false, .ref s.heap.objs.size, rawInt 0, .none, .none] }) rfl
    rw [hz] at this; exact this
  refine ⟨⟨_, he, rfl⟩, h _ he ⟨_, Heap.get?_push_of_some _ (Heap.get?_push_size _ rfl), rfl, rfl⟩ (by rw [Heap.size_push, hz]) fun b o x => Heap.get?_push_of_some _ (Heap.get?_push_of_some _ x)⟩
/-- the tuple at a, each item in a new pair -/
def IteT (K : PySem.W.Frag) (a : Addr) : It :=
  ⟨fun i H => ∃ (xs : List V) (x : V), SqT K H a xs ∧ xs[i]? = some x, fun i H v H' => ∃ T x, v = .ref T ∧ H T = none ∧ H' = upd H T (.tup [.int (i : Nat), x]) ∧ ∀ xs, SqT K H a xs → xs[i]? = some x, fun i H => ∃ xs : List V, SqT K H a xs ∧ xs.length = i⟩
theorem turn_enumT {P : Program} {w : World} {K : PySem.W.Frag} {elts : List Expr} {kk : Nat} {tpos : Pos} (a e it : Addr) :
    Turn P w K (.Tuple elts kk tpos) (IteT K a) [e, it] e (fun i h => (∃ old, IsEnum h e it ((i : Nat) : Int) old) ∧ h.IsTupleIter it a i ∧ e ≠ it) where
  mem := by simp
  obj := fun i h st b hb => by
    obtain ⟨⟨old, he⟩, ⟨o, ho, hc, hd⟩, _⟩ := st
    have e' : b = e ∨ b = it := by simpa using hb
    rcases e' with z | z
    · rw [z]; exact ⟨_, he, fun v q => nomatch q⟩
    · rw [z]; exact ⟨o, ho, fun v q => by rw [hd] at q; cases q⟩
  keep := fun i h h' st k => let ⟨⟨old, he⟩, hi, hne⟩ := st; ⟨⟨old, k e (by simp) _ he⟩, hi.at fun o q => k it (by simp) o q, hne⟩
  item := by
    intro X hP hw hK hc i pins s σ H E I hf st hg
    subst hP hw hK
    obtain ⟨⟨old, he⟩, hit, hne⟩ := st
    obtain ⟨xs, x, hq, hx⟩ := hg
    obtain ⟨its, rv, p, hz⟩ := I.tuple hq
    obtain ⟨u, hu, ru⟩ := rv.get hx
    have hel : e < s.heap.objs.size := Heap.lt_size he
    have hil : it < s.heap.objs.size := by obtain ⟨_, q, _⟩ := hit; exact Heap.lt_size q
    have hpt : s.heap.IsTuple a its.toArray := p
    have hai : a ≠ it := fun z => by
      obtain ⟨o1, h1, c1, _⟩ := hpt
      obtain ⟨o2, h2, c2, _⟩ := hit
      rw [z, h2] at h1
      cases h1
      rw [c2] at c1
      exact absurd (Value.type.inj c1) (by decide)
    have hae : e ≠ a := fun z => by
      obtain ⟨o1, h1, c1, _⟩ := hpt
      rw [← z, he] at h1
      cases h1
      exact absurd (Value.type.inj c1) (by decide)
    have hil2 : i < its.toArray.size := by
      rw [List.size_toArray]
      exact (List.getElem?_eq_some_iff.mp hu).1
    refine wpAny_pyNext_enum_itemD (draws_tuple (A := X.A.in1) (I.ok.hd hc) it a its.toArray hai) he ⟨hit, hpt⟩ hil2 hne (by simp only [List.mem_cons, List.not_mem_nil, or_false, not_or]; exact ⟨hne, hae⟩) fun y h' tk hy ho hst hT hsz hk => ?_
    have hyu : y = u := by
      have : its[i]? = some y := by simpa using hy
      rw [hu] at this
      exact (Option.some.inj this).symm
    subst hyu
    have hit' := hst.1
    refine ⟨_, rfl, wpAny_letOwnedTupleGo_enum (s := { s with heap := h', toks := tk + 1 }) ho fun h'' he' sb => ?_⟩
    have hT2 : h''.get? s.heap.objs.size = some { cls := .type "tuple", data := .seq #[.int i tk, y] } := (sb.2 _ (Nat.ne_of_gt hel)).trans hT
    have new : ObjOk X.prog X.w (upd H s.heap.objs.size (.tup [.int (i : Nat), x])) h'' s.heap.objs.size (.tup [.int (i : Nat), x]) :=
      ⟨by show 2 ≤ sizeLine; decide, [.int i tk, y], .cons ⟨_, rfl⟩ (.cons ru .nil), ⟨_, hT2, rfl, _, rfl⟩⟩
    have I1 : Inv X pins σ (upd H s.heap.objs.size (.tup [.int (i : Nat), x])) { s with heap := h'', toks := tk + 1 } :=
      I.turnedNew (ch := [e, it]) (fun b ob hb q => (sb.2 b (fun z => hb (by simp [z]))).trans (hk b ob (fun z => hb (by simp [z])) (fun z => hb (by simp [z])) q)) hf (Nat.le_refl _) new
    refine ⟨.ref s.heap.objs.size, _, I1, rfl, ⟨_, x, rfl, I.hok.fresh (Nat.le_refl _), rfl, fun ys hy => by rw [I.tuple_inj hy hq]; exact hx⟩, ⟨⟨y, ?_⟩, hit'.at fun o q => (sb.2 it (Ne.symm hne)).trans q, hne⟩, fun b hb => ?_⟩
    · have e1 : ((i + 1 : Nat) : Int) = (i : Int) + 1 := by omega
      rw [e1]; exact he'
    · have hb' : b < s.heap.objs.size := by
        have e' : b = e ∨ b = it := by simpa using hb
        rcases e' with z | z
        · rw [z]; exact hel
        · rw [z]; exact hil
      rw [upd_ne (Nat.ne_of_lt hb')]
      exact (hf b hb).1
  done := by
    intro X hP hw hK hc i pins s σ H E I hf st hg
    subst hP hw hK
    obtain ⟨⟨old, he⟩, hit, hne⟩ := st
    obtain ⟨xs, hq, hx⟩ := hg
    obtain ⟨its, rv, p, hz⟩ := I.tuple hq
    obtain ⟨f0, f1, f2, f3, f4, f5⟩ := hf it (by simp)
    have hl := rv.length
    have hpt : s.heap.IsTuple a its.toArray := p
    have hai : a ≠ it := fun z => by
      obtain ⟨o1, h1, c1, _⟩ := hpt
      obtain ⟨o2, h2, c2, _⟩ := hit
      rw [z, h2] at h1
      cases h1
      rw [c2] at c1
      exact absurd (Value.type.inj c1) (by decide)
    have hn : i = its.toArray.size := by rw [List.size_toArray]; omega
    exact wpAny_pyNext_enum_endD (draws_tuple (A := X.A.in1) (I.ok.hd hc) it a its.toArray hai) he (by rw [← hn]; exact ⟨hit, hpt⟩) fun h' eb => ⟨rfl, I.turned (t' := s.toks) (fun b o hb q => eb b o hb q) f0 f1 f3 f4 f5⟩
  self := fun A i s Q E st h => let ⟨⟨_, he⟩, _⟩ := st; wpAny_pyIter_enum he h
def iEnumT (K : PySem.W.Frag) (ta : TA) : TI := fun σ H R => ta σ H fun vs H1 => ∃ a xs, vs = [.ref a] ∧ SqT K H1 a xs ∧ R (IteT K a) H1
theorem pi_enumT {X : Cx} {e : Expr} {ta : TA} {p pos tpos : Pos} {elts : List Expr} {kk : Nat} (hg : Gl X "enumerate") (hm : X.mg "enumerate" = none) (ha : PA X [e] ta) (hs : starEach [e] X.env = [(false, eval e X.env)] := by rfl) :
    PI X (.Tuple elts kk tpos) (.Call (.Name "enumerate" p) [e] [] pos) (iEnumT X.K ta) := by
  refine ⟨fun pins s σ H R I h => ?_⟩
  refine Call_ (ld_blt I hg hm boot_enumerate (PyProof.Rows.callWith_type1 (thn (ha.run pos pins s σ H _ I h) fun us s1 ⟨vs, H1, I1, r1, q1⟩ => ?_) hs rfl))
  obtain ⟨a, xs, ex, hq, q⟩ := q1
  subst ex
  cases r1 with
  | cons r rr =>
    cases rr
    cases r
    obtain ⟨its, rv, p', hz⟩ := I1.tuple hq
    refine call_enumerate_tuple p' fun h' he hit hsz hk => wpAny_pyIter_enum he ?_
    have I2 : Inv X pins σ H1 { s1 with heap := h' } := I1.kept (t' := s1.toks) hk
    refine ⟨s1.heap.objs.size + 1, [s1.heap.objs.size + 1, s1.heap.objs.size], _, _, H1, rfl, I2, turn_enumT a (s1.heap.objs.size + 1) s1.heap.objs.size, ⟨⟨.none, he⟩, hit, Nat.succ_ne_self _⟩, fun b hb => ?_, q⟩
    have e' : b = s1.heap.objs.size + 1 ∨ b = s1.heap.objs.size := by simpa using hb
    have hle : s1.heap.objs.size ≤ b := by
      rcases e' with z | z
      · rw [z]; exact Nat.le_add_right _ _
      · rw [z]; exact Nat.le_refl _
    exact I1.fpOk hle (I1.hok.fresh hle)
theorem gx_enum {α : Type} {K : PySem.W.Frag} {a : Addr} {xs : List V} {g : TG} {tt : TT} {te : TE} {vs : List Nat} {σ0 : L2.St} {End : α → Hp → Prop} {Yd : α → V → Hp → (α → Hp → Prop) → Prop} {a0 : α} {H0 : Hp} (Pv : Nat → α → Hp → Prop) (h0 : Pv 0 a0 H0)
    (hl : ∀ i c H, i ≤ xs.length → Pv i c H → SqT K H a xs)
    (hs : ∀ i x T c H, xs[i]? = some x → H T = none → Pv i c H → g (.ref T) σ0 (upd H T (.tup [.int (i : Nat), x])) fun σ2 H2 => wipe σ2 vs = σ0 ∧ tt σ2 H2 fun b H3 => if b = true then te σ2 H3 fun y H4 => Yd c y H4 (Pv (i + 1)) else Pv (i + 1) c H3) (hd : ∀ c H, Pv xs.length c H → End c H) :
    ∃ W : Nat → Nat → α → Hp → Prop, (∃ m, W 0 m a0 H0) ∧ tGx (IteT K a) g tt te σ0 vs End Yd W := by
  refine ⟨fun i m c H => m = xs.length - i ∧ i ≤ xs.length ∧ Pv i c H, ⟨xs.length, rfl, Nat.zero_le _, h0⟩, ?_⟩
  rintro i m c H ⟨rfl, hi, p⟩
  by_cases hlt : i < xs.length
  · have hx : xs[i]? = some xs[i] := List.getElem?_eq_getElem hlt
    refine .inr ⟨⟨xs, xs[i], hl i c H hi p, hx⟩, Pv (i + 1), fun c' H' p' => ⟨xs.length - (i + 1), by omega, rfl, hlt, p'⟩, fun x H' y => ?_⟩
    obtain ⟨T, x1, rfl, nT, rfl, e1⟩ := y
    exact hs i x1 T c H (e1 xs (hl i c _ hi p)) nT p
  · have e : i = xs.length := by omega
    subst e
    exact .inl ⟨⟨xs, hl _ c H hi p, rfl⟩, hd c H p⟩
theorem gx_str {α : Type} {z : Str} {g : TG} {tt : TT} {te : TE} {vs : List Nat} {σ0 : L2.St} {End : α → Hp → Prop} {Yd : α → V → Hp → (α → Hp → Prop) → Prop} {a0 : α} {H0 : Hp} (Pv : Nat → α → Hp → Prop) (h0 : Pv 0 a0 H0)
    (hs : ∀ i x c H, z.cps[i]? = some x → Pv i c H → g (.str ⟨#[x]⟩) σ0 H fun σ2 H2 => wipe σ2 vs = σ0 ∧ tt σ2 H2 fun b H3 => if b = true then te σ2 H3 fun y H4 => Yd c y H4 (Pv (i + 1)) else Pv (i + 1) c H3) (hd : ∀ c H, Pv z.cps.size c H → End c H) :
    ∃ W : Nat → Nat → α → Hp → Prop, (∃ m, W 0 m a0 H0) ∧ tGx (Its z) g tt te σ0 vs End Yd W := by
  refine ⟨fun i m c H => m = z.cps.size - i ∧ i ≤ z.cps.size ∧ Pv i c H, ⟨z.cps.size, rfl, Nat.zero_le _, h0⟩, ?_⟩
  rintro i m c H ⟨rfl, hi, p⟩
  by_cases hlt : i < z.cps.size
  · refine .inr ⟨hlt, Pv (i + 1), fun c' H' p' => ⟨z.cps.size - (i + 1), by omega, rfl, hlt, p'⟩, fun x H' y => ?_⟩
    obtain ⟨rfl, ch, hc, rfl⟩ := y
    exact hs i ch c _ hc p
  · have e : i = z.cps.size := by omega
    subst e
    exact .inl ⟨Nat.le_refl _, hd c H p⟩

/-! ### nets, and the words of nets -/
abbrev Gt := List Bool × List Nat
def gD (g : Gt) : PyData := .tuple [.str (tabOf g.1), .tuple ((g.2.map Int.ofNat).map PyData.int)]
def netD (many : Int) (gs : List Gt) : PyData := .tuple [.int many, .tuple (gs.map gD)]
def rowD (r : List Int) : PyData := .tuple (r.map PyData.int)
def chD (a b : List Int) : PyData := .tuple [rowD a, rowD b]
def GtOk (n : Nat) (g : Gt) : Prop := g.1.length = 2 ^ g.2.length ∧ 1 ≤ g.2.length ∧ g.2.length ≤ 3 ∧ ∀ i ∈ g.2, i < n
def NetOk (n : Nat) (gs : List Gt) : Prop := ∀ k g, gs[k]? = some g → GtOk (n + k) g
def Row01 (r : List Int) : Prop := ∀ x ∈ r, x = 0 ∨ x = 1
mutual
theorem Tk.gr {H H' : Hp} (s : Gr H H') : ∀ {v : V} {d : PyData}, Tk H v d → Tk H' v d
  | _, _, .bl b => .bl b
  | _, _, .int i => .int i
  | _, _, .str x => .str x
  | _, _, .lst h t => .lst (s.lst h) (t.gr s)
  | _, _, .tup h t => .tup (s.tup h) (t.gr s)
theorem TkAll.gr {H H' : Hp} (s : Gr H H') : ∀ {vs : List V} {ds : List PyData}, TkAll H vs ds → TkAll H' vs ds
  | _, _, .nil => .nil
  | _, _, .cons h t => .cons (h.gr s) (t.gr s)
end
theorem Tk.row_inv {H : Hp} {v : V} {r : List Int} (h : Tk H v (rowD r)) : ∃ a, v = .ref a ∧ H a = some (.tup (r.map V.int)) := by
  obtain ⟨a, xs, rfl, ha, t⟩ := h.tup_inv
  rw [t.int_inv] at ha
  exact ⟨a, rfl, ha⟩
theorem Tk.ch_inv {H : Hp} {v : V} {a b : List Int} (h : Tk H v (chD a b)) : ∃ c ra rb, v = .ref c ∧ H c = some (.tup [.ref ra, .ref rb]) ∧ H ra = some (.tup (a.map V.int)) ∧ H rb = some (.tup (b.map V.int)) := by
  obtain ⟨c, xs, rfl, hc, t⟩ := h.tup_inv
  cases t with
  | cons h1 t => cases t with
    | cons h2 t =>
      cases t
      obtain ⟨ra, rfl, ha⟩ := h1.row_inv
      obtain ⟨rb, rfl, hb⟩ := h2.row_inv
      exact ⟨c, ra, rb, rfl, hc, ha, hb⟩
theorem Tk.net_inv {H : Hp} {v : V} {m : Int} {gs : List Gt} (h : Tk H v (netD m gs)) : ∃ n g xs, v = .ref n ∧ H n = some (.tup [.int m, .ref g]) ∧ H g = some (.tup xs) ∧ TkAll H xs (gs.map gD) := by
  obtain ⟨n, xs, rfl, hn, t⟩ := h.tup_inv
  cases t with
  | cons h1 t => cases t with
    | cons h2 t =>
      cases t
      cases h1
      obtain ⟨g, ys, rfl, hg, t2⟩ := h2.tup_inv
      exact ⟨n, g, ys, rfl, hn, hg, t2⟩
theorem Tk.gt_inv {H : Hp} {v : V} {g : Gt} (h : Tk H v (gD g)) : ∃ a i, v = .ref a ∧ H a = some (.tup [.str (tabOf g.1), .ref i]) ∧ H i = some (.tup ((g.2.map Int.ofNat).map V.int)) := by
  obtain ⟨a, xs, rfl, ha, t⟩ := h.tup_inv
  cases t with
  | cons h1 t => cases t with
    | cons h2 t =>
      cases t
      cases h1
      obtain ⟨i, rfl, hi⟩ := (show Tk H _ (rowD (g.2.map Int.ofNat)) from h2).row_inv
      exact ⟨a, i, rfl, ha, hi⟩
theorem TkAll.at {H : Hp} {α : Type} {f : α → PyData} {xs : List V} {ds : List α} (t : TkAll H xs (ds.map f)) {j : Nat} {v : V} (h : xs[j]? = some v) : ∃ x, ds[j]? = some x ∧ Tk H v (f x) := by
  obtain ⟨dx, hdx, tx⟩ := t.get h
  rw [List.getElem?_map] at hdx
  cases hz : ds[j]? with
  | none => rw [hz] at hdx; cases hdx
  | some x =>
    rw [hz] at hdx
    cases Option.some.inj hdx
    exact ⟨x, rfl, tx⟩
theorem TkAll.at' {H : Hp} {α : Type} {f : α → PyData} {xs : List V} {ds : List α} (t : TkAll H xs (ds.map f)) {j : Nat} {x : α} (h : ds[j]? = some x) : ∃ v, xs[j]? = some v ∧ Tk H v (f x) := by
  have hl := t.length
  rw [List.length_map] at hl
  have hj := (List.getElem?_eq_some_iff.mp h).1
  obtain ⟨y, hy, ty⟩ := t.at (List.getElem?_eq_getElem (l := xs) (i := j) (by omega))
  cases Option.some.inj (h.symm.trans hy)
  exact ⟨_, List.getElem?_eq_getElem _, ty⟩
theorem grow_upd {H H' : Hp} {p : Addr} {o : HO} (g : Gr H H') (n : H' p = none) : Gr H (upd H' p o) := g.trans (Gr.none n)
/-- no table, no older list: only the list at D is written -/
def GrD (D : Addr) (H H' : Hp) : Prop := Gr H (hd1 D H')
theorem GrD.gr {D : Addr} {H H' : Hp} (g : GrD D H H') : Gr H H' := g.trans (Gr.of hd1_le)
theorem TabG_hd1 {D P : Addr} {H : Hp} (h : GxR.TabG H P) (n : D ≠ P) : GxR.TabG (hd1 D H) P := by
  obtain ⟨ps, e, t⟩ := h
  exact ⟨ps, by rw [hd1_at (Ne.symm n)]; exact e, t⟩
theorem GrD.new {D : Addr} {H : Hp} {o : HO} (n : H D = none) : GrD D H (upd H D o) := Gr.of (hd1_of (same_upd n) n)
theorem hd1_gr {D : Addr} {H H' : Hp} (g : Gr H H') (hD : ∀ P, GxR.TabG H P → D ≠ P) : Gr (hd1 D H) (hd1 D H') := by
  refine ⟨fun b o n e => ?_, fun b t => ?_⟩
  · have hb : b ≠ D := fun z => by
      unfold hd1 at e
      rw [if_pos z] at e; cases e
    rw [hd1_at hb] at e ⊢
    exact g.1 b o n e
  · obtain ⟨ps, e, t⟩ := t
    have e' := hd1_le _ _ e
    exact TabG_hd1 (g.2 b ⟨ps, e', t⟩) (hD b ⟨ps, e', t⟩)
theorem GrD.then {D : Addr} {H H1 H2 : Hp} {xs : List V} (a : GrD D H H1) (hD : H1 D = some (.lst xs)) (b : Gr H1 H2) : GrD D H H2 := a.trans (hd1_gr b fun P ⟨ps, e, _⟩ z => by
  rw [← z, hD] at e
  cases e)
theorem GrD.set {D : Addr} {H H1 : Hp} {o : HO} (a : GrD D H H1) : GrD D H (upd H1 D o) := a.trans (Gr.of hd1_upd)

end Gk

set_option Elab.async false
set_option linter.all false
set_option maxRecDepth 100000
set_option maxHeartbeats 1000000
namespace Gk
open PySem PySem.Spec PyProof.Rows L2
/-! ### data of tuples alone: no list that is written can harm it -/
mutual
def noL : PyData → Bool
  | .list _ => false
  | .tuple ds => noLs ds
  | _ => true
def noLs : List PyData → Bool
  | [] => true
  | d :: r => noL d && noLs r
end
def Ts (H H' : Hp) : Prop := ∀ b xs, H b = some (HO.tup xs) → H' b = some (.tup xs)
theorem Ts.refl {H : Hp} : Ts H H := fun _ _ e => e
theorem Ts.trans {H H1 H2 : Hp} (a : Ts H H1) (b : Ts H1 H2) : Ts H H2 := fun c xs e => b c xs (a c xs e)
theorem Ts.same {H H' : Hp} (s : Same H H') : Ts H H' := fun b xs e => s _ _ e
theorem Ts.gr {H H' : Hp} (s : Gr H H') : Ts H H' := fun b xs e => s.tup e
theorem Ts.new {H : Hp} {p : Addr} {o : HO} (h : H p = none) : Ts H (upd H p o) := Ts.same (same_upd h)
theorem Ts.set {H : Hp} {p : Addr} {xs ys : List V} (h : H p = some (.lst xs)) : Ts H (upd H p (.lst ys)) := fun b zs e => by
  rw [upd_ne (ne_of e h (by intro z; cases z))]
  exact e
mutual
theorem Tk.ts {H H' : Hp} (s : Ts H H') : ∀ {v : V} {d : PyData}, Tk H v d → noL d = true → Tk H' v d
  | _, _, .bl b, _ => .bl b
  | _, _, .int i, _ => .int i
  | _, _, .str x, _ => .str x
  | _, _, .lst h t, n => by cases n
  | _, _, .tup h t, n => .tup (s _ _ h) (t.ts s n)
theorem TkAll.ts {H H' : Hp} (s : Ts H H') : ∀ {vs : List V} {ds : List PyData}, TkAll H vs ds → noLs ds = true → TkAll H' vs ds
  | _, _, .nil, _ => .nil
  | _, _, .cons (d := d) (ds := ds) h t, n => by
    have n' : noL d = true ∧ noLs ds = true := Bool.and_eq_true_iff.mp n
    exact .cons (h.ts s n'.1) (t.ts s n'.2)
end
theorem noLs_map {α : Type} {f : α → PyData} (h : ∀ x, noL (f x) = true) : ∀ l : List α, noLs (l.map f) = true
  | [] => rfl
  | x :: r => by
    show (noL (f x) && noLs (r.map f)) = true
    rw [h x, noLs_map h r]
    rfl
theorem noL_row (r : List Int) : noL (rowD r) = true := noLs_map (fun _ => rfl) r
theorem noL_gate (g : Gt) : noL (gD g) = true := by
  show (true && (noLs ((g.2.map Int.ofNat).map PyData.int) && true)) = true
  rw [noLs_map (fun _ => rfl)]
  rfl
theorem noL_gates (gs : List Gt) : noLs (gs.map gD) = true := noLs_map noL_gate gs
theorem noL_net (m : Int) (gs : List Gt) : noL (netD m gs) = true := by
  show (true && (noLs (gs.map gD) && true)) = true
  rw [noL_gates]
  rfl
theorem noL_ch (a b : List Int) : noL (chD a b) = true := by
  show (noL (rowD a) && (noL (rowD b) && true)) = true
  rw [noL_row, noL_row]
  rfl

section
variable {P : Program} {w : World} {K : PySem.W.Frag} {mg : Str → Option Value} {base : Heap}
/-! ### the deck whose cells are taken from behind -/
def DeckC (H : Hp) (d l : Addr) (n : Int) : Prop := d ≠ l ∧ ∃ (cs : List Int) (y z : Int), H d = some (.lst [.ref l, .int y, .int z]) ∧ H l = some (.lst (cs.map V.int)) ∧ cs.length ≤ 63 ∧ 0 ≤ z ∧ z ≤ n
theorem DeckC.mono {H : Hp} {d l : Addr} {n m : Int} (D : DeckC H d l n) (h : n ≤ m) : DeckC H d l m := by
  obtain ⟨ne, cs, z, y, h1, h2, h3, h4, h5⟩ := D
  exact ⟨ne, cs, z, y, h1, h2, h3, h4, Int.le_trans h5 h⟩
theorem DeckC.same {H H' : Hp} {d l : Addr} {n : Int} (D : DeckC H d l n) (s : Same H H') : DeckC H' d l n := by
  obtain ⟨ne, cs, z, y, hd, hl, r⟩ := D
  exact ⟨ne, cs, z, y, s _ _ hd, s _ _ hl, r⟩
theorem DeckC.gr {H H' : Hp} {d l : Addr} {n : Int} (D : DeckC H d l n) (s : Gr H H') : DeckC H' d l n := by
  obtain ⟨ne, cs, z, y, hd, hl, r⟩ := D
  exact ⟨ne, cs, z, y, s.lst hd, s.lst hl, r⟩
theorem DeckC.upd {H : Hp} {d l p : Addr} {n : Int} {o : HO} (D : DeckC H d l n) (h1 : p ≠ d) (h2 : p ≠ l) : DeckC (upd H p o) d l n := by
  obtain ⟨ne, cs, z, y, hd, hl, r⟩ := D
  exact ⟨ne, cs, z, y, by rw [upd_ne h1.symm]; exact hd, by rw [upd_ne h2.symm]; exact hl, r⟩
theorem DeckC.off {H : Hp} {d l p : Addr} {n : Int} (D : DeckC H d l n) (h : H p = none) : p ≠ d ∧ p ≠ l := by
  obtain ⟨ne, cs, z, y, hd, hl, r⟩ := D
  exact ⟨(ne_of_none hd h).symm, (ne_of_none hl h).symm⟩
theorem Ts.frC {H H' : Hp} {d l : Addr} {n : Int} (D : DeckC H d l n) (f : Fr d l H H') : Ts H H' := fun b xs e => by
  obtain ⟨ne, cs, z, y, hd, hl, r⟩ := D
  exact f b _ (ne_of e hd (by intro z; cases z)) (ne_of e hl (by intro z; cases z)) e
theorem Fr.upd {d l p : Addr} {H H' : Hp} {o : HO} (f : Fr d l H H') (h : H p = none) : Fr d l H (upd H' p o) := fun b u h1 h2 e => by
  rw [upd_ne (ne_of_none e h)]
  exact f b u h1 h2 e
theorem tab_frC {H H' : Hp} {d l P : Addr} {n : Int} (D : DeckC H d l n) (f : Fr d l H H') (t : GxR.TabG H P) : GxR.TabG H' P := by
  obtain ⟨ps, e, tr⟩ := t
  obtain ⟨ne, cs, z, y, hd, hl, r⟩ := D
  exact ⟨ps, f _ _ (ne_of e hd (by intro z; cases z)) (ne_of e hl (by intro z; cases z)) e, tr⟩
theorem none_of_frC {d l p : Addr} {H H' : Hp} {n : Int} (f : Fr d l H H') (D : DeckC H' d l n) (h : H' p = none) : H p = none := by
  have o := D.off h
  cases z : H p with
  | none => rfl
  | some u => rw [f _ _ o.1 o.2 z] at h; cases h
theorem cut63 {ns : List Int} (h : ns.length ≤ 63) : cutV (ns.map V.int) none (some 63) = ns.map V.int := by
  unfold cutV
  have e : HT.sIx (ns.map V.int).length (ns.map V.int).length (some 63) = min 63 (ns.map V.int).length := HT.sIx_nat _ _ 63
  rw [HT.sIx_none, e, List.length_map, List.drop_zero]
  apply List.take_of_length_le
  rw [List.length_map]
  omega
theorem sq_same {K : PySem.W.Frag} {H H' : Hp} {a : Addr} {xs : List V} (s : Same H H') (h : SqL K H a xs) : SqL K H' a xs := h.imp (fun r => r.imp (fun e => s _ _ e) (fun ⟨ob, e⟩ => ⟨ob, s _ _ e⟩)) id
def sp_deck (K : PySem.W.Frag) : Sp := fun vs H Q _ => ∃ (a : Addr) (ns : List Int), vs = [.ref a] ∧ SqL K H a (ns.map V.int) ∧ ns.length ≤ 63 ∧ ∀ H' d l, Same H H' → DeckC H' d l 0 → Q (.ref d) H'
theorem ok_deck (T : Tx K mg) : FnOk P w K mg base CX0 1 T.f_deck T.fd_deck ["_law_script"] (sp_deck K) := by
  refine T.F_deck.ok sc_deck (fun vs H Q E h => ?_) (fun cdv A outer s H vs Q E hr h => ?_)
  · obtain ⟨a, ns, rfl, _⟩ := h
    rfl
  · obtain ⟨a, ns, rfl, hS, hlen, q⟩ := h
    refine ⟨_, (pss_one (ps_ret (pe_lst (pa_cons (RevL.pe_lstRev rfl (by rfl) T.m_list (by rfl) T.m_reversed (pe_slice sl_list (pv 0) po_none (po_some pe_int))) (pa_cons (pe_op op_add (pe_callB (cr_sum rfl) (by rfl) T.m_sum (by decide +kernel) (pa_cons (pe_slice sl_list (pv 0) po_none (po_some pe_int)) pa_nil)) (pe_callB call_len_seq (by rfl) T.m_len PySem.boot_len (pa_cons (pe_slice sl_list (pv 0) po_none (po_some pe_int)) pa_nil))) (pa_cons pe_int pa_nil)))))), ?_⟩
    refine ⟨.ref a, rfl, 63, rfl, a, _, rfl, hS, fun c1 n1 => ?_⟩
    rw [cut63 hlen]
    have s1 := same_upd (o := HO.lst (ns.map V.int)) n1
    refine ⟨c1, _, rfl, SqL.of upd_same, fun l nl => ?_⟩
    have s2 := same_upd (o := HO.lst (ns.map V.int).reverse) nl
    refine ⟨.ref a, rfl, 63, rfl, a, _, rfl, sq_same (s1.trans s2) hS, fun c3 n3 => ?_⟩
    rw [cut63 hlen]
    have s3 := same_upd (o := HO.lst (ns.map V.int)) n3
    refine ⟨c3, ns, rfl, SqL.of upd_same, .ref a, rfl, 63, rfl, a, _, rfl, sq_same ((s1.trans s2).trans s3) hS, fun c4 n4 => ?_⟩
    rw [cut63 hlen]
    have s4 := same_upd (o := HO.lst (ns.map V.int)) n4
    refine ⟨c4, _, rfl, .inl (SqL.of upd_same), _, _, rfl, rfl, sl3, fun d nd => ?_⟩
    have s5 := same_upd (o := HO.lst [V.ref l, V.int (ns.sum + ((ns.map V.int).length : Nat)), V.int 0]) nd
    have hl4 := s4 _ _ (s3 _ _ (show (upd (upd H c1 (.lst (ns.map V.int))) l (.lst (ns.map V.int).reverse)) l = _ from upd_same))
    refine q _ d l ((((s1.trans s2).trans s3).trans s4).trans s5) ⟨(ne_of_none hl4 nd).symm, ns.reverse, _, 0, upd_same, ?_, by rw [List.length_reverse]; exact hlen, Int.le_refl _, Int.le_refl _⟩
    rw [List.map_reverse]
    exact s5 _ _ hl4
def sp_mixed (K : PySem.W.Frag) : Sp := fun vs H Q _ => ∃ c k : Int, vs = [.int c, .int k] ∧ 0 ≤ k ∧ k < 2000000000 ∧ ∀ v, 0 ≤ v → Q (.int v) H
theorem ok_mixed (T : Tx K mg) : FnOk P w K mg base CX0 1 T.f_mixed T.fd_mixed ["_law_cell", "_law_k"] (sp_mixed K) := by
  refine T.F_mixed.ok sc_mixed (fun vs H Q E h => ?_) (fun cdv A outer s H vs Q E hr h => ?_)
  · obtain ⟨c, k, rfl, _⟩ := h
    rfl
  · obtain ⟨c, k, rfl, k0, k1, q⟩ := h
    refine ⟨_, (pss_cons (ps_set (i := 2) sc_mixed.nd rfl (by first | exact .inl rfl | exact .inr rfl) (pe_op op_mod (pe_op op_mul (pe_op op_add (pe_op op_add (pe_op op_mod (pv 0) pe_int) (pe_op op_mul pe_int (pv 1))) pe_int) pe_int) pe_int)) (pss_cons (ps_set (i := 2) sc_mixed.nd rfl (by first | exact .inl rfl | exact .inr rfl) (pe_op op_mod (pe_op op_add (pe_op op_add (pe_op op_mul (pv 2) (pv 2)) (pe_op op_mul pe_int (pv 1))) pe_int) pe_int)) (pss_one (ps_ret (pe_op op_add (pe_op op_mul (pv 2) pe_int) (pe_op op_mod (pe_op op_add (pe_op op_add (pe_op op_mul (pv 2) (pv 2)) (pe_op op_mul pe_int (pv 2))) (pv 1)) pe_int)))))), ?_⟩
    refine ⟨.int c, rfl, _, _, rfl, rfl, p29, .int k, rfl, 7919, k, rfl, rfl, .inl ⟨by decide, by decide⟩, _, _, rfl, rfl, _, _, rfl, rfl, _, 48271, rfl, rfl, .inr ⟨by decide, by decide⟩, _, _, rfl, rfl, p47, ?_⟩
    dsimp only
    have v0 := Int.emod_nonneg ((c % 2147483629 + 7919 * k + 1) * 48271) (show (2147483647 : Int) ≠ 0 by decide)
    have v1 := Int.emod_lt_of_pos ((c % 2147483629 + 7919 * k + 1) * 48271) (show (0 : Int) < 2147483647 by decide)
    revert v0 v1
    generalize ((c % 2147483629 + 7919 * k + 1) * 48271) % 2147483647 = v
    intro v0 v1
    refine ⟨.int v, rfl, .int v, rfl, v, v, rfl, rfl, .inl ⟨by omega, by omega⟩, .int k, rfl, 69621, k, rfl, rfl, .inl ⟨by decide, by decide⟩, _, _, rfl, rfl, _, _, rfl, rfl, _, _, rfl, rfl, p87, ?_⟩
    dsimp only
    have u0 := Int.emod_nonneg (v * v + 69621 * k + 7) (show (2147483587 : Int) ≠ 0 by decide)
    have u1 := Int.emod_lt_of_pos (v * v + 69621 * k + 7) (show (0 : Int) < 2147483587 by decide)
    revert u0 u1
    generalize (v * v + 69621 * k + 7) % 2147483587 = u
    intro u0 u1
    refine ⟨.int u, rfl, u, 2147483563, rfl, rfl, .inl ⟨by omega, by omega⟩, .int u, rfl, .int u, rfl, u, u, rfl, rfl, .inl ⟨by omega, by omega⟩, .int u, rfl, 16807, u, rfl, rfl, .inl ⟨by decide, by decide⟩, _, _, rfl, rfl, .int k, rfl, _, _, rfl, rfl, _, _, rfl, rfl, (show (0 : Int) < 2147483563 by decide), _, _, rfl, rfl, ?_⟩
    refine q _ ?_
    have a := Int.emod_nonneg (u * u + 16807 * u + k) (show (2147483563 : Int) ≠ 0 by decide)
    have b : 0 ≤ u * 2147483563 := by omega
    omega
def sp_take (K : PySem.W.Frag) : Sp := fun vs H Q _ => ∃ (d l : Addr) (m n : Int), vs = [.ref d, .int m] ∧ DeckC H d l n ∧ n < 1000000000 ∧ 0 < m ∧ m < 1073741824 ∧ ∀ H' v, DeckC H' d l (n + 1) → Fr d l H H' → 0 ≤ v → v < m → Q (.int v) H'
theorem ok_take (T : Tx K mg) : FnOk P w K mg base CX0 2 T.f_take T.fd_take ["_law_deck_here", "_law_most"] (sp_take K) := by
  refine T.F_take.ok sc_take (fun vs H Q E h => ?_) (fun cdv A outer s H vs Q E hr h => ?_)
  · obtain ⟨d, l, m, n, rfl, _⟩ := h
    rfl
  · obtain ⟨d, l, m, n, rfl, D, hn, hm0, hm1, q⟩ := h
    obtain ⟨ne, cs, y, z, hd, hl, hcs, hz0, hz1⟩ := D
    refine ⟨_, (pss_cons (ps_set (i := 2) sc_take.nd rfl (by first | exact .inl rfl | exact .inr rfl) (pe_ix ix_list (pv 0) pe_int (fun _ _ => rfl))) (pss_cons (ps_asg (pe_op op_add (pe_ix ix_list (pv 0) pe_int (fun _ _ => rfl)) pe_int) (pg_sub (pv 0) pe_int set_list)) (pss_cons (ps_if (pt_cmpR (op_eqD hr.units) (pv 2) (pe_lst pa_nil) (nomark _)) (pss_one (ps_ret (pe_op op_mod (pe_call (ok_mixed T) (hr.mono (by decide)) (by rfl) T.g_mixed T.F_mixed.kp T.b_mixed .nil pass0 (pa_cons (pe_ix ix_list (pv 0) pe_int (fun _ _ => rfl)) (pa_cons (pe_ix ix_list (pv 0) pe_int (fun _ _ => rfl)) pa_nil))) (pv 1)))) pss_nil) (pss_cons (ps_set (i := 3) sc_take.nd rfl (by first | exact .inl rfl | exact .inr rfl) (pe_bm0 PySem.F.plainAttrs_list PySem.F.slot_list_pop PySem.F.type_list_pop mt_pop (pv 2))) (pss_cons (ps_if (pt_cmpR op_lt (pv 3) (pe_op op_pow pe_int pe_int) (nomark _)) (pss_one (ps_ret (pe_op op_mod (pe_call (ok_mixed T) (hr.mono (by decide)) (by rfl) T.g_mixed T.F_mixed.kp T.b_mixed .nil pass0 (pa_cons (pv 3) (pa_cons (pe_ix ix_list (pv 0) pe_int (fun _ _ => rfl)) pa_nil))) (pv 1)))) pss_nil) (C8.pss_cut (ps_if (pt_cmpR op_gt (pe_op op_fdiv (pv 3) (pv 1)) pe_int (nomark _)) (pss_one (ps_expr (pe_bm PySem.F.plainAttrs_list PySem.F.slot_list_append PySem.F.type_list_append mt_append (pv 2) (pa_cons (pe_op op_fdiv (pv 3) (pv 1)) pa_nil)))) pss_nil) (pss_one (ps_ret (pe_op op_mod (pv 3) (pv 1)))))))))), ?_⟩
    refine ⟨.ref d, rfl, d, _, 0, .ref l, rfl, rfl, SqL.of hd, rfl, ?_⟩
    refine ⟨.ref d, rfl, d, _, 2, .int z, rfl, rfl, SqL.of hd, rfl, z, 1, rfl, rfl, .ref d, rfl, d, _, 2, 2, rfl, rfl, hd, rfl, ?_⟩
    have hd1 : (upd H d (.lst [.ref l, .int y, .int (z + 1)])) d = some (.lst [.ref l, .int y, .int (z + 1)]) := upd_same
    have hl1 : (upd H d (.lst [.ref l, .int y, .int (z + 1)])) l = some (.lst (cs.map V.int)) := by rw [upd_ne ne.symm]; exact hl
    have fr1 : Fr d l H (upd H d (.lst [.ref l, .int y, .int (z + 1)])) := Fr.d
    have hz2 : 0 ≤ z + 1 := by omega
    have hz3 : z + 1 ≤ n + 1 := by omega
    have hz4 : z + 1 < 2000000000 := by omega
    show tSeq _ _ _ _ (upd H d (.lst [.ref l, .int y, .int (z + 1)]))
    revert hd1 hl1 fr1 hz2 hz3 hz4
    generalize upd H d (.lst [.ref l, .int y, .int (z + 1)]) = H1
    generalize z + 1 = z'
    intro hd1 hl1 fr1 hz2 hz3 hz4
    refine ⟨.ref l, rfl, Nat.zero_le _, fun p np => ?_⟩
    have fr2 : Fr d l H (upd H1 p (.lst [])) := fr1.trans (Fr.new np)
    have hd2 : (upd H1 p (.lst [])) d = some (.lst [.ref l, .int y, .int z']) := same_upd np _ _ hd1
    have hl2 : (upd H1 p (.lst [])) l = some (.lst (cs.map V.int)) := same_upd np _ _ hl1
    refine ⟨.list (cs.map .int), .list [], .lst (SqL.of hl2) (dpInts cs), .lst (SqL.of upd_same) .nil, shInts cs, rfl, _, rfl, ?_⟩
    revert fr2 hd2 hl2
    generalize upd H1 p (.lst []) = H2
    intro fr2 hd2 hl2
    by_cases hc : cs = []
    · subst hc
      refine iteT ?_
      refine ⟨.ref d, rfl, d, _, 1, .int y, rfl, rfl, SqL.of hd2, rfl, .ref d, rfl, d, _, 2, .int z', rfl, rfl, SqL.of hd2, rfl, y, z', rfl, hz2, hz4, fun v v0 => ⟨.int m, rfl, _, _, rfl, rfl, hm0, ?_⟩⟩
      exact q _ _ ⟨ne, [], y, z', hd2, hl2, hcs, hz2, hz3⟩ fr2 (Int.emod_nonneg _ (by omega)) (Int.emod_lt_of_pos _ hm0)
    · obtain ⟨r, c, rfl⟩ : ∃ r c, cs = r ++ [c] := ⟨cs.dropLast, cs.getLast hc, (List.dropLast_concat_getLast hc).symm⟩
      have en : PyData.eqv (.list ((r ++ [c]).map PyData.int)) (.list []) = false := by
        cases r <;> rfl
      rw [en]
      refine iteF ?_
      have la : ((r ++ [c]).map V.int)[((r ++ [c]).map V.int).length - 1]? = some (.int c) := by simp
      refine ⟨.ref l, rfl, .inl ⟨rfl, _, SqL.of hl2⟩, l, _, .int c, rfl, rfl, hl2, la, ?_⟩
      have dl : ((r ++ [c]).map V.int).dropLast = r.map V.int := by rw [List.map_append]; exact List.dropLast_concat
      rw [dl]
      have hd3 : (upd H2 l (.lst (r.map V.int))) d = some (.lst [.ref l, .int y, .int z']) := by rw [upd_ne ne]; exact hd2
      have hl3 : (upd H2 l (.lst (r.map V.int))) l = some (.lst (r.map V.int)) := upd_same
      have fr3 : Fr d l H (upd H2 l (.lst (r.map V.int))) := fr2.trans Fr.l
      have hr63 : r.length + 1 ≤ 63 := by rw [List.length_append] at hcs; exact hcs
      revert hd3 hl3 fr3
      generalize upd H2 l (.lst (r.map V.int)) = H3
      intro hd3 hl3 fr3
      refine ⟨.int c, rfl, _, _, rfl, rfl, ⟨by decide, by decide, by decide⟩, _, _, rfl, rfl, _, rfl, ite2 (fun _ => ?_) (fun _ => ?_)⟩
      · refine ⟨.int c, rfl, .ref d, rfl, d, _, 2, .int z', rfl, rfl, SqL.of hd3, rfl, c, z', rfl, hz2, hz4, fun v v0 => ⟨.int m, rfl, _, _, rfl, rfl, hm0, ?_⟩⟩
        exact q _ _ ⟨ne, r, y, z', hd3, hl3, by omega, hz2, hz3⟩ fr3 (Int.emod_nonneg _ (by omega)) (Int.emod_lt_of_pos _ hm0)
      · refine ⟨fun σ H' => σ = [some (.ref d), some (.int m), some (.ref l), some (.int c)] ∧ ∃ cs : List Int, cs.length ≤ 63 ∧ H' d = some (.lst [.ref l, .int y, .int z']) ∧ H' l = some (.lst (cs.map V.int)) ∧ Fr d l H H', ?_, ?_⟩
        · refine ⟨.int c, rfl, .int m, rfl, _, _, rfl, rfl, ⟨hm0, hm1⟩, _, _, rfl, rfl, _, rfl, ite2 (fun _ => ?_) (fun _ => ?_)⟩
          · refine ⟨.ref l, rfl, .inl ⟨rfl, _, SqL.of hl3⟩, .int c, rfl, .int m, rfl, _, _, rfl, rfl, ⟨hm0, hm1⟩, l, _, _, rfl, rfl, hl3, ?_, ?_⟩
            · rw [List.length_map]
              exact Nat.lt_of_lt_of_le (show r.length < 64 by omega) (by decide)
            · refine ⟨rfl, r ++ [c / m], by rw [List.length_append]; exact hr63, by rw [upd_ne ne]; exact hd3, ?_, fr3.trans Fr.l⟩
              rw [upd_same, List.map_append]
              rfl
          · exact ⟨rfl, r, by omega, hd3, hl3, fr3⟩
        · rintro σ H4 ⟨rfl, cs4, l4, hd4, hl4, fr4⟩
          refine ⟨.int c, rfl, .int m, rfl, _, _, rfl, rfl, hm0, ?_⟩
          exact q _ _ ⟨ne, cs4, y, z', hd4, hl4, l4, hz2, hz3⟩ fr4 (Int.emod_nonneg _ (by omega)) (Int.emod_lt_of_pos _ hm0)

end
end Gk

set_option Elab.async false
set_option linter.all false
set_option maxRecDepth 100000
set_option maxHeartbeats 1000000
namespace Gk
open PySem PySem.Spec PyProof.Rows L2
section
variable {P : Program} {w : World} {K : PySem.W.Frag} {mg : Str → Option Value} {base : Heap}
/-! ### drawn gates and nets -/
def nV (ws : List Nat) : List V := (ws.map Int.ofNat).map V.int
theorem nV_len (ws : List Nat) : (nV ws).length = ws.length := by unfold nV; rw [List.length_map, List.length_map]
theorem nV_app (a b : List Nat) : nV (a ++ b) = nV a ++ nV b := by unfold nV; rw [List.map_append, List.map_append]
theorem gate_new {H : Hp} {bs : List Bool} {ws : List Nat} {ti tt : Addr} (nti : H ti = none) (ntt : (upd H ti (.tup (nV ws))) tt = none) : Tk (upd (upd H ti (.tup (nV ws))) tt (.tup [.str (tabOf bs), .ref ti])) (.ref tt) (gD (bs, ws)) :=
  .tup upd_same (.cons (.str _) (.cons (.tup (same_upd ntt _ _ upd_same) (TkAll.ints _)) .nil))
def sg (b : Bool) : Str := SX.S [if b = true then 49 else 48]
theorem joinL_nil : ∀ l : List (List Nat), TL.joinL [] l = l.flatten
  | [] => rfl
  | [p] => by simp [TL.joinL]
  | p :: q :: r => by
    show p ++ ([] ++ TL.joinL [] (q :: r)) = _
    rw [joinL_nil (q :: r)]
    rfl
theorem join_sg (bs : List Bool) : Txt.join (Str.ofString "") (bs.map sg) = tabOf bs := by
  have e : bs.map sg = (bs.map fun b => [if b = true then 49 else 48]).map SX.S := by rw [List.map_map]; rfl
  have z : Str.ofString "" = SX.S [] := by decide +kernel
  rw [e, z, SX.join_S, joinL_nil]
  have : (bs.map fun b => [if b = true then 49 else 48]).flatten = bs.map fun b => if b = true then 49 else 48 := by
    clear e z
    induction bs with
    | nil => rfl
    | cons b r ih => rw [List.map_cons, List.flatten_cons, ih]; rfl
  rw [this]
  rfl
theorem zo_S : Str.ofString "01" = SX.S [48, 49] := by decide +kernel
theorem NetOk.snoc {n : Nat} {gs : List Gt} {g : Gt} (h : NetOk n gs) (hg : GtOk (n + gs.length) g) : NetOk n (gs ++ [g]) := fun k g' e => by
  by_cases hk : k < gs.length
  · rw [List.getElem?_append_left hk] at e
    exact h k g' e
  · rw [List.getElem?_append_right (by omega)] at e
    cases hz : k - gs.length with
    | zero =>
      rw [hz] at e
      cases Option.some.inj e
      rw [show k = gs.length by omega]
      exact hg
    | succ j => rw [hz] at e; cases e
def sp_gate (K : PySem.W.Frag) : Sp := fun vs H Q _ => ∃ (d l : Addr) (n : Int) (wires near : Nat), vs = [.ref d, .int wires, .int near] ∧ DeckC H d l n ∧ n < 100000000 ∧ 1 ≤ wires ∧ wires ≤ 100000 ∧ 1 ≤ near ∧
  ∀ r H' g, DeckC H' d l (n + 12) → Fr d l H H' → Tk H' (.ref r) (gD g) → GtOk wires g → Q (.ref r) H'
theorem ok_gate (T : Tx K mg) : FnOk P w K mg base CX0 3 T.f_gate T.fd_gate ["_law_deck_here", "_law_wires", "_law_near_here"] (sp_gate K) := by
  refine T.F_gate.ok sc_gate (fun vs H Q E h => ?_) (fun cdv A outer s H vs Q E hr h => ?_)
  · obtain ⟨d, l, n, wires, near, rfl, _⟩ := h
    rfl
  · obtain ⟨d, l, n, wires, near, rfl, D, hn, w1, w5, r1, q⟩ := h
    refine ⟨_, (pss_cons (ps_set (i := 3) sc_gate.nd rfl (by first | exact .inl rfl | exact .inr rfl) (pe_op op_add pe_int (pe_call (ok_take T) (hr.mono (by decide)) (by rfl) T.g_take T.F_take.kp T.b_take .nil pass0 (pa_cons (pv 0) (pa_cons pe_int pa_nil))))) (pss_cons (ps_set (i := 4) sc_gate.nd rfl (by first | exact .inl rfl | exact .inr rfl) (pe_callTy call_tuple_of (by rfl) T.m_tuple (by decide +kernel) (pa_cons (pe_lc (own := [("_law_k", 5)]) (by rfl) sc_gate.nd (pi_range1 (by rfl) T.m_range (pa_cons (pv 3) pa_nil)) (blkOk_by (own := [("_law_k", 5)]) (N := ["_law_deck_here", "_law_wires", "_law_near_here", "_law_size", "_law_ins", "_law_k"]) (sc := defScope s_gate) (by decide +kernel)) (fun _ _ _ _ _ => (pg_name (i := 5) sc_gate.nd rfl (by first | exact .inl rfl | exact .inr rfl))) (fun _ _ _ _ _ => pts_nil) (fun _ _ _ _ _ => (pe_op op_sub (pe_op op_sub (pv 1) pe_int) (pe_call (ok_take T) (hr.mono (by decide)) (by rfl) T.g_take T.F_take.kp T.b_take .nil pass0 (pa_cons (pv 0) (pa_cons (pe_callB (call_min2 rfl) (by rfl) T.m_min (by decide +kernel) (pa_cons (pv 1) (pa_cons (pv 2) pa_nil))) pa_nil)))))) pa_nil))) (pss_one (ps_ret (pe_tup (pa_cons (pe_join pe_str (pe_lc (own := [("_law_k", 5)]) (by rfl) sc_gate.nd (pi_range1 (by rfl) T.m_range (pa_cons (pe_ix ix_list (pe_lst (pa_cons pe_int (pa_cons pe_int (pa_cons pe_int pa_nil)))) (pe_op op_sub (pv 3) pe_int) (fun _ _ => rfl)) pa_nil)) (blkOk_by (own := [("_law_k", 5)]) (N := ["_law_deck_here", "_law_wires", "_law_near_here", "_law_size", "_law_ins", "_law_k"]) (sc := defScope s_gate) (by decide +kernel)) (fun _ _ _ _ _ => (pg_name (i := 5) sc_gate.nd rfl (by first | exact .inl rfl | exact .inr rfl))) (fun _ _ _ _ _ => pts_nil) (fun _ _ _ _ _ => (pe_item_str pe_str (pe_call (ok_take T) (hr.mono (by decide)) (by rfl) T.g_take T.F_take.kp T.b_take .nil pass0 (pa_cons (pv 0) (pa_cons pe_int pa_nil))) (fun _ _ => rfl))))) (pa_cons (pv 4) pa_nil))))))), ?_⟩
    refine ⟨.ref d, rfl, d, l, 3, _, rfl, D, by omega, by decide, by decide, fun H1 v D1 fr1 v0 v1 => ⟨_, _, rfl, rfl, ?_⟩⟩
    obtain ⟨c, hc, c1, c3⟩ : ∃ c : Nat, 1 + v = (c : Int) ∧ 1 ≤ c ∧ c ≤ 3 := ⟨(1 + v).toNat, by omega, by omega, by omega⟩
    have ec : (fun i j : Int => V.int (i + j)) 1 v = V.int c := by
      show V.int (1 + v) = _
      rw [hc]
    rw [ec]
    refine ⟨.int c, rfl, c, rfl, by omega, by omega, fun I nI => ?_⟩
    have oI := D1.off nI
    have nI0 : H I = none := none_of_frC fr1 D1 nI
    refine lc_range (lo := 0) (n := (c : Int).toNat) (fun j H' => DeckC H' d l (n + 1 + j) ∧ Fr d l H H' ∧ ∃ ws : List Nat, H' I = some (.lst (nV ws)) ∧ ws.length = j ∧ ∀ x ∈ ws, x < wires)
      ⟨(D1.same (same_upd nI)).mono (by omega), fr1.trans (Fr.new nI), [], upd_same, rfl, fun x hx => by cases hx⟩ ?_ ?_
    · rintro j H2 hj ⟨D2, fr2, ws, hI, lw, okw⟩
      have hj' : j < c := by simpa using hj
      refine ⟨rfl, .int wires, rfl, _, _, rfl, rfl, .ref d, rfl, .int wires, rfl, .int near, rfl, _, _, rfl, d, l, _, _, rfl, D2, by omega, ?_, ?_, fun H3 x D3 fr3 x0 x1 => ⟨_, _, rfl, rfl, ?_⟩⟩
      · split <;> omega
      · split <;> omega
      have xw : x < wires := by
        split at x1 <;> omega
      have hI3 := fr3 _ _ oI.1 oI.2 hI
      have ex : V.int ((wires : Int) - 1 - x) = V.int (Int.ofNat ((wires : Int) - 1 - x).toNat) := by
        congr 1
        show (wires : Int) - 1 - x = ((((wires : Int) - 1 - x).toNat : Nat) : Int)
        omega
      refine ⟨_, hI3, ?_, (D3.upd oI.1 oI.2).mono (by push_cast; omega), Fr.upd (fr2.trans fr3) nI0, ws ++ [((wires : Int) - 1 - x).toNat], ?_, by rw [List.length_append, lw]; rfl, fun y hy => ?_⟩
      · rw [nV_len, lw]
        exact Nat.lt_of_lt_of_le (show j < 64 by omega) (by decide)
      · rw [upd_same, nV_app]
        show some (HO.lst (nV ws ++ [V.int ((wires : Int) - 1 - x)])) = _
        rw [ex]
        rfl
      · rcases List.mem_append.mp hy with z | z
        · exact okw y z
        · rw [List.mem_singleton.mp z]; omega
    · rintro H2 ⟨D2, fr2, ws, hI, lw, okw⟩
      have lw' : ws.length = c := by rw [lw]; simp
      refine ⟨I, _, rfl, .inl ⟨SqL.of hI, fun ti nti => ?_⟩⟩
      have s2 := same_upd (o := HO.tup (nV ws)) nti
      have oti := D2.off nti
      have D2' := D2.same s2
      have hti : (upd H2 ti (.tup (nV ws))) ti = some (.tup (nV ws)) := upd_same
      have fr2' := fr2.trans (Fr.of (d := d) (l := l) s2)
      revert hti D2' fr2'
      generalize upd H2 ti (.tup (nV ws)) = H3
      intro D2' hti fr2'
      refine ⟨⟨_, rfl⟩, sl3, fun p5 n5 => ?_⟩
      obtain ⟨N, hN, a2, k8⟩ : ∃ N : Nat, 2 ^ c = N ∧ atI [V.int 2, V.int 4, V.int 8] ((c : Int) - 1) = some (.int (N : Int)) ∧ N ≤ 8 := by
        have : c = 1 ∨ c = 2 ∨ c = 3 := by omega
        rcases this with rfl | rfl | rfl
        · exact ⟨2, rfl, rfl, by decide⟩
        · exact ⟨4, rfl, rfl, by decide⟩
        · exact ⟨8, rfl, rfl, by decide⟩
      refine ⟨.int c, rfl, _, _, rfl, rfl, p5, _, (c : Int) - 1, _, rfl, rfl, SqL.of upd_same, a2, _, rfl, by omega, by omega, fun L nL => ?_⟩
      have s5 := same_upd (o := HO.lst [V.int 2, V.int 4, V.int 8]) n5
      have D5 := D2'.same s5
      have fr5 := fr2'.trans (Fr.of (d := d) (l := l) s5)
      have hti5 := s5 _ _ hti
      revert nL D5 fr5 hti5
      generalize upd H3 p5 (.lst [.int 2, .int 4, .int 8]) = H5
      intro nL D5 fr5 hti5
      have oL := D5.off nL
      have nL0 : H L = none := none_of_frC fr5 D5 nL
      have ntL : ti ≠ L := ne_of_none hti5 nL
      refine lc_range (lo := 0) (n := ((N : Nat) : Int).toNat) (fun i H' => DeckC H' d l (n + 4 + i) ∧ Fr d l H H' ∧ H' ti = some (.tup (nV ws)) ∧ ∃ bs : List Bool, bs.length = i ∧ H' L = some (.lst (bs.map fun b => V.str (sg b)))) ⟨(D5.same (same_upd nL)).mono (by omega), fr5.trans (Fr.new nL), same_upd nL _ _ hti5, [], rfl, upd_same⟩ ?_ ?_
      · rintro i H6 hi ⟨D6, fr6, ht6, bs, lbs, hL⟩
        have hi' : i < N := by simpa using hi
        refine ⟨rfl, .ref d, rfl, d, l, 2, _, rfl, D6, by omega, by decide, by decide, fun H7 x D7 fr7 x0 x1 => ?_⟩
        have hL7 := fr7 _ _ oL.1 oL.2 hL
        have ht7 := fr7 _ _ oti.1 oti.2 ht6
        refine ⟨Str.ofString "01", x, (if x = 1 then 49 else 48), rfl, rfl, x0, by omega, ?_, ?_, _, hL7, ?_, (D7.upd oL.1 oL.2).mono (by push_cast; omega), Fr.upd (fr6.trans fr7) nL0, by rw [upd_ne ntL]; exact ht7, bs ++ [decide (x = 1)], by rw [List.length_append, lbs]; rfl, ?_⟩
        · rw [zo_S, SX.S_len]
          exact x1
        · rw [zo_S]
          have : x = 0 ∨ x = 1 := by omega
          rcases this with rfl | rfl <;> rfl
        · rw [List.length_map, lbs]
          exact Nat.lt_of_lt_of_le (show i < 64 by omega) (by decide)
        · rw [upd_same, List.map_append]
          have : x = 0 ∨ x = 1 := by omega
          rcases this with rfl | rfl <;> rfl
      · rintro H6 ⟨D6, fr6, ht6, bs, lbs, hL⟩
        have lb : bs.length = 2 ^ c := by rw [lbs, hN]; simp
        refine ⟨Str.ofString "", L, bs.map sg, rfl, rfl, .inl (SqL.of (by rw [hL, List.map_map]; rfl)), ?_, ?_⟩
        · rw [List.map_map, List.length_map]
          have : (bs.map ((fun x => x.length) ∘ sg)).sum = bs.length := by
            clear hL lbs lb
            induction bs with
            | nil => rfl
            | cons b r ih =>
              rw [List.map_cons, List.sum_cons, ih, List.length_cons]
              cases b <;> (show 1 + _ = _; omega)
          rw [this]
          show bs.length + bs.length * 0 ≤ _
          have : bs.length ≤ 8 := by rw [lb, hN]; exact k8
          omega
        · rw [join_sg]
          refine ⟨.ref ti, rfl, sl2, fun tt ntt => ?_⟩
          have s7 := same_upd (o := HO.tup [V.str (tabOf bs), .ref ti]) ntt
          refine q tt _ (bs, ws) ((D6.same s7).mono (by
            have : (((N : Nat) : Int).toNat : Int) ≤ 8 := by omega
            omega)) (fr6.trans (Fr.of s7)) (.tup upd_same (.cons (.str _) (.cons (.tup (s7 _ _ ht6) (TkAll.ints _)) .nil))) ⟨?_, ?_, ?_, okw⟩
          · show bs.length = 2 ^ ws.length
            rw [lb, lw']
          · show 1 ≤ ws.length
            omega
          · show ws.length ≤ 3
            omega
def sp_net (K : PySem.W.Frag) : Sp := fun vs H Q _ => ∃ (d l : Addr) (n : Int), vs = [.ref d] ∧ DeckC H d l n ∧ n < 10000000 ∧
  ∀ r H' m gs, DeckC H' d l (n + 600) → Fr d l H H' → Tk H' (.ref r) (netD (m : Nat) gs) → 1 ≤ m → m ≤ 6 → 1 ≤ gs.length → gs.length ≤ 40 → NetOk m gs → Q (.ref r) H'
theorem ok_net (T : Tx K mg) : FnOk P w K mg base CX0 4 T.f_net T.fd_net ["_law_deck_here"] (sp_net K) := by
  refine T.F_net.ok sc_net (fun vs H Q E h => ?_) (fun cdv A outer s H vs Q E hr h => ?_)
  · obtain ⟨d, l, n, rfl, _⟩ := h
    rfl
  · obtain ⟨d, l, n, rfl, D, hn, q⟩ := h
    refine ⟨_, (pss_cons (ps_set (i := 1) sc_net.nd rfl (by first | exact .inl rfl | exact .inr rfl) (pe_cmpR op_eq (pe_call (ok_take T) (hr.mono (by decide)) (by rfl) T.g_take T.F_take.kp T.b_take .nil pass0 (pa_cons (pv 0) (pa_cons pe_int pa_nil))) pe_int (nomark _))) (pss_cons (ps_set (i := 2) sc_net.nd rfl (by first | exact .inl rfl | exact .inr rfl) (pe_ix ix_list (pe_lst (pa_cons pe_int (pa_cons pe_int (pa_cons pe_int (pa_cons pe_int pa_nil))))) (pe_call (ok_take T) (hr.mono (by decide)) (by rfl) T.g_take T.F_take.kp T.b_take .nil pass0 (pa_cons (pv 0) (pa_cons pe_int pa_nil))) (fun _ _ => rfl))) (pss_cons (ps_set (i := 3) sc_net.nd rfl (by first | exact .inl rfl | exact .inr rfl) (pe_op op_add pe_int (pe_call (ok_take T) (hr.mono (by decide)) (by rfl) T.g_take T.F_take.kp T.b_take .nil pass0 (pa_cons (pv 0) (pa_cons pe_int pa_nil))))) (pss_cons (ps_set (i := 4) sc_net.nd rfl (by first | exact .inl rfl | exact .inr rfl) (pe_ix ix_list (pe_lst (pa_cons (pe_op op_add pe_int (pe_call (ok_take T) (hr.mono (by decide)) (by rfl) T.g_take T.F_take.kp T.b_take .nil pass0 (pa_cons (pv 0) (pa_cons pe_int pa_nil)))) (pa_cons pe_int pa_nil))) (pe_callTy call_int1 (by rfl) T.m_int (by decide +kernel) (pa_cons (pv 1) pa_nil)) (fun _ _ => rfl))) (pss_cons (ps_set (i := 5) sc_net.nd rfl (by first | exact .inl rfl | exact .inr rfl) (pe_lst pa_nil)) (pss_cons (ps_for PassesOwn.never rfl (pi_range1 (by rfl) T.m_range (pa_cons (pv 4) pa_nil)) (pg_name (i := 6) sc_net.nd rfl (by first | exact .inl rfl | exact .inr rfl)) (pss_one (ps_expr (pe_bm PySem.F.plainAttrs_list PySem.F.slot_list_append PySem.F.type_list_append mt_append (pv 5) (pa_cons (pe_call (ok_gate T) (hr.mono (by decide)) (by rfl) T.g_gate T.F_gate.kp T.b_gate .nil pass0 (pa_cons (pv 0) (pa_cons (pe_op op_add (pv 3) (pv 6)) (pa_cons (pv 2) pa_nil)))) pa_nil))))) (pss_one (ps_ret (pe_tup (pa_cons (pv 3) (pa_cons (pe_callTy call_tuple_of (by rfl) T.m_tuple (by decide +kernel) (pa_cons (pv 5) pa_nil)) pa_nil))))))))))), ?_⟩
    refine ⟨.ref d, rfl, d, l, 8, _, rfl, D, by omega, by decide, by decide, fun H1 g D1 fr1 g0 g1 => ⟨rfl, ?_⟩⟩
    refine ⟨sl4, fun p1 n1 => ?_⟩
    have o1 := D1.off n1
    have s1 := same_upd (o := HO.lst [V.int 1, V.int 2, V.int 46, V.int 46]) n1
    have D1' := D1.same s1
    refine ⟨.ref d, rfl, d, l, 4, _, rfl, D1', by omega, by decide, by decide, fun H2 u D2 fr2 u0 u1 => ?_⟩
    have hp1 := fr2 _ _ o1.1 o1.2 (show (upd H1 p1 (.lst [V.int 1, V.int 2, V.int 46, V.int 46])) p1 = _ from upd_same)
    obtain ⟨near, hnear, near1⟩ : ∃ near : Nat, atI [V.int 1, V.int 2, V.int 46, V.int 46] u = some (.int (near : Int)) ∧ 1 ≤ near := by
      have : u = 0 ∨ u = 1 ∨ u = 2 ∨ u = 3 := by omega
      rcases this with rfl | rfl | rfl | rfl
      · exact ⟨1, rfl, by decide⟩
      · exact ⟨2, rfl, by decide⟩
      · exact ⟨46, rfl, by decide⟩
      · exact ⟨46, rfl, by decide⟩
    refine ⟨p1, _, u, _, rfl, rfl, SqL.of hp1, hnear, ?_⟩
    refine ⟨.ref d, rfl, d, l, 6, _, rfl, D2, by omega, by decide, by decide, fun H3 x D3 fr3 x0 x1 => ⟨_, _, rfl, rfl, ?_⟩⟩
    obtain ⟨m, hm, m1, m6⟩ : ∃ m : Nat, 1 + x = (m : Int) ∧ 1 ≤ m ∧ m ≤ 6 := ⟨(1 + x).toNat, by omega, by omega, by omega⟩
    have em : (fun i j : Int => V.int (i + j)) 1 x = V.int m := by
      show V.int (1 + x) = _
      rw [hm]
    rw [em]
    refine ⟨.ref d, rfl, d, l, 8, _, rfl, D3, by omega, by decide, by decide, fun H4 v D4 fr4 v0 v1 => ⟨_, _, rfl, rfl, sl2, fun p2 n2 => ?_⟩⟩
    have s4 := same_upd (o := HO.lst [V.int (1 + v), V.int 40]) n2
    obtain ⟨cn, hcn, c1, c40⟩ : ∃ cn : Nat, atI [V.int (1 + v), V.int 40] (if decide (V.int g = V.int 5) = true then 1 else 0) = some (.int (cn : Int)) ∧ 1 ≤ cn ∧ cn ≤ 40 := by
      cases decide (V.int g = V.int 5) with
      | true => exact ⟨40, rfl, by decide, by decide⟩
      | false =>
        refine ⟨(1 + v).toNat, ?_, by omega, by omega⟩
        show some (V.int (1 + v)) = _
        rw [Int.toNat_of_nonneg (by omega)]
    refine ⟨_, rfl, .inr ⟨_, rfl, p2, _, _, _, rfl, rfl, SqL.of upd_same, hcn, ?_⟩⟩
    have D4' := D4.same s4
    have frA := ((((fr1.trans (Fr.of s1)).trans fr2).trans fr3).trans fr4).trans (Fr.of s4)
    revert D4' frA
    show _ → _ → tSeq _ _ _ _ (upd H4 p2 (.lst [V.int (1 + v), V.int 40]))
    generalize upd H4 p2 (.lst [V.int (1 + v), V.int 40]) = H5
    intro D4' frA
    refine ⟨Nat.zero_le _, fun G nG => ?_⟩
    have oG := D4'.off nG
    have nG0 : H G = none := none_of_frC frA D4' nG
    refine ⟨.int cn, rfl, cn, rfl, by omega, by omega, ?_⟩
    refine for_range (lo := 0) (n := (cn : Int).toNat) (fun i σ H' => ∃ y6, σ = [some (.ref d), some (.bl (decide (V.int g = V.int 5))), some (.int near), some (.int m), some (.int cn), some (.ref G), y6] ∧ DeckC H' d l (n + 5 + 12 * i) ∧ Fr d l H H' ∧ ∃ acc gs, H' G = some (.lst acc) ∧ TkAll H' acc (gs.map gD) ∧ gs.length = i ∧ NetOk m gs)
      ⟨_, rfl, (D4'.same (same_upd nG)).mono (by omega), frA.trans (Fr.new nG), [], [], upd_same, .nil, rfl, fun k g e => by simp at e⟩ ?_ ?_
    · rintro i σ H6 hi ⟨y6, rfl, D6, fr6, acc, gs, hG, tg, lg, ok⟩
      have hi' : i < cn := by simpa using hi
      have ew : (m : Int) + (0 + (i : Int)) = ((m + i : Nat) : Int) := by push_cast; omega
      refine ⟨.ref G, rfl, .inl ⟨rfl, _, SqL.of hG⟩, .ref d, rfl, .int m, rfl, .int (0 + (i : Int)), rfl, _, _, rfl, rfl, .int near, rfl, d, l, _, m + i, near, by rw [← ew]; rfl, D6, by omega, by omega, by omega, near1, fun r H7 gt D7 fr7 tr okg => ?_⟩
      have hG7 := fr7 _ _ oG.1 oG.2 hG
      refine ⟨G, _, _, rfl, rfl, hG7, ?_, ?_⟩
      · have := tg.length
        rw [List.length_map, lg] at this
        exact Nat.lt_of_lt_of_le (show acc.length < 64 by omega) (by decide)
      · refine ⟨_, rfl, (D7.upd oG.1 oG.2).mono (by push_cast; omega), Fr.upd (fr6.trans fr7) nG0, _, gs ++ [gt], upd_same, ?_, by rw [List.length_append, lg]; rfl, ok.snoc (by rw [lg]; exact okg)⟩
        rw [List.map_append]
        exact (tg.ts ((Ts.frC D6 fr7).trans (Ts.set hG7)) (noL_gates gs)).append (.cons (tr.ts (Ts.set hG7) (noL_gate _)) .nil)
    · rintro σ H6 ⟨y6, rfl, D6, fr6, acc, gs, hG, tg, lg, ok⟩
      have lg' : gs.length = cn := by rw [lg]; simp
      refine ⟨.int m, rfl, .ref G, rfl, G, _, rfl, .inl ⟨SqL.of hG, fun tq ntq => ⟨sl2, fun r nr => ?_⟩⟩⟩
      have s2 := (same_upd (o := HO.tup acc) ntq).trans (same_upd (o := HO.tup [V.int m, .ref tq]) nr)
      refine q r _ m gs ((D6.same s2).mono (by
        have : ((cn : Int).toNat : Int) ≤ 40 := by omega
        omega)) (fr6.trans (Fr.of s2)) ?_ m1 m6 (by omega) (by omega) ok
      exact .tup upd_same (.cons (.int _) (.cons (.tup (same_upd nr _ _ upd_same) (tg.same s2)) .nil))

end
end Gk

set_option Elab.async false
set_option linter.all false
set_option maxRecDepth 100000
set_option maxHeartbeats 1000000
namespace Gk
open PySem PySem.Spec PyProof.Rows L2
/-! ### slices and sums of tuples: what is told stands in a heap that has grown -/
theorem cut_all {xs : List V} {lo hi : Option Int} (h : HT.sIx xs.length 0 lo = 0 ∧ HT.sIx xs.length xs.length hi = xs.length) : cutV xs lo hi = xs := by
  unfold cutV
  rw [h.1, h.2, List.drop_zero, Nat.sub_zero, List.take_length]
theorem same_refl {H : Hp} : Same H H := fun _ _ e => e
theorem slA {K : PySem.W.Frag} {a : Addr} {xs : List V} {lo hi : Option Int} {H : Hp} {Q : VK} (h : H a = some (.tup xs)) (q : ∀ p H', Same H H' → H' p = some (.tup (cutV xs lo hi)) → Q (.ref p) H') : rSlA K (.ref a) lo hi H Q :=
  ⟨a, xs, rfl, SqT.of h, fun w => q a H same_refl (by rw [cut_all w]; exact h), fun _ p np => q p _ (same_upd np) upd_same⟩
theorem slAn {K : PySem.W.Frag} {a : Addr} {xs : List V} {lo : Option Int} {H : Hp} {Q : VK} {σ : L2.St} (h : H a = some (.tup xs)) (q : ∀ p H', Same H H' → H' p = some (.tup (cutV xs lo none)) → Q (.ref p) H') : tNoPart σ H (fun u H3 => rSlA K (.ref a) lo u H3 Q) := slA h q
theorem catA {K : PySem.W.Frag} {a b : Addr} {xs ys : List V} {H : Hp} {Q : VK} (ha : H a = some (.tup xs)) (hb : H b = some (.tup ys)) (hl : xs.length + ys.length ≤ sizeLine) (q : ∀ p H', Same H H' → H' p = some (.tup (xs ++ ys)) → Q (.ref p) H') : rCatA K (.ref a) (.ref b) H Q :=
  ⟨a, b, xs, ys, rfl, rfl, SqT.of ha, SqT.of hb, hl, fun e => q b H same_refl (by rw [e]; exact hb), fun _ e => q a H same_refl (by rw [e, List.append_nil]; exact ha), fun _ _ p np => q p _ (same_upd np) upd_same⟩
theorem cut_to {xs : List V} {k : Nat} : cutV xs none (some (k : Int)) = xs.take k := by
  unfold cutV
  rw [HT.sIx_none, HT.sIx_nat, List.drop_zero, Nat.sub_zero]
  apply List.ext_getElem?
  intro i
  rw [List.getElem?_take, List.getElem?_take]
  by_cases h : i < k
  · rw [if_pos h]
    by_cases h2 : i < xs.length
    · rw [if_pos (by omega)]
    · rw [List.getElem?_eq_none (by omega)]
      split <;> rfl
  · rw [if_neg h, if_neg (by omega)]
theorem cut_from {xs : List V} {k : Nat} : cutV xs (some (k : Int)) none = xs.drop k := by
  unfold cutV
  rw [HT.sIx_none, HT.sIx_nat]
  by_cases h : k ≤ xs.length
  · rw [Nat.min_eq_left h]
    exact List.take_of_length_le (by rw [List.length_drop]; exact Nat.le_refl _)
  · rw [Nat.min_eq_right (by omega), Nat.sub_self, List.take_zero, List.drop_eq_nil_of_le (by omega)]
theorem TkAll.take {H : Hp} : ∀ {xs : List V} {ds : List PyData} (k : Nat), TkAll H xs ds → TkAll H (xs.take k) (ds.take k)
  | _, _, 0, _ => by rw [List.take_zero, List.take_zero]; exact .nil
  | _, _, _ + 1, .nil => .nil
  | _, _, k + 1, .cons a t => .cons a (t.take k)
theorem TkAll.drop {H : Hp} : ∀ {xs : List V} {ds : List PyData} (k : Nat), TkAll H xs ds → TkAll H (xs.drop k) (ds.drop k)
  | _, _, 0, t => t
  | _, _, _ + 1, .nil => .nil
  | _, _, k + 1, .cons _ t => t.drop k
theorem set_put {α : Type} {l : List α} {i : Nat} {x : α} (h : i < l.length) : (l.take i ++ [x]) ++ l.drop (i + 1) = l.set i x := by
  rw [List.set_eq_take_append_cons_drop, if_pos h, List.append_assoc]
  rfl
def rJoinK (K : PySem.W.Frag) : V → List V → Hp → VK → Prop := fun x xs H Q => ∃ a p, ∃ ys : List Str, x = .str a ∧ xs = [.ref p] ∧ (SqL K H p (ys.map V.str) ∨ SqT K H p (ys.map V.str)) ∧ (ys.map (·.length)).sum + ys.length * a.length ≤ 16777216 ∧ Q (.str (Txt.join a ys)) H

/-! ### texts of nets, as lists of signs -/
def dig (n : Nat) : List Nat := (toString (n : Int) : Str).cps.toList
def sgn (b : Bool) : Nat := if b = true then 49 else 48
def lineL (g : Gt) : List Nat := TL.joinL [32] (g.1.map sgn :: g.2.map dig)
def inpL : List Nat := [105, 110, 112, 117, 116, 115, 32]
def netL (m : Nat) (gs : List Gt) : List Nat := TL.joinL [10] ((inpL ++ dig m) :: gs.map lineL)
theorem dig_S (n : Nat) : (toString (n : Int) : Str) = SX.S (dig n) := (SX.S_tl _).symm
theorem tab_S (bs : List Bool) : tabOf bs = SX.S (bs.map sgn) := rfl
def digOk (n : Nat) : Bool := decide (1 ≤ (dig n).length) && (decide ((dig n).length ≤ 3) && ((dig n).all (fun c => decide (48 ≤ c) && decide (c ≤ 57)) && (decide (PySem.intText? (SX.S (dig n)) = some (n : Int)) && (!(dig n).head?.any (· == 48) || decide (dig n = [48])))))
theorem digs : (List.range 1000).all digOk = true := by decide +kernel
theorem dig_ok {n : Nat} (h : n < 1000) : 1 ≤ (dig n).length ∧ (dig n).length ≤ 3 ∧ (∀ c ∈ dig n, 48 ≤ c ∧ c ≤ 57) ∧ PySem.intText? (SX.S (dig n)) = some (n : Int) ∧ ((dig n).head? = some 48 → dig n = [48]) := by
  have z := List.all_eq_true.mp digs n (List.mem_range.mpr h)
  unfold digOk at z
  rw [Bool.and_eq_true, Bool.and_eq_true, Bool.and_eq_true, Bool.and_eq_true, decide_eq_true_eq, decide_eq_true_eq, decide_eq_true_eq] at z
  obtain ⟨z1, z2, z3, z4, z5⟩ := z
  refine ⟨z1, z2, fun c hc => ?_, z4, fun e => ?_⟩
  · have := List.all_eq_true.mp z3 c hc
    rw [Bool.and_eq_true, decide_eq_true_eq, decide_eq_true_eq] at this
    exact this
  · rw [e] at z5
    have : (!(some 48).any (· == 48) || decide (dig n = [48])) = decide (dig n = [48]) := rfl
    rw [this] at z5
    exact of_decide_eq_true z5
theorem joinL_len (s : List Nat) : ∀ l : List (List Nat), (TL.joinL s l).length ≤ (l.map List.length).sum + l.length * s.length
  | [] => Nat.zero_le _
  | [p] => by
    show p.length ≤ p.length + 0 + 1 * s.length
    omega
  | p :: q :: r => by
    have ih := joinL_len s (q :: r)
    show (p ++ (s ++ TL.joinL s (q :: r))).length ≤ p.length + ((q :: r).map List.length).sum + ((q :: r).length + 1) * s.length
    rw [List.length_append, List.length_append, Nat.add_mul, Nat.one_mul]
    omega
theorem sum_le {α : Type} {f : α → Nat} {k : Nat} : ∀ l : List α, (∀ x ∈ l, f x ≤ k) → (l.map f).sum ≤ l.length * k
  | [], _ => Nat.zero_le _
  | x :: r, h => by
    have ih := sum_le r fun y hy => h y (List.mem_cons_of_mem _ hy)
    have := h x (List.mem_cons_self ..)
    rw [List.map_cons, List.sum_cons, List.length_cons, Nat.add_mul, Nat.one_mul]
    omega
theorem mem_joinL {s : List Nat} {c : Nat} : ∀ {l : List (List Nat)}, c ∈ TL.joinL s l → c ∈ s ∨ ∃ p ∈ l, c ∈ p
  | [], h => by cases h
  | [p], h => .inr ⟨p, List.mem_singleton.mpr rfl, h⟩
  | p :: q :: r, h => by
    have h : c ∈ p ++ (s ++ TL.joinL s (q :: r)) := h
    rcases List.mem_append.mp h with z | z
    · exact .inr ⟨p, List.mem_cons_self .., z⟩
    · rcases List.mem_append.mp z with z | z
      · exact .inl z
      · rcases mem_joinL z with z | ⟨x, hx, hc⟩
        · exact .inl z
        · exact .inr ⟨x, List.mem_cons_of_mem _ hx, hc⟩
def GtS (g : Gt) : Prop := g.1.length ≤ 8 ∧ g.2.length ≤ 3 ∧ ∀ i ∈ g.2, i < 1000
theorem gts_of {n : Nat} {g : Gt} (h : GtOk n g) (hn : n ≤ 1000) : GtS g := by
  obtain ⟨h1, h2, h3, h4⟩ := h
  refine ⟨?_, h3, fun i hi => Nat.lt_of_lt_of_le (h4 i hi) hn⟩
  rw [h1]
  have : g.2.length = 1 ∨ g.2.length = 2 ∨ g.2.length = 3 := by omega
  rcases this with h | h | h <;> rw [h] <;> decide
theorem sgn_mem {bs : List Bool} {c : Nat} (h : c ∈ bs.map sgn) : c = 48 ∨ c = 49 := by
  obtain ⟨b, _, rfl⟩ := List.mem_map.mp h
  cases b
  · exact .inl rfl
  · exact .inr rfl
theorem line_parts {g : Gt} (h : GtS g) : ∀ p ∈ g.1.map sgn :: g.2.map dig, ∀ c ∈ p, 48 ≤ c ∧ c ≤ 57 := fun p hp c hc => by
  rcases List.mem_cons.mp hp with rfl | hp
  · rcases sgn_mem hc with rfl | rfl <;> decide
  · obtain ⟨i, hi, rfl⟩ := List.mem_map.mp hp
    exact (dig_ok (h.2.2 i hi)).2.2.1 c hc
theorem line_len {g : Gt} (h : GtS g) : (lineL g).length ≤ 21 := by
  unfold lineL
  have a := joinL_len [32] (g.1.map sgn :: g.2.map dig)
  have b : ((g.2.map dig).map List.length).sum ≤ g.2.length * 3 := by
    rw [List.map_map]
    exact sum_le g.2 fun i hi => (dig_ok (h.2.2 i hi)).2.1
  rw [List.map_cons, List.sum_cons, List.length_map, List.length_cons, List.length_map] at a
  have e : ([32] : List Nat).length = 1 := rfl
  rw [e] at a
  have := h.1
  have := h.2.1
  omega
theorem line_signs {g : Gt} (h : GtS g) : ∀ c ∈ lineL g, c ≠ 10 := fun c hc e => by
  rcases mem_joinL hc with z | ⟨p, hp, z⟩
  · rw [List.mem_singleton.mp z] at e; cases e
  · have := (line_parts h p hp c z).1
    omega
theorem split_S {s : Nat} {l : List (List Nat)} (hs : s < 256) (hne : l ≠ []) (h : ∀ p ∈ l, s ∉ p) : Txt.split (SX.S (TL.joinL [s] l)) (SX.S [s]) = l.map SX.S := by
  rw [← SX.join_S]
  refine TL.split_join (s := s) (S := []) rfl ?_ (fun z => hne (List.map_eq_nil_iff.mp z)) fun p hp => ?_
  · simp [hs]
  · obtain ⟨q, hq, rfl⟩ := List.mem_map.mp hp
    exact h q hq
theorem split_line {g : Gt} (h : GtS g) : Txt.split (SX.S (lineL g)) (SX.S [32]) = SX.S (g.1.map sgn) :: (g.2.map dig).map SX.S := by
  unfold lineL
  rw [split_S (by decide) (by simp) fun p hp z => ?_]
  · rfl
  · have := (line_parts h p hp 32 z).1
    omega
theorem head_signs {m : Nat} (h : m < 1000) : ∀ c ∈ inpL ++ dig m, c ≠ 10 := fun c hc e => by
  rcases List.mem_append.mp hc with z | z
  · rw [e] at z
    revert z
    decide
  · have := ((dig_ok h).2.2.1 c z).1
    omega
theorem split_net {m : Nat} {gs : List Gt} (hm : m < 1000) (h : ∀ g ∈ gs, GtS g) : Txt.split (SX.S (netL m gs)) (SX.S [10]) = SX.S (inpL ++ dig m) :: (gs.map lineL).map SX.S := by
  unfold netL
  rw [split_S (by decide) (by simp) fun p hp z => ?_]
  · rfl
  · rcases List.mem_cons.mp hp with rfl | hp
    · exact head_signs hm 10 z rfl
    · obtain ⟨g, hg, rfl⟩ := List.mem_map.mp hp
      exact line_signs (h g hg) 10 z rfl
theorem net_len {m : Nat} {gs : List Gt} (hm : m < 1000) (h : ∀ g ∈ gs, GtS g) : (netL m gs).length ≤ 20 + 22 * gs.length := by
  unfold netL
  have a := joinL_len [10] ((inpL ++ dig m) :: gs.map lineL)
  have b : ((gs.map lineL).map List.length).sum ≤ gs.length * 21 := by
    rw [List.map_map]
    exact sum_le gs fun g hg => line_len (h g hg)
  have c := (dig_ok hm).2.1
  have e : ([10] : List Nat).length = 1 := rfl
  have f : inpL.length = 7 := rfl
  rw [List.map_cons, List.sum_cons, List.length_append, List.length_cons, List.length_map, e, f] at a
  omega
theorem sp_S : (Str.ofString " ") = SX.S [32] := by decide +kernel
theorem nl_S : (Str.ofString "\n") = SX.S [10] := by decide +kernel
theorem heads : ((List.range 6).all fun i => decide (Txt.split (SX.S (inpL ++ dig (i + 1))) (SX.S [32]) = [Str.ofString "inputs", SX.S (dig (i + 1))])) = true := by decide +kernel
theorem split_head {m : Nat} (h1 : 1 ≤ m) (h6 : m ≤ 6) : Txt.split (SX.S (inpL ++ dig m)) (SX.S [32]) = [Str.ofString "inputs", SX.S (dig m)] := by
  have z := List.all_eq_true.mp heads (m - 1) (List.mem_range.mpr (by omega))
  rw [show m - 1 + 1 = m by omega] at z
  exact of_decide_eq_true z
theorem figs : ∀ c : Nat, 48 ≤ c → c ≤ 57 → decide (c ∈ (Str.ofString "0123456789").cps.toList) = true := by
  intro c h1 h2
  have e : (Str.ofString "0123456789").cps.toList = [48, 49, 50, 51, 52, 53, 54, 55, 56, 57] := by decide +kernel
  rw [e]
  have : c = 48 ∨ c = 49 ∨ c = 50 ∨ c = 51 ∨ c = 52 ∨ c = 53 ∨ c = 54 ∨ c = 55 ∨ c = 56 ∨ c = 57 := by omega
  rcases this with rfl | rfl | rfl | rfl | rfl | rfl | rfl | rfl | rfl | rfl <;> decide

theorem Row01.snoc {r : List Int} {v : Int} (h : Row01 r) (hv : v = 0 ∨ v = 1) : Row01 (r ++ [v]) := fun x hx => by
  rcases List.mem_append.mp hx with z | z
  · exact h x z
  · rw [List.mem_singleton.mp z]; exact hv

/-! ### sizes of what is shown -/
def fineB (n m : Nat) (d : PyData) : Bool := d.showable && (d.leavesShort 200 && (decide (d.weight ≤ n) && decide (d.depth ≤ m)))
theorem fine_iff {n m : Nat} {d : PyData} : fineB n m d = true ↔ d.showable = true ∧ d.leavesShort 200 = true ∧ d.weight ≤ n ∧ d.depth ≤ m := by
  unfold fineB
  rw [Bool.and_eq_true, Bool.and_eq_true, Bool.and_eq_true, decide_eq_true_eq, decide_eq_true_eq]
theorem fine_mono {n m n' m' : Nat} {d : PyData} (h : fineB n m d = true) (a : n ≤ n') (b : m ≤ m') : fineB n' m' d = true := by
  obtain ⟨h1, h2, h3, h4⟩ := fine_iff.mp h
  exact fine_iff.mpr ⟨h1, h2, Nat.le_trans h3 a, Nat.le_trans h4 b⟩
theorem fine_fits {n m : Nat} {d : PyData} (h : fineB n m d = true) (hn : n ≤ 50000) : d.shown.length ≤ sizeLine := by
  obtain ⟨_, h2, h3, _⟩ := fine_iff.mp h
  have := PyData.shown_le 200 (by decide) d h2
  have e : sizeLine = 16777216 := by decide
  rw [e]
  omega
theorem fine_all {n m : Nat} : ∀ {ds : List PyData}, (∀ d ∈ ds, fineB n m d = true) → PyData.showableAll ds = true ∧ PyData.leavesShortAll 200 ds = true ∧ PyData.weightAll ds ≤ ds.length * (n + 1) ∧ PyData.depthAll ds ≤ m
  | [], _ => ⟨rfl, rfl, Nat.zero_le _, Nat.zero_le _⟩
  | d :: r, h => by
    obtain ⟨a1, a2, a3, a4⟩ := fine_iff.mp (h d (List.mem_cons_self ..))
    obtain ⟨b1, b2, b3, b4⟩ := fine_all (ds := r) fun x hx => h x (List.mem_cons_of_mem _ hx)
    refine ⟨?_, ?_, ?_, ?_⟩
    · unfold PyData.showableAll
      rw [a1, b1]
      rfl
    · unfold PyData.leavesShortAll
      rw [a2, b2]
      rfl
    · unfold PyData.weightAll
      rw [List.length_cons, Nat.succ_mul]
      omega
    · unfold PyData.depthAll
      omega
theorem fine_tup {n m k : Nat} {ds : List PyData} (h : ∀ d ∈ ds, fineB n m d = true) (hk : ds.length ≤ k) : fineB (k * (n + 1)) (m + 1) (.tuple ds) = true := by
  obtain ⟨b1, b2, b3, b4⟩ := fine_all h
  refine fine_iff.mpr ⟨b1, b2, ?_, ?_⟩
  · show PyData.weightAll ds ≤ _
    exact Nat.le_trans b3 (Nat.mul_le_mul_right _ hk)
  · show PyData.depthAll ds + 1 ≤ _
    omega
theorem fine_lst {n m k : Nat} {ds : List PyData} (h : ∀ d ∈ ds, fineB n m d = true) (hk : ds.length ≤ k) : fineB (k * (n + 1)) (m + 1) (.list ds) = true := by
  obtain ⟨b1, b2, b3, b4⟩ := fine_all h
  refine fine_iff.mpr ⟨b1, b2, ?_, ?_⟩
  · show PyData.weightAll ds ≤ _
    exact Nat.le_trans b3 (Nat.mul_le_mul_right _ hk)
  · show PyData.depthAll ds + 1 ≤ _
    omega

/-! ### what is shown of rows and nets -/
mutual
theorem Tk.sh {H : Hp} : ∀ {v : V} {d : PyData}, Tk H v d → noL d = true → Sh H v d
  | _, _, .bl b, _ => .bl b
  | _, _, .int i, _ => .int i
  | _, _, .str x, _ => .str x
  | _, _, .lst h t, n => by cases n
  | _, _, .tup h t, n => .tup h (t.sh n)
theorem TkAll.sh {H : Hp} : ∀ {vs : List V} {ds : List PyData}, TkAll H vs ds → noLs ds = true → ShAll H vs ds
  | _, _, .nil, _ => .nil
  | _, _, .cons (d := d) (ds := ds) h t, n => by
    have n' : noL d = true ∧ noLs ds = true := Bool.and_eq_true_iff.mp n
    exact .cons (h.sh n'.1) (t.sh n'.2)
end
theorem fine_nat : ((List.range 1000).all fun i => fineB 10 1 (.int (Int.ofNat i))) = true := by decide +kernel
theorem fine_int {i : Nat} (h : i < 1000) : fineB 10 1 (.int (Int.ofNat i)) = true := List.all_eq_true.mp fine_nat i (List.mem_range.mpr h)
theorem fine_b2 : ∀ a b : Bool, fineB 10 1 (.str (tabOf [a, b])) = true := by decide +kernel
theorem fine_b4 : ∀ a b c d : Bool, fineB 10 1 (.str (tabOf [a, b, c, d])) = true := by decide +kernel
theorem fine_b8 : ∀ a b c d e f g h : Bool, fineB 10 1 (.str (tabOf [a, b, c, d, e, f, g, h])) = true := by decide +kernel
theorem fine_tab {bs : List Bool} {k : Nat} (h : bs.length = 2 ^ k) (k1 : 1 ≤ k) (k3 : k ≤ 3) : fineB 10 1 (.str (tabOf bs)) = true := by
  have : k = 1 ∨ k = 2 ∨ k = 3 := by omega
  rcases this with rfl | rfl | rfl
  · match bs, h with
    | [a, b], _ => exact fine_b2 a b
  · match bs, h with
    | [a, b, c, d], _ => exact fine_b4 a b c d
  · match bs, h with
    | [a, b, c, d, e, f, g, h], _ => exact fine_b8 a b c d e f g h
theorem fine_row {r : List Int} (h : Row01 r) (hl : r.length ≤ 1100) : fineB 25000 2 (rowD r) = true := by
  refine fine_mono (fine_tup (n := 10) (m := 1) (k := 1100) (fun d hd => ?_) (by rw [List.length_map]; exact hl)) (by decide) (by decide)
  obtain ⟨x, hx, rfl⟩ := List.mem_map.mp hd
  rcases h x hx with rfl | rfl
  · exact fine_int (i := 0) (by decide)
  · exact fine_int (i := 1) (by decide)
theorem fine_gate {g : Gt} {n : Nat} (h : GtOk n g) (hn : n ≤ 1000) : fineB 68 4 (gD g) = true := by
  obtain ⟨h1, h2, h3, h4⟩ := h
  have a : fineB 33 2 (.tuple ((g.2.map Int.ofNat).map PyData.int)) = true := by
    refine fine_tup (n := 10) (m := 1) (k := 3) (fun d hd => ?_) (by rw [List.length_map, List.length_map]; exact h3)
    obtain ⟨x, hx, rfl⟩ := List.mem_map.mp hd
    obtain ⟨i, hi, rfl⟩ := List.mem_map.mp hx
    exact fine_int (Nat.lt_of_lt_of_le (h4 i hi) hn)
  have b : fineB 33 2 (.str (tabOf g.1)) = true := fine_mono (fine_tab h1 h2 h3) (by decide) (by decide)
  refine fine_mono (fine_tup (n := 33) (m := 2) (k := 2) (fun d hd => ?_) (Nat.le_refl _)) (by decide) (by decide)
  rcases List.mem_cons.mp hd with rfl | hd
  · exact b
  · rw [List.mem_singleton.mp hd]
    exact a
theorem fine_net {m : Nat} {gs : List Gt} (ok : NetOk m gs) (m6 : m ≤ 6) (hl : gs.length ≤ 300) : fineB 50000 6 (netD m gs) = true := by
  have a : fineB 20700 5 (.tuple (gs.map gD)) = true := by
    refine fine_tup (n := 68) (m := 4) (k := 300) (fun d hd => ?_) (by rw [List.length_map]; exact hl)
    obtain ⟨g, hg, rfl⟩ := List.mem_map.mp hd
    obtain ⟨i, hi⟩ := List.getElem?_of_mem hg
    have := (List.getElem?_eq_some_iff.mp hi).1
    exact fine_gate (ok i g hi) (by omega)
  refine fine_mono (fine_tup (n := 20700) (m := 5) (k := 2) (fun d hd => ?_) (Nat.le_refl _)) (by decide) (by decide)
  rcases List.mem_cons.mp hd with rfl | hd
  · exact fine_mono (fine_int (i := m) (by omega)) (by decide) (by decide)
  · rw [List.mem_singleton.mp hd]
    exact a

/-! ### comparing, cutting and joining data of tuples -/
mutual
theorem Tk.dp {K : PySem.W.Frag} {H : Hp} : ∀ {v : V} {d : PyData}, Tk H v d → Dp K H v d
  | _, _, .bl b => .bl b
  | _, _, .int i => .int i
  | _, _, .str x => .str x
  | _, _, .lst h t => .lst (SqL.of h) t.dp
  | _, _, .tup h t => .tup (SqT.of h) t.dp
theorem TkAll.dp {K : PySem.W.Frag} {H : Hp} : ∀ {vs : List V} {ds : List PyData}, TkAll H vs ds → DpAll K H vs ds
  | _, _, .nil => .nil
  | _, _, .cons h t => .cons h.dp t.dp
end
theorem ne_same {K : PySem.W.Frag} {H : Hp} {x y : V} {d : PyData} {Q : VK} (hx : Dp K H x d) (hy : Dp K H y d) (sh : SeqAt.shaped d = true) (q : Q (.bl false) H) : rNeD K x y H Q := by
  refine ⟨d, d, hx, hy, sh, sh, ?_⟩
  rw [SeqAt.eqv_refl d (SeqAt.canLay_of_shaped sh)]
  exact q
theorem eq_same {K : PySem.W.Frag} {H : Hp} {x y : V} {d : PyData} {Q : VK} (hx : Dp K H x d) (hy : Dp K H y d) (sh : SeqAt.shaped d = true) (q : Q (.bl true) H) : rEqD K x y H Q := by
  refine ⟨d, d, hx, hy, sh, sh, ?_⟩
  rw [SeqAt.eqv_refl d (SeqAt.canLay_of_shaped sh)]
  exact q

section
variable {P : Program} {w : World} {K : PySem.W.Frag} {mg : Str → Option Value} {base : Heap}
/-! ### what is a net: of nets -/
theorem kII : kitB "int" "int" = some true := by decide +kernel
theorem kIB : kitB "int" "bool" = some false := by decide +kernel
theorem kTT : kitB "tuple" "tuple" = some true := by decide +kernel
theorem kSS : kitB "str" "str" = some true := by decide +kernel
theorem kBB : kitB "bool" "bool" = some true := by decide +kernel
def sp_is_whole (K : PySem.W.Frag) : Sp := fun vs H Q _ => ∃ i : Int, vs = [.int i] ∧ Q (.bl true) H
theorem ok_is_whole (T : Tx K mg) : FnOk P w K mg base CX0 1 T.f_is_whole T.fd_is_whole ["thing"] (sp_is_whole K) := by
  refine T.F_is_whole.ok sc_is_whole (fun vs H Q E h => ?_) (fun cdv A outer s H vs Q E hr h => ?_)
  · obtain ⟨i, rfl, _⟩ := h
    rfl
  · obtain ⟨i, rfl, q⟩ := h
    refine ⟨_, (pss_one (ps_ret (pe_and (pe_callB call_isi (by rfl) T.m_isinstance (by decide +kernel) (pa_cons (pv 0) (pa_cons (pe_bltn (v := .ty "int") (u := .type "int") (by rfl) T.m_int (by decide +kernel) rfl) pa_nil))) (pe_one (pe_not (pe_callB call_isi (by rfl) T.m_isinstance (by decide +kernel) (pa_cons (pv 0) (pa_cons (pe_bltn (v := .ty "bool") (u := .type "bool") (by rfl) T.m_bool (by decide +kernel) rfl) pa_nil)))))))), ?_⟩
    refine ⟨.int i, rfl, _, _, _, _, _, rfl, .ty _, .base (.int i), kit_ty kII, _, rfl, iteT ?_⟩
    exact ⟨.int i, rfl, _, _, _, _, _, rfl, .ty _, .base (.int i), kit_ty kIB, _, rfl, q⟩
def sp_is_signs (K : PySem.W.Frag) (Pt : Addr) : Sp := fun vs H Q _ => ∃ (k : Nat) (bs : List Bool), vs = [.int k, .str (tabOf bs)] ∧ bs.length = k ∧ k ≤ 64 ∧ GxR.TabG H Pt ∧ ∀ H', Gr H H' → Q (.bl true) H'
theorem ok_is_signs (T : Tx K mg) (B : Tb base T) : FnOk P w K mg base CX0 2 T.f_is_signs T.fd_is_signs ["many", "thing"] (sp_is_signs K T.P_is_signs) := by
  refine okC T.F_is_signs sc_is_signs (fun vs H Q E h => ?_) (fun A outer s H vs Q E hr h => ?_)
  · obtain ⟨k, bs, rfl, _⟩ := h
    rfl
  · obtain ⟨k, bs, rfl, lb, h64, tab, q⟩ := h
    refine ⟨_, (pss_one (ps_ret (pe_and (pe_callB call_isi (by rfl) T.m_isinstance (by decide +kernel) (pa_cons (pv 1) (pa_cons (pe_bltn (v := .ty "str") (u := .type "str") (by rfl) T.m_str (by decide +kernel) rfl) pa_nil))) (pe_and (pe_cmpR op_eq (pe_callB call_len_str (by rfl) T.m_len PySem.boot_len (pa_cons (pv 1) pa_nil)) (pv 0) (nomark _)) (pe_one (pe_allX (own := [("sign", 2)]) (k := 0) (hr.mono (by decide)) rfl sc_is_signs.nd (by rfl) T.m_all (by decide +kernel) B.TB_is_signs T.cd_is_signs rfl rfl (by decide +kernel) (blkOk_by (own := [("sign", 2)]) (N := ["many", "thing", "sign"]) (sc := defScope s_is_signs) (by decide +kernel)) (pi_str (pv 1)) (fun _ _ _ _ _ _ _ hr gd => (pg_name (i := 2) sc_is_signs.nd rfl (by first | exact .inl rfl | exact .inr rfl))) (fun _ _ _ _ _ _ _ hr gd => pts_nil) (fun _ _ _ _ _ _ _ hr gd => (pe_cmpR op_in_sign (pv 2) pe_str rfl)) (fun _ => rfl))))))), ?_⟩
    have tl : (tabOf bs).length = k := by rw [← lb]; simp [tabOf, Str.length]
    refine ⟨.str (tabOf bs), rfl, _, _, _, _, _, rfl, .ty _, .base (.str _), kit_ty kSS, _, rfl, iteT ?_⟩
    refine ⟨.str (tabOf bs), rfl, _, rfl, by rw [tl]; exact Nat.le_trans h64 (by decide), ?_⟩
    rw [tl]
    refine ⟨.int k, rfl, rfl, _, rfl, ?_⟩
    rw [decide_eq_true rfl]
    refine iteT ?_
    refine ⟨.str (tabOf bs), rfl, tabOf bs, rfl, tab, fun H2 tb => ?_⟩
    have g2 := Gr.tab tab tb
    refine gx_str (z := tabOf bs) (fun j _ H' => H' = H2) rfl ?_ ?_
    · rintro j x _ H' hx rfl
      refine ⟨rfl, .str ⟨#[x]⟩, rfl, x, _, rfl, rfl, true, ?_, rfl⟩
      have hm : x = 48 ∨ x = 49 := by
        have hx' : (bs.map fun b => if b = true then 49 else 48)[j]? = some x := by
          have : (tabOf bs).cps[j]? = some x := hx
          simpa [tabOf] using this
        rw [List.getElem?_map] at hx'
        cases hb : bs[j]? with
        | none => rw [hb] at hx'; cases hx'
        | some b =>
          rw [hb] at hx'
          cases Option.some.inj hx'
          cases b
          · exact .inl rfl
          · exact .inr rfl
      rcases hm with rfl | rfl <;> rfl
    · rintro _ H' rfl
      exact q H' g2
def Tabs2 (T : Tx K mg) (H : Hp) : Prop := GxR.TabG H T.P_is_signs ∧ GxR.TabG H T.P_is_gate ∧ GxR.TabG H T.P_is_net
theorem Tabs2.gr {T : Tx K mg} {H H' : Hp} (t : Tabs2 T H) (g : Gr H H') : Tabs2 T H' := ⟨g.2 _ t.1, g.2 _ t.2.1, g.2 _ t.2.2⟩
def sp_is_gate (T : Tx K mg) : Sp := fun vs H Q _ => ∃ (n : Nat) (gv : V) (g : Gt), vs = [.int n, gv] ∧ Tk H gv (gD g) ∧ GtOk n g ∧ Tabs2 T H ∧ ∀ H', Gr H H' → Q (.bl true) H'
theorem ok_is_gate (T : Tx K mg) (B : Tb base T) : FnOk P w K mg base CX0 3 T.f_is_gate T.fd_is_gate ["wires", "thing"] (sp_is_gate T) := by
  refine okC T.F_is_gate sc_is_gate (fun vs H Q E h => ?_) (fun A outer s H vs Q E hr h => ?_)
  · obtain ⟨n, gv, g, rfl, _⟩ := h
    rfl
  · obtain ⟨n, gv, g, rfl, tg, ⟨o1, o2, o3, o4⟩, tabs, q⟩ := h
    refine ⟨_, (pss_cons (ps_if (pw_or (pt_not (pt_val (pe_callB call_isi (by rfl) T.m_isinstance (by decide +kernel) (pa_cons (pv 1) (pa_cons (pe_bltn (v := .ty "tuple") (u := .type "tuple") (by rfl) T.m_tuple (by decide +kernel) rfl) pa_nil))))) (pw_or1 (pt_cmpR op_ne (pe_callB call_len_seq (by rfl) T.m_len PySem.boot_len (pa_cons (pv 1) pa_nil)) pe_int (nomark _)))).pt (pss_one (ps_ret pe_bl)) pss_nil) (pss_cons (ps_asg (pv 1) (pg_tup rfl (pgs_cons (pg_name (i := 2) sc_is_gate.nd rfl (by first | exact .inl rfl | exact .inr rfl)) (pgs_cons (pg_name (i := 3) sc_is_gate.nd rfl (by first | exact .inl rfl | exact .inr rfl)) pgs_nil)))) (pss_cons (ps_if (pw_or (pt_not (pt_val (pe_callB call_isi (by rfl) T.m_isinstance (by decide +kernel) (pa_cons (pv 3) (pa_cons (pe_bltn (v := .ty "tuple") (u := .type "tuple") (by rfl) T.m_tuple (by decide +kernel) rfl) pa_nil))))) (pw_or1 (pt_not (pt_chain op_le op_le pe_int (pe_callB call_len_seq (by rfl) T.m_len PySem.boot_len (pa_cons (pv 3) pa_nil)) (pe_glob (v := .int 3) (by rfl) T.k_MOST_INS.choose_spec ⟨_, rfl⟩))))).pt (pss_one (ps_ret pe_bl)) pss_nil) (pss_one (ps_ret (pe_and (pe_call (ok_is_signs T B) (hr.mono (by decide)) (by rfl) T.g_is_signs T.F_is_signs.kp T.b_is_signs .nil pass0 (pa_cons (pe_op op_shl pe_int (pe_callB call_len_seq (by rfl) T.m_len PySem.boot_len (pa_cons (pv 3) pa_nil))) (pa_cons (pv 2) pa_nil))) (pe_one (pe_allX (own := [("wire", 4)]) (k := 1) (hr.mono (by decide)) rfl sc_is_gate.nd (by rfl) T.m_all (by decide +kernel) B.TB_is_gate T.cd_is_gate rfl rfl (by decide +kernel) (blkOk_by (own := [("wire", 4)]) (N := ["wires", "thing", "table", "ins", "wire"]) (sc := defScope s_is_gate) (by decide +kernel)) (pi_tup (pv 3)) (fun _ _ _ _ _ _ _ hr gd => (pg_name (i := 4) sc_is_gate.nd rfl (by first | exact .inl rfl | exact .inr rfl))) (fun _ _ _ _ _ _ _ hr gd => pts_nil) (fun _ _ _ _ _ _ _ hr gd => (pe_and (pe_call (ok_is_whole T) (hr.mono (by decide)) (by rfl) T.g_is_whole T.F_is_whole.kp T.b_is_whole .nil pass0 (pa_cons (pv 4) pa_nil)) (pe_one (pe_chain op_le op_lt pe_int (pv 4) (pv 0))))) (fun _ => rfl))))))))), ?_⟩
    obtain ⟨a, i, rfl, ha, hi⟩ := tg.gt_inv
    refine ⟨.ref a, rfl, _, _, _, _, _, rfl, .ty _, .base (.tup ha), kit_ty kTT, _, rfl, iteF ⟨.ref a, rfl, a, _, rfl, .inr (SqT.of ha), rfl, _, rfl, iteF ?_⟩⟩
    refine ⟨.ref a, rfl, a, _, rfl, SqT.of ha, rfl, _, _, rfl, _, _, rfl, rfl, ?_⟩
    have li : (List.map V.int (List.map Int.ofNat g.2)).length = g.2.length := by rw [List.length_map, List.length_map]
    refine ⟨.ref i, rfl, _, _, _, _, _, rfl, .ty _, .base (.tup hi), kit_ty kTT, _, rfl, iteF ⟨.ref i, rfl, i, _, rfl, .inr (SqT.of hi), ?_⟩⟩
    rw [li]
    refine ⟨1, _, rfl, rfl, _, rfl, ?_⟩
    rw [decide_eq_true (show (1 : Int) ≤ (g.2.length : Int) by omega)]
    refine iteT ⟨_, 3, rfl, rfl, _, rfl, ?_⟩
    rw [decide_eq_true (show (g.2.length : Int) ≤ 3 by omega)]
    refine iteF ?_
    refine ⟨.ref i, rfl, i, _, rfl, .inr (SqT.of hi), ?_⟩
    rw [li]
    refine ⟨1, _, rfl, rfl, ⟨by omega, by omega, by decide⟩, .str (tabOf g.1), rfl, g.1.length, g.1, ?_, rfl, ?_, tabs.1, fun H2 g2 => ⟨_, rfl, iteT ?_⟩⟩
    · have : (1 : Int) * 2 ^ ((g.2.length : Int)).toNat = (g.1.length : Int) := by
        rw [o1]
        simp
      show [V.int ((1 : Int) * 2 ^ ((g.2.length : Int)).toNat), V.str (tabOf g.1)] = _
      rw [this]
    · rw [o1]
      have : g.2.length = 1 ∨ g.2.length = 2 ∨ g.2.length = 3 := by omega
      rcases this with h | h | h <;> rw [h] <;> decide
    have hi2 := g2.tup hi
    have tabs2 := tabs.gr g2
    refine ⟨.ref i, rfl, i, rfl, ⟨_, SqT.of hi2⟩, tabs2.2.1, fun H3 tb3 => ?_⟩
    have g3 := Gr.tab tabs2.2.1 tb3
    refine gx_tup (K := K) (a := i) (xs := (g.2.map Int.ofNat).map V.int) (fun j _ H' => H' = H3) rfl (fun j _ H' _ e => by rw [e]; exact SqT.of (g3.tup hi2)) ?_ ?_
    · rintro j x _ H' hx rfl
      rw [List.getElem?_map, List.getElem?_map] at hx
      cases hj : g.2[j]? with
      | none => rw [hj] at hx; cases hx
      | some k =>
        rw [hj] at hx
        cases Option.some.inj hx
        have hk := o4 k (List.mem_of_getElem? hj)
        refine ⟨rfl, .int (Int.ofNat k), rfl, _, rfl, _, rfl, iteT ?_⟩
        refine ⟨.int (Int.ofNat k), rfl, 0, _, rfl, rfl, _, rfl, ?_⟩
        rw [decide_eq_true (show (0 : Int) ≤ Int.ofNat k from Int.natCast_nonneg k)]
        refine iteT ⟨.int n, rfl, _, _, rfl, rfl, true, ?_, rfl⟩
        dsimp only
        rw [decide_eq_true (show Int.ofNat k < (n : Int) from Int.ofNat_lt.mpr hk)]
    · rintro _ H' rfl
      exact q H' (g2.trans g3)
def sp_is_net (T : Tx K mg) : Sp := fun vs H Q _ => ∃ (nv : V) (m : Nat) (gs : List Gt), vs = [nv] ∧ Tk H nv (netD m gs) ∧ 1 ≤ m ∧ m ≤ 6 ∧ 1 ≤ gs.length ∧ NetOk m gs ∧ Tabs2 T H ∧ ∀ H', Gr H H' → Q (.bl true) H'
theorem ok_is_net (T : Tx K mg) (B : Tb base T) : FnOk P w K mg base CX0 5 T.f_is_net T.fd_is_net ["thing"] (sp_is_net T) := by
  refine okC T.F_is_net sc_is_net (fun vs H Q E h => ?_) (fun A outer s H vs Q E hr h => ?_)
  · obtain ⟨nv, m, gs, rfl, _⟩ := h
    rfl
  · obtain ⟨nv, m, gs, rfl, tn, m1, m6, g1, ok, tabs, q⟩ := h
    refine ⟨_, (pss_cons (ps_if (pw_or (pt_not (pt_val (pe_callB call_isi (by rfl) T.m_isinstance (by decide +kernel) (pa_cons (pv 0) (pa_cons (pe_bltn (v := .ty "tuple") (u := .type "tuple") (by rfl) T.m_tuple (by decide +kernel) rfl) pa_nil))))) (pw_or1 (pt_cmpR op_ne (pe_callB call_len_seq (by rfl) T.m_len PySem.boot_len (pa_cons (pv 0) pa_nil)) pe_int (nomark _)))).pt (pss_one (ps_ret pe_bl)) pss_nil) (pss_cons (ps_asg (pv 0) (pg_tup rfl (pgs_cons (pg_name (i := 1) sc_is_net.nd rfl (by first | exact .inl rfl | exact .inr rfl)) (pgs_cons (pg_name (i := 2) sc_is_net.nd rfl (by first | exact .inl rfl | exact .inr rfl)) pgs_nil)))) (pss_cons (ps_if (pw_or (pt_not (pt_val (pe_call (ok_is_whole T) (hr.mono (by decide)) (by rfl) T.g_is_whole T.F_is_whole.kp T.b_is_whole .nil pass0 (pa_cons (pv 1) pa_nil)))) (pw_or1 (pt_not (pt_chain op_le op_le pe_int (pv 1) (pe_glob (v := .int 6) (by rfl) T.k_MOST_INPUTS.choose_spec ⟨_, rfl⟩))))).pt (pss_one (ps_ret pe_bl)) pss_nil) (pss_cons (ps_if (pw_or (pt_not (pt_val (pe_callB call_isi (by rfl) T.m_isinstance (by decide +kernel) (pa_cons (pv 2) (pa_cons (pe_bltn (v := .ty "tuple") (u := .type "tuple") (by rfl) T.m_tuple (by decide +kernel) rfl) pa_nil))))) (pw_or1 (pt_cmpR op_eq (pe_callB call_len_seq (by rfl) T.m_len PySem.boot_len (pa_cons (pv 2) pa_nil)) pe_int (nomark _)))).pt (pss_one (ps_ret pe_bl)) pss_nil) (pss_one (ps_ret (pe_allX (own := [("number", 3), ("gate", 4)]) (k := 3) (hr.mono (by decide)) rfl sc_is_net.nd (by rfl) T.m_all (by decide +kernel) B.TB_is_net T.cd_is_net rfl rfl (by decide +kernel) (blkOk_by (own := [("number", 3), ("gate", 4)]) (N := ["thing", "many", "gates", "number", "gate"]) (sc := defScope s_is_net) (by decide +kernel)) (pi_enumT (by rfl) T.m_enumerate (pa_cons (pv 2) pa_nil)) (fun _ _ _ _ _ _ _ hr gd => (show PG _ _ (gTup K 2 _) from pg_tup rfl (pgs_cons (pg_name (i := 3) sc_is_net.nd rfl (by first | exact .inl rfl | exact .inr rfl)) (pgs_cons (pg_name (i := 4) sc_is_net.nd rfl (by first | exact .inl rfl | exact .inr rfl)) pgs_nil)))) (fun _ _ _ _ _ _ _ hr gd => pts_nil) (fun _ _ _ _ _ _ _ hr gd => (pe_call (ok_is_gate T B) (hr.mono (by decide)) (by rfl) T.g_is_gate T.F_is_gate.kp T.b_is_gate .nil pass0 (pa_cons (pe_op op_add (pv 1) (pv 3)) (pa_cons (pv 4) pa_nil)))) (fun _ => rfl)))))))), ?_⟩
    obtain ⟨a, g, xs, rfl, ha, hg, tg⟩ := tn.net_inv
    have xl : xs.length = gs.length := by rw [tg.length, List.length_map]
    refine ⟨.ref a, rfl, _, _, _, _, _, rfl, .ty _, .base (.tup ha), kit_ty kTT, _, rfl, iteF ⟨.ref a, rfl, a, _, rfl, .inr (SqT.of ha), rfl, _, rfl, iteF ?_⟩⟩
    refine ⟨.ref a, rfl, a, _, rfl, SqT.of ha, rfl, _, _, rfl, _, _, rfl, rfl, ?_⟩
    refine ⟨.int m, rfl, _, rfl, _, rfl, iteF ⟨.int m, rfl, 1, _, rfl, rfl, _, rfl, ?_⟩⟩
    rw [decide_eq_true (show (1 : Int) ≤ (m : Int) by omega)]
    refine iteT ⟨_, 6, rfl, rfl, _, rfl, ?_⟩
    rw [decide_eq_true (show (m : Int) ≤ 6 by omega)]
    refine iteF ?_
    refine ⟨.ref g, rfl, _, _, _, _, _, rfl, .ty _, .base (.tup hg), kit_ty kTT, _, rfl, iteF ⟨.ref g, rfl, g, _, rfl, .inr (SqT.of hg), rfl, _, rfl, ?_⟩⟩
    have e0 : decide (V.int (xs.length : Int) = V.int 0) = false := decide_eq_false fun z => by
      have := V.int.inj z
      omega
    rw [e0]
    refine iteF ?_
    refine ⟨.ref g, rfl, g, _, rfl, SqT.of hg, tabs.2.2, fun H2 tb2 => ?_⟩
    have g2 := Gr.tab tabs.2.2 tb2
    refine gx_enum (K := K) (a := g) (xs := xs) (fun j _ H' => Gr H H') g2 (fun j _ H' _ e => SqT.of (e.tup hg)) ?_ ?_
    · rintro j x Tq _ H' hx nT gr
      obtain ⟨gt, hgt, tgt⟩ := tg.at hx
      have g3 : Gr H (upd H' Tq (.tup [.int (j : Nat), x])) := gr.trans (Gr.none nT)
      refine ⟨Tq, _, rfl, SqT.of upd_same, rfl, _, _, rfl, _, _, rfl, rfl, rfl, ?_⟩
      refine ⟨.int m, rfl, .int (j : Nat), rfl, _, _, rfl, rfl, x, rfl, m + j, x, gt, ?_, tgt.gr g3, ok j gt hgt, tabs.gr g3, fun H4 g4 => ⟨true, rfl, g3.trans g4⟩⟩
      show [V.int ((m : Int) + (j : Int)), x] = [V.int ((m + j : Nat) : Int), x]
      rw [Int.natCast_add]
    · rintro _ H' gr
      exact q H' gr

/-! ### nets read of their texts -/
theorem wS (n : Nat) (h : n < 1000) : (SX.S (dig n)).length ≤ sizeLine := by
  rw [SX.S_len]
  exact Nat.le_trans (dig_ok h).2.1 (by decide)
def sp_read_number (T : Tx K mg) : Sp := fun vs H Q _ => ∃ n : Nat, vs = [.str (SX.S (dig n))] ∧ n < 1000 ∧ GxR.TabG H T.P_read_number ∧ ∀ H', Gr H H' → Q (.int n) H'
theorem ok_read_number (T : Tx K mg) (B : Tb base T) : FnOk P w K mg base CX0 2 T.f_read_number T.fd_read_number ["word"] (sp_read_number T) := by
  refine okC T.F_read_number sc_read_number (fun vs H Q E h => ?_) (fun A outer s H vs Q E hr h => ?_)
  · obtain ⟨n, rfl, _⟩ := h
    rfl
  · obtain ⟨n, rfl, hn, tab, q⟩ := h
    refine ⟨_, (pss_cons (ps_if (pt_not (pt_chain op_le op_le pe_int (pe_callB call_len_str (by rfl) T.m_len PySem.boot_len (pa_cons (pv 0) pa_nil)) (pe_glob (v := .int 40) (by rfl) T.k_MOST_FIGURES.choose_spec ⟨_, rfl⟩))) (pss_one (ps_ret pe_non)) pss_nil) (pss_cons (ps_if (pt_not (pt_val (pe_allX (own := [("sign", 1)]) (k := 0) (hr.mono (by decide)) rfl sc_read_number.nd (by rfl) T.m_all (by decide +kernel) B.TB_read_number T.cd_read_number rfl rfl (by decide +kernel) (blkOk_by (own := [("sign", 1)]) (N := ["word", "sign"]) (sc := defScope s_read_number) (by decide +kernel)) (pi_str (pv 0)) (fun _ _ _ _ _ _ _ hr gd => (pg_name (i := 1) sc_read_number.nd rfl (by first | exact .inl rfl | exact .inr rfl))) (fun _ _ _ _ _ _ _ hr gd => pts_nil) (fun _ _ _ _ _ _ _ hr gd => (pe_cmpR op_in_sign (pv 1) pe_str rfl)) (fun _ => rfl)))) (pss_one (ps_ret pe_non)) pss_nil) (pss_cons (ps_if (pw_and (pt_cmpR op_eq (pe_item_str (pv 0) pe_int (fun _ _ => rfl)) pe_str (nomark _)) (pw_and1 (pt_cmpR op_ne (pv 0) pe_str (nomark _)))).pt (pss_one (ps_ret pe_non)) pss_nil) (pss_one (ps_ret (pe_callTy call_int_str (by rfl) T.m_int (by decide +kernel) (pa_cons (pv 0) pa_nil))))))), ?_⟩
    obtain ⟨d1, d3, dc, di, dh⟩ := dig_ok hn
    refine ⟨.str (SX.S (dig n)), rfl, _, rfl, wS n hn, ?_⟩
    rw [SX.S_len]
    refine ⟨1, _, rfl, rfl, _, rfl, ?_⟩
    rw [decide_eq_true (show (1 : Int) ≤ ((dig n).length : Int) by omega)]
    refine iteT ⟨_, 40, rfl, rfl, _, rfl, ?_⟩
    rw [decide_eq_true (show ((dig n).length : Int) ≤ 40 by omega)]
    refine iteF ?_
    refine ⟨.str (SX.S (dig n)), rfl, SX.S (dig n), rfl, tab, fun H2 tb => ?_⟩
    have g2 := Gr.tab tab tb
    refine gx_str (z := SX.S (dig n)) (fun j _ H' => H' = H2) rfl ?_ ?_
    · rintro j x _ H' hx rfl
      refine ⟨rfl, .str ⟨#[x]⟩, rfl, x, _, rfl, rfl, true, ?_, rfl⟩
      have hm : x ∈ dig n := by
        have hx : (dig n).toArray[j]? = some x := hx
        rw [List.getElem?_toArray] at hx
        exact List.mem_of_getElem? hx
      have z := figs x (dc x hm).1 (dc x hm).2
      exact congrArg V.bl z
    · rintro _ H' rfl
      refine ⟨_, rfl, iteF ?_⟩
      have hne : dig n ≠ [] := fun z => by rw [z] at d1; cases d1
      obtain ⟨c, r, e⟩ : ∃ c r, dig n = c :: r := List.exists_cons_of_ne_nil hne
      refine ⟨.str (SX.S (dig n)), rfl, _, 0, c, rfl, rfl, by decide, by decide, ?_, ?_, rfl, _, rfl, ?_⟩
      · rw [SX.S_len]
        omega
      · show (dig n).toArray[0]? = some c
        rw [e]
        rfl
      · have e0 : Str.ofString "0" = SX.S [48] := by decide +kernel
        have fin : PySem.intText? (SX.S (dig n)) = some (n : Int) ∧ (SX.S (dig n)).length ≤ 640 := ⟨di, by rw [SX.S_len]; omega⟩
        refine ite2 (fun z => ?_) (fun _ => ⟨.str (SX.S (dig n)), rfl, _, _, rfl, fin.1, fin.2, q H' g2⟩)
        have hc : (⟨#[c]⟩ : Str) = SX.S [48] := by
          have := V.str.inj (of_decide_eq_true z)
          rw [this]
          exact e0
        have hc2 : c = 48 := by
          have := SX.S_inj (a := [c]) hc
          exact (List.cons.inj this).1
        have e1 : dig n = [48] := dh (by rw [e, hc2]; rfl)
        refine ⟨.str (SX.S (dig n)), rfl, rfl, _, rfl, ite2 (fun z2 => ?_) (fun _ => ⟨.str (SX.S (dig n)), rfl, _, _, rfl, fin.1, fin.2, q H' g2⟩)⟩
        rw [e1, e0] at z2
        simp at z2
def sp_read_head (T : Tx K mg) : Sp := fun vs H Q _ => ∃ m : Nat, vs = [.str (SX.S (inpL ++ dig m))] ∧ 1 ≤ m ∧ m ≤ 6 ∧ GxR.TabG H T.P_read_number ∧ ∀ H', Gr H H' → Q (.int m) H'
theorem ok_read_head (T : Tx K mg) (B : Tb base T) : FnOk P w K mg base CX0 3 T.f_read_head T.fd_read_head ["line"] (sp_read_head T) := by
  refine T.F_read_head.ok sc_read_head (fun vs H Q E h => ?_) (fun cdv A outer s H vs Q E hr h => ?_)
  · obtain ⟨m, rfl, _⟩ := h
    rfl
  · obtain ⟨m, rfl, m1, m6, tab, q⟩ := h
    refine ⟨_, (pss_cons (ps_set (i := 1) sc_read_head.nd rfl (by first | exact .inl rfl | exact .inr rfl) (pe_bm PySem.F.plainAttrs_str PySem.F.slot_str_split PySem.F.type_str_split mt_split (pv 0) (pa_cons pe_str pa_nil))) (pss_cons (ps_if (pw_or (pt_cmpR op_ne (pe_callB call_len_seq (by rfl) T.m_len PySem.boot_len (pa_cons (pv 1) pa_nil)) pe_int (nomark _)) (pw_or1 (pt_cmpR op_ne (pe_ix ix_list (pv 1) pe_int (fun _ _ => rfl)) pe_str (nomark _)))).pt (pss_one (ps_ret pe_non)) pss_nil) (pss_one (ps_ret (pe_call (ok_read_number T B) (hr.mono (by decide)) (by rfl) T.g_read_number T.F_read_number.kp T.b_read_number .nil pass0 (pa_cons (pe_ix ix_list (pv 1) pe_int (fun _ _ => rfl)) pa_nil)))))), ?_⟩
    refine ⟨.str (SX.S (inpL ++ dig m)), rfl, rfl, _, _, rfl, rfl, by decide +kernel, ?_, fun p np => ?_⟩
    · rw [SX.S_len, List.length_append]
      have := (dig_ok (n := m) (by omega)).2.1
      exact Nat.le_trans (show _ ≤ 12 by have : inpL.length = 7 := rfl; omega) (by decide)
    have e : Txt.split (SX.S (inpL ++ dig m)) (Str.ofString " ") = [Str.ofString "inputs", SX.S (dig m)] := by
      rw [sp_S]
      exact split_head m1 m6
    rw [e]
    refine ⟨.ref p, rfl, p, _, rfl, .inl (SqL.of upd_same), rfl, _, rfl, iteF ?_⟩
    refine ⟨.ref p, rfl, p, _, 0, _, rfl, rfl, SqL.of upd_same, rfl, rfl, _, rfl, iteF ?_⟩
    refine ⟨.ref p, rfl, p, _, 1, _, rfl, rfl, SqL.of upd_same, rfl, m, rfl, by omega, (Gr.none np).2 _ tab, fun H' g' => q H' ((Gr.none np).trans g')⟩
def sp_read_gate (T : Tx K mg) : Sp := fun vs H Q _ => ∃ g : Gt, vs = [.str (SX.S (lineL g))] ∧ GtS g ∧ GxR.TabG H T.P_read_number ∧ ∀ r H', Gr H H' → Tk H' (.ref r) (gD g) → Q (.ref r) H'
theorem ok_read_gate (T : Tx K mg) (B : Tb base T) : FnOk P w K mg base CX0 3 T.f_read_gate T.fd_read_gate ["line"] (sp_read_gate T) := by
  refine T.F_read_gate.ok sc_read_gate (fun vs H Q E h => ?_) (fun cdv A outer s H vs Q E hr h => ?_)
  · obtain ⟨g, rfl, _⟩ := h
    rfl
  · obtain ⟨g, rfl, hg, tab, q⟩ := h
    refine ⟨_, (pss_cons (ps_asg (pe_bm PySem.F.plainAttrs_str PySem.F.slot_str_split PySem.F.type_str_split mt_split (pv 0) (pa_cons pe_str pa_nil)) (StarR.pg_star rfl (pgs_cons (pg_name (i := 1) sc_read_gate.nd rfl (by first | exact .inl rfl | exact .inr rfl)) (StarR.pgs_star (pg_name (i := 2) sc_read_gate.nd rfl (by first | exact .inl rfl | exact .inr rfl)) pgs_nil)))) (pss_one (ps_ret (pe_tup (pa_cons (pv 1) (pa_cons (pe_callTy call_tuple_of (by rfl) T.m_tuple (by decide +kernel) (pa_cons (pe_lc (own := [("wire", 3)]) (by rfl) sc_read_gate.nd (pi_list (pv 2)) (blkOk_by (own := [("wire", 3)]) (N := ["line", "table", "wires", "wire"]) (sc := defScope s_read_gate) (by decide +kernel)) (fun _ _ _ _ _ => (pg_name (i := 3) sc_read_gate.nd rfl (by first | exact .inl rfl | exact .inr rfl))) (fun _ _ _ _ _ => pts_nil) (fun _ _ _ _ _ => (pe_call (ok_read_number T B) (hr.mono (by decide)) (by rfl) T.g_read_number T.F_read_number.kp T.b_read_number .nil pass0 (pa_cons (pv 3) pa_nil)))) pa_nil)) pa_nil)))))), ?_⟩
    refine ⟨.str (SX.S (lineL g)), rfl, rfl, _, _, rfl, rfl, by decide +kernel, ?_, fun p np => ?_⟩
    · rw [SX.S_len]
      have := line_len hg
      exact Nat.le_trans (show _ ≤ 30 by omega) (by decide)
    have e : Txt.split (SX.S (lineL g)) (Str.ofString " ") = SX.S (g.1.map sgn) :: (g.2.map dig).map SX.S := by
      rw [sp_S]
      exact split_line hg
    rw [e]
    refine ⟨p, _, _, rfl, SqL.of upd_same, fun D nD => ⟨_, _, rfl, _, _, rfl, rfl, ?_⟩⟩
    have hD : (upd (upd H p (.lst (List.map V.str (SX.S (g.1.map sgn) :: (g.2.map dig).map SX.S)))) D (.lst (List.map V.str ((g.2.map dig).map SX.S)))) D = some (.lst (List.map V.str ((g.2.map dig).map SX.S))) := upd_same
    have g1 : Gr H (upd (upd H p (.lst (List.map V.str (SX.S (g.1.map sgn) :: (g.2.map dig).map SX.S)))) D (.lst (List.map V.str ((g.2.map dig).map SX.S)))) := (Gr.none np).trans (Gr.none nD)
    revert hD g1
    generalize upd (upd H p (.lst (List.map V.str (SX.S (g.1.map sgn) :: (g.2.map dig).map SX.S)))) D (.lst (List.map V.str ((g.2.map dig).map SX.S))) = H1
    intro hD g1
    refine ⟨_, rfl, .ref D, rfl, D, rfl, ⟨_, SqL.of hD⟩, fun L nL => ?_⟩
    refine lc_list (K := K) (a := D) (xs := List.map V.str ((g.2.map dig).map SX.S)) (fun j H' => GrD L H1 H' ∧ H' L = some (.lst (nV (g.2.take j)))) ⟨GrD.new nL, upd_same⟩ (fun j H' _ hP => SqL.of (hP.1.gr.lst hD)) ?_ ?_
    · rintro j x H2 hx ⟨g2, hL⟩
      rw [List.getElem?_map, List.getElem?_map, List.getElem?_map] at hx
      cases hj : g.2[j]? with
      | none => rw [hj] at hx; cases hx
      | some k =>
        rw [hj] at hx
        cases Option.some.inj hx
        have hjl := (List.getElem?_eq_some_iff.mp hj).1
        have := hg.2.1
        refine ⟨rfl, .str (SX.S (dig k)), rfl, k, rfl, hg.2.2 k (List.mem_of_getElem? hj), (g1.trans g2.gr).2 _ tab, fun H3 g3 => ⟨_, g3.lst hL, ?_, (g2.then hL g3).set, ?_⟩⟩
        · rw [nV_len, List.length_take]
          exact Nat.lt_of_lt_of_le (show _ < 8 by omega) (by decide)
        · rw [upd_same, List.take_add_one, hj]
          show _ = some (HO.lst (nV (g.2.take j ++ [k])))
          rw [nV_app]
          rfl
    · rintro H2 ⟨g2, hL⟩
      rw [List.length_map, List.length_map, List.length_map, List.take_length] at hL
      refine ⟨L, _, rfl, .inl ⟨SqL.of hL, fun ti nti => ⟨sl2, fun tt ntt => ?_⟩⟩⟩
      refine q tt _ ((g1.trans g2.gr).trans ((Gr.none nti).trans (Gr.none ntt))) ?_
      exact gate_new nti ntt
def TabsR (T : Tx K mg) (H : Hp) : Prop := Tabs2 T H ∧ GxR.TabG H T.P_read_number
theorem TabsR.gr {T : Tx K mg} {H H' : Hp} (t : TabsR T H) (g : Gr H H') : TabsR T H' := ⟨t.1.gr g, g.2 _ t.2⟩
def sp_read_net (T : Tx K mg) : Sp := fun vs H Q _ => ∃ (m : Nat) (gs : List Gt), vs = [.str (SX.S (netL m gs))] ∧ 1 ≤ m ∧ m ≤ 6 ∧ 1 ≤ gs.length ∧ gs.length ≤ 400 ∧ NetOk m gs ∧ TabsR T H ∧ ∀ r H', Gr H H' → Tk H' (.ref r) (netD m gs) → Q (.ref r) H'
theorem netS {m : Nat} {gs : List Gt} (ok : NetOk m gs) (m6 : m ≤ 6) (h : gs.length ≤ 400) : ∀ g ∈ gs, GtS g := fun g hg => by
  obtain ⟨i, hi⟩ := List.getElem?_of_mem hg
  have := (List.getElem?_eq_some_iff.mp hi).1
  exact gts_of (ok i g hi) (by omega)
theorem ok_read_net (T : Tx K mg) (B : Tb base T) : FnOk P w K mg base CX0 6 T.f_read_net T.fd_read_net ["text"] (sp_read_net T) := by
  refine T.F_read_net.ok sc_read_net (fun vs H Q E h => ?_) (fun cdv A outer s H vs Q E hr h => ?_)
  · obtain ⟨m, gs, rfl, _⟩ := h
    rfl
  · obtain ⟨m, gs, rfl, m1, m6, l1, l4, ok, tabs, q⟩ := h
    refine ⟨_, (pss_cons (ps_if (pt_not (pt_val (pe_callB call_isi (by rfl) T.m_isinstance (by decide +kernel) (pa_cons (pv 0) (pa_cons (pe_bltn (v := .ty "str") (u := .type "str") (by rfl) T.m_str (by decide +kernel) rfl) pa_nil))))) (pss_one ps_never) pss_nil) (pss_cons (ps_asg (pe_bm PySem.F.plainAttrs_str PySem.F.slot_str_split PySem.F.type_str_split mt_split (pv 0) (pa_cons pe_str pa_nil)) (StarR.pg_star rfl (pgs_cons (pg_name (i := 1) sc_read_net.nd rfl (by first | exact .inl rfl | exact .inr rfl)) (StarR.pgs_star (pg_name (i := 2) sc_read_net.nd rfl (by first | exact .inl rfl | exact .inr rfl)) pgs_nil)))) (pss_cons (ps_set (i := 3) sc_read_net.nd rfl (by first | exact .inl rfl | exact .inr rfl) (pe_tup (pa_cons (pe_call (ok_read_head T B) (hr.mono (by decide)) (by rfl) T.g_read_head T.F_read_head.kp T.b_read_head .nil pass0 (pa_cons (pv 1) pa_nil)) (pa_cons (pe_callTy call_tuple_of (by rfl) T.m_tuple (by decide +kernel) (pa_cons (pe_lc (own := [("line", 4)]) (by rfl) sc_read_net.nd (pi_list (pv 2)) (blkOk_by (own := [("line", 4)]) (N := ["text", "head", "lines", "net", "line"]) (sc := defScope s_read_net) (by decide +kernel)) (fun _ _ _ _ _ => (pg_name (i := 4) sc_read_net.nd rfl (by first | exact .inl rfl | exact .inr rfl))) (fun _ _ _ _ _ => pts_nil) (fun _ _ _ _ _ => (pe_call (ok_read_gate T B) (hr.mono (by decide)) (by rfl) T.g_read_gate T.F_read_gate.kp T.b_read_gate .nil pass0 (pa_cons (pv 4) pa_nil)))) pa_nil)) pa_nil)))) (pss_cons (ps_if (pt_not (pt_val (pe_call (ok_is_net T B) (hr.mono (by decide)) (by rfl) T.g_is_net T.F_is_net.kp T.b_is_net .nil pass0 (pa_cons (pv 3) pa_nil)))) (pss_one ps_never) pss_nil) (pss_one (ps_ret (pv 3))))))), ?_⟩
    have gS := netS ok m6 l4
    refine ⟨.str (SX.S (netL m gs)), rfl, _, _, _, _, _, rfl, .ty _, .base (.str _), kit_ty kSS, _, rfl, iteF ?_⟩
    refine ⟨.str (SX.S (netL m gs)), rfl, rfl, _, _, rfl, rfl, by decide +kernel, ?_, fun p np => ?_⟩
    · rw [SX.S_len]
      have := net_len (m := m) (by omega) gS
      exact Nat.le_trans (show _ ≤ 9000 by omega) (by decide)
    have e : Txt.split (SX.S (netL m gs)) (Str.ofString "\n") = SX.S (inpL ++ dig m) :: (gs.map lineL).map SX.S := by
      rw [nl_S]
      exact split_net (by omega) gS
    rw [e]
    refine ⟨p, _, _, rfl, SqL.of upd_same, fun D nD => ⟨_, _, rfl, _, _, rfl, rfl, ?_⟩⟩
    have hD : (upd (upd H p (.lst (List.map V.str (SX.S (inpL ++ dig m) :: (gs.map lineL).map SX.S)))) D (.lst (List.map V.str ((gs.map lineL).map SX.S)))) D = some (.lst (List.map V.str ((gs.map lineL).map SX.S))) := upd_same
    have g1 : Gr H (upd (upd H p (.lst (List.map V.str (SX.S (inpL ++ dig m) :: (gs.map lineL).map SX.S)))) D (.lst (List.map V.str ((gs.map lineL).map SX.S)))) := (Gr.none np).trans (Gr.none nD)
    revert hD g1
    generalize upd (upd H p (.lst (List.map V.str (SX.S (inpL ++ dig m) :: (gs.map lineL).map SX.S)))) D (.lst (List.map V.str ((gs.map lineL).map SX.S))) = H1
    intro hD g1
    refine ⟨_, rfl, m, rfl, m1, m6, (tabs.gr g1).2, fun H2 g2 => ?_⟩
    have g12 := g1.trans g2
    have hD2 := g2.lst hD
    refine ⟨.ref D, rfl, D, rfl, ⟨_, SqL.of hD2⟩, fun L nL => ?_⟩
    refine lc_list (K := K) (a := D) (xs := List.map V.str ((gs.map lineL).map SX.S)) (fun j H' => GrD L H2 H' ∧ ∃ acc, H' L = some (.lst acc) ∧ TkAll H' acc ((gs.take j).map gD)) ⟨GrD.new nL, [], upd_same, .nil⟩ (fun j H' _ hP => SqL.of (hP.1.gr.lst hD2)) ?_ ?_
    · rintro j x H3 hx ⟨g3, acc, hL, ta⟩
      rw [List.getElem?_map, List.getElem?_map, List.getElem?_map] at hx
      cases hj : gs[j]? with
      | none => rw [hj] at hx; cases hx
      | some gt =>
        rw [hj] at hx
        cases Option.some.inj hx
        have hjl := (List.getElem?_eq_some_iff.mp hj).1
        refine ⟨rfl, .str (SX.S (lineL gt)), rfl, gt, rfl, gS gt (List.mem_of_getElem? hj), (tabs.gr (g12.trans g3.gr)).2, fun r H4 g4 tr => ?_⟩
        have hL4 := g4.lst hL
        refine ⟨acc, hL4, ?_, (g3.then hL g4).set, acc ++ [.ref r], upd_same, ?_⟩
        · have := ta.length
          rw [List.length_map, List.length_take] at this
          exact Nat.lt_of_lt_of_le (show _ < 500 by omega) (by decide)
        · rw [List.take_add_one, hj]
          show TkAll _ _ ((gs.take j ++ [gt]).map gD)
          rw [List.map_append]
          exact ((ta.gr g4).ts (Ts.set hL4) (noL_gates _)).append (.cons (tr.ts (Ts.set hL4) (noL_gate _)) .nil)
    · rintro H3 ⟨g3, acc, hL, ta⟩
      rw [List.length_map, List.length_map, List.length_map, List.take_length] at ta
      refine ⟨L, _, rfl, .inl ⟨SqL.of hL, fun ti nti => ⟨sl2, fun tt ntt => ?_⟩⟩⟩
      have s4 := (same_upd (o := HO.tup acc) nti).trans (same_upd (o := HO.tup [V.int m, .ref ti]) ntt)
      have tk : Tk (upd (upd H3 ti (.tup acc)) tt (.tup [.int m, .ref ti])) (.ref tt) (netD m gs) := .tup upd_same (.cons (.int _) (.cons (.tup (same_upd ntt _ _ upd_same) (ta.same s4)) .nil))
      have g4 : Gr H (upd (upd H3 ti (.tup acc)) tt (.tup [.int m, .ref ti])) := (g12.trans g3.gr).trans (Gr.of s4)
      refine ⟨.ref tt, rfl, .ref tt, m, gs, rfl, tk, m1, m6, l1, ok, (tabs.gr g4).1, fun H5 g5 => ⟨_, rfl, iteF ?_⟩⟩
      exact ⟨_, rfl, q tt H5 (g4.trans g5) (tk.gr g5)⟩

theorem Tabs.fr {H H' : Hp} {Ps : List Addr} {d l : Addr} {n : Int} (t : Tabs H Ps) (D : DeckC H d l n) (f : Fr d l H H') : Tabs H' Ps := fun P hP => tab_frC D f (t P hP)
theorem Tabs.gr {H H' : Hp} {Ps : List Addr} (t : Tabs H Ps) (g : Gr H H') : Tabs H' Ps := fun P hP => g.2 _ (t P hP)
theorem tabsR {T : Tx K mg} {H : Hp} (t : Tabs H T.tabs) : TabsR T H := ⟨⟨t _ (by simp [Tx.tabs]), t _ (by simp [Tx.tabs]), t _ (by simp [Tx.tabs])⟩, t _ (by simp [Tx.tabs])⟩

end
end Gk

set_option Elab.async false
set_option linter.all false
set_option maxRecDepth 100000
set_option maxHeartbeats 1000000
namespace Gk
open PySem PySem.Spec PyProof.Rows L2
theorem inp_S : Str.ofString "inputs " = SX.S inpL := by decide +kernel
theorem log_dig (n : Nat) (h : n < 1000) : (n : Int).natAbs.log2 < 1920 := by
  rw [Int.natAbs_natCast]
  by_cases z : n = 0
  · subst z; decide
  · have : n.log2 < 10 := (Nat.log2_lt z).mpr (by omega)
    omega
theorem lens_ok {k n : Nat} {sep : Str} (l : List (List Nat)) (h : ∀ p ∈ l, p.length ≤ k) (hl : l.length ≤ n) (hn : n * (k + 1) ≤ 16777216) (hs : sep.length ≤ 1) : ((l.map SX.S).map (·.length)).sum + (l.map SX.S).length * sep.length ≤ 16777216 := by
  rw [SX.lens, List.length_map]
  have a := sum_le (f := fun x : List Nat => x.length) l h
  have b : l.length * (k + 1) ≤ n * (k + 1) := Nat.mul_le_mul_right _ hl
  have c : l.length * sep.length ≤ l.length * 1 := Nat.mul_le_mul_left _ hs
  rw [Nat.mul_add] at b
  omega
theorem nl_1 : (Str.ofString "\n").length ≤ 1 := by decide +kernel
theorem sp_1 : (Str.ofString " ").length ≤ 1 := by decide +kernel
theorem line_join (g : Gt) : Txt.join (Str.ofString " ") (SX.S (g.1.map sgn) :: (g.2.map dig).map SX.S) = SX.S (lineL g) := by
  rw [sp_S]
  exact SX.join_S [32] (g.1.map sgn :: g.2.map dig)
theorem net_join (m : Nat) (gs : List Gt) : Txt.join (Str.ofString "\n") (SX.S (inpL ++ dig m) :: (gs.map lineL).map SX.S) = SX.S (netL m gs) := by
  rw [nl_S]
  exact SX.join_S [10] ((inpL ++ dig m) :: gs.map lineL)
theorem line_parts_ok {g : Gt} (h : GtS g) : (((g.1.map sgn :: g.2.map dig).map SX.S).map (·.length)).sum + ((g.1.map sgn :: g.2.map dig).map SX.S).length * (Str.ofString " ").length ≤ 16777216 := by
  refine lens_ok (k := 8) (n := 4) (g.1.map sgn :: g.2.map dig) (fun p hp => ?_) ?_ (by decide) sp_1
  · rcases List.mem_cons.mp hp with rfl | hp
    · rw [List.length_map]; exact h.1
    · obtain ⟨wn, hw, rfl⟩ := List.mem_map.mp hp
      have := (dig_ok (h.2.2 wn hw)).2.1
      omega
  · rw [List.length_cons, List.length_map]
    have := h.2.1
    omega
theorem net_parts_ok {m : Nat} {gs : List Gt} (hm : m < 1000) (h : ∀ g ∈ gs, GtS g) (hl : gs.length ≤ 400) : (((inpL ++ dig m) :: gs.map lineL).map SX.S |>.map (·.length)).sum + (((inpL ++ dig m) :: gs.map lineL).map SX.S).length * (Str.ofString "\n").length ≤ 16777216 := by
  refine lens_ok (k := 21) (n := 500) ((inpL ++ dig m) :: gs.map lineL) (fun p hp => ?_) ?_ (by decide) nl_1
  · rcases List.mem_cons.mp hp with rfl | hp
    · rw [List.length_append]
      have := (dig_ok (n := m) hm).2.1
      have : inpL.length = 7 := rfl
      omega
    · obtain ⟨g, hg, rfl⟩ := List.mem_map.mp hp
      exact line_len (h g hg)
  · rw [List.length_cons, List.length_map]
    omega
theorem joinL_snoc (s : Nat) (p : List Nat) (l : List (List Nat)) (q : List Nat) : TL.joinL [s] (p :: (l ++ [q])) = TL.joinL [s] (p :: l) ++ s :: q := by
  induction l generalizing p with
  | nil => rfl
  | cons x r ih =>
    show p ++ ([s] ++ TL.joinL [s] (x :: (r ++ [q]))) = (p ++ ([s] ++ TL.joinL [s] (x :: r))) ++ s :: q
    rw [ih x]
    simp
theorem dig_inj {a b : Nat} (ha : a < 1000) (hb : b < 1000) (h : dig a = dig b) : a = b := by
  have e1 := (dig_ok ha).2.2.2.1
  have e2 := (dig_ok hb).2.2.2.1
  rw [h, e2] at e1
  have := Option.some.inj e1
  omega
theorem sgn_inj {a b : Bool} (h : sgn a = sgn b) : a = b := by cases a <;> cases b <;> first | rfl | cases h
theorem map_inj {α β : Type} {f : α → β} : ∀ {a b : List α}, (∀ x ∈ a, ∀ y ∈ b, f x = f y → x = y) → a.map f = b.map f → a = b
  | [], [], _, _ => rfl
  | [], _ :: _, _, h => by cases h
  | _ :: _, [], _, h => by cases h
  | x :: a, y :: b, inj, h => by
    have h1 := (List.cons.inj h).1
    have h2 := (List.cons.inj h).2
    rw [inj x (List.mem_cons_self ..) y (List.mem_cons_self ..) h1, map_inj (fun u hu v hv => inj u (List.mem_cons_of_mem _ hu) v (List.mem_cons_of_mem _ hv)) h2]
theorem line_inj {g h : Gt} (hg : GtS g) (hh : GtS h) (e : lineL g = lineL h) : g = h := by
  have s1 := split_line hg
  rw [e, split_line hh] at s1
  obtain ⟨e1, e2⟩ := List.cons.inj s1
  have t1 : g.1 = h.1 := (map_inj (fun _ _ _ _ z => sgn_inj z) (SX.S_inj e1)).symm
  have t2 : g.2 = h.2 := (map_inj (fun x hx y hy z => dig_inj (hh.2.2 x hx) (hg.2.2 y hy) z) (map_inj (fun _ _ _ _ z => SX.S_inj z) e2)).symm
  exact Prod.ext t1 t2
theorem net_inj {m : Nat} {gs hs : List Gt} (hm : m < 1000) (hg : ∀ g ∈ gs, GtS g) (hh : ∀ g ∈ hs, GtS g) (e : netL m gs = netL m hs) : gs = hs := by
  have s1 := split_net hm hg
  rw [e, split_net hm hh] at s1
  have e2 := (List.cons.inj s1).2
  exact (map_inj (fun x hx y hy z => line_inj (hh x hx) (hg y hy) z) (map_inj (fun _ _ _ _ z => SX.S_inj z) e2)).symm

section
variable {P : Program} {w : World} {K : PySem.W.Frag} {mg : Str → Option Value} {base : Heap}
def sp_show (K : PySem.W.Frag) : Sp := fun vs H Q _ => ∃ (nv : V) (m : Nat) (gs : List Gt), vs = [nv] ∧ Tk H nv (netD m gs) ∧ 1 ≤ m ∧ m ≤ 6 ∧ gs.length ≤ 300 ∧ NetOk m gs ∧ ∀ H', Same H H' → Q (.str (SX.S (netL m gs))) H'
theorem ok_show_net (T : Tx K mg) : FnOk P w K mg base CX0 1 T.f_show_net T.fd_show_net ["net"] (sp_show K) := by
  refine T.F_show_net.ok sc_show_net (fun vs H Q E h => ?_) (fun cdv A outer s H vs Q E hr h => ?_)
  · obtain ⟨nv, m, gs, rfl, _⟩ := h
    rfl
  · obtain ⟨nv, m, gs, rfl, tn, m1, m6, l3, ok, q⟩ := h
    refine ⟨_, (pss_cons (ps_asg (pv 0) (pg_tup rfl (pgs_cons (pg_name (i := 1) sc_show_net.nd rfl (by first | exact .inl rfl | exact .inr rfl)) (pgs_cons (pg_name (i := 2) sc_show_net.nd rfl (by first | exact .inl rfl | exact .inr rfl)) pgs_nil)))) (pss_cons (ps_set (i := 3) sc_show_net.nd rfl (by first | exact .inl rfl | exact .inr rfl) (pe_lst (pa_cons (pe_joined (.cons pe_str (.cons (pe_fmt (pv 1)) .nil))) pa_nil))) (pss_cons (ps_for PassesOwn.never rfl (pi_tup (pv 2)) (pg_tup rfl (pgs_cons (pg_name (i := 4) sc_show_net.nd rfl (by first | exact .inl rfl | exact .inr rfl)) (pgs_cons (pg_name (i := 5) sc_show_net.nd rfl (by first | exact .inl rfl | exact .inr rfl)) pgs_nil))) (pss_one (ps_expr (pe_bm PySem.F.plainAttrs_list PySem.F.slot_list_append PySem.F.type_list_append mt_append (pv 3) (pa_cons (pe_join pe_str (pe_op op_cat (pe_lst (pa_cons (pv 4) pa_nil)) (pe_lc (own := [("wire", 6)]) (by rfl) sc_show_net.nd (pi_tup (pv 5)) (blkOk_by (own := [("wire", 6)]) (N := ["net", "many", "gates", "lines", "table", "ins", "wire"]) (sc := defScope s_show_net) (by decide +kernel)) (fun _ _ _ _ _ => (pg_name (i := 6) sc_show_net.nd rfl (by first | exact .inl rfl | exact .inr rfl))) (fun _ _ _ _ _ => pts_nil) (fun _ _ _ _ _ => (pe_callTy call_str_int (by rfl) T.m_str (by decide +kernel) (pa_cons (pv 6) pa_nil)))))) pa_nil))))) (pss_one (ps_ret (pe_join pe_str (pv 3))))))), ?_⟩
    have gS := netS ok m6 (by omega)
    obtain ⟨n, g, xs, rfl, hn, hg, tg⟩ := tn.net_inv
    have xl : xs.length = gs.length := by rw [tg.length, List.length_map]
    have dl := (dig_ok (n := m) (by omega)).2.1
    have i7 : inpL.length = 7 := rfl
    have z0 : Str.empty = SX.S [] := by decide +kernel
    have c1 : Str.empty ++ Str.ofString "inputs " = SX.S inpL := by
      rw [z0, inp_S, SX.S_cat]
      rfl
    refine ⟨.ref n, rfl, n, _, rfl, SqT.of hn, rfl, _, _, rfl, _, _, rfl, rfl, ?_⟩
    refine ⟨_, rfl, by rw [c1, SX.S_len, i7]; decide, .int m, rfl, .inr ⟨(m : Int), rfl, log_dig m (by omega), _, rfl, ?_, sl1, fun R nR => ?_⟩⟩
    · rw [c1, dig_S m, SX.S_cat, SX.S_len, List.length_append]
      exact Nat.le_trans (show _ ≤ 20 by omega) (by decide)
    rw [c1, dig_S m, SX.S_cat]
    have s1 := same_upd (o := HO.lst [V.str (SX.S (inpL ++ dig m))]) nR
    refine ⟨.ref g, rfl, g, rfl, ⟨_, SqT.of (s1 _ _ hg)⟩, ?_⟩
    refine for_tup (K := K) (a := g) (xs := xs) (fun j σ H' => ∃ y4 y5, σ = [some (.ref n), some (.int m), some (.ref g), some (.ref R), y4, y5, none] ∧ Same H (hd1 R H') ∧ H' R = some (.lst (List.map V.str (SX.S (inpL ++ dig m) :: ((gs.take j).map lineL).map SX.S))))
      ⟨_, _, rfl, hd1_of s1 nR, upd_same⟩ (fun j σ H' _ ⟨_, _, _, hP, _⟩ => SqT.of (hd1_le _ _ (hP _ _ hg))) ?_ ?_
    · rintro j vv σ H2 hv ⟨y4, y5, rfl, s2, hR⟩
      have s12 : Same H H2 := fun b o e => hd1_le _ _ (s2 _ _ e)
      obtain ⟨gt, hgt, tgt⟩ := tg.at hv
      have hgl := (List.getElem?_eq_some_iff.mp hgt).1
      have gtS := gS gt (List.mem_of_getElem? hgt)
      obtain ⟨ga, ii, rfl, hga, hii⟩ := (tgt.same s12).gt_inv
      refine ⟨ga, _, rfl, SqT.of hga, rfl, _, _, rfl, _, _, rfl, rfl, ?_⟩
      refine ⟨.ref R, rfl, .inl ⟨rfl, _, SqL.of hR⟩, ⟨_, rfl⟩, .str (tabOf gt.1), rfl, sl1, fun p1 n1 => ?_⟩
      have s3 := same_upd (o := HO.lst [V.str (tabOf gt.1)]) n1
      refine ⟨.ref ii, rfl, ii, rfl, ⟨_, SqT.of (s3 _ _ hii)⟩, fun L nL => ?_⟩
      refine lc_tup (K := K) (a := ii) (xs := (gt.2.map Int.ofNat).map V.int) (fun k H' => Same (upd H2 p1 (.lst [V.str (tabOf gt.1)])) (hd1 L H') ∧ H' L = some (.lst (List.map V.str (((gt.2.take k).map dig).map SX.S)))) ⟨hd1_of (same_upd nL) nL, upd_same⟩ (fun k H' _ hP => SqT.of (hd1_le _ _ (hP.1 _ _ (s3 _ _ hii)))) ?_ ?_
      · rintro k x H3 hx ⟨s4, hL⟩
        rw [List.getElem?_map, List.getElem?_map] at hx
        cases hj : gt.2[k]? with
        | none => rw [hj] at hx; cases hx
        | some wn =>
          rw [hj] at hx
          cases Option.some.inj hx
          have hkl := (List.getElem?_eq_some_iff.mp hj).1
          have := gtS.2.1
          have hw := gtS.2.2 wn (List.mem_of_getElem? hj)
          refine ⟨rfl, .int (Int.ofNat wn), rfl, (wn : Int), rfl, log_dig wn hw, _, hL, ?_, s4.trans hd1_upd, ?_⟩
          · rw [List.length_map, List.length_map, List.length_map, List.length_take]
            exact Nat.lt_of_lt_of_le (show _ < 8 by omega) (by decide)
          · rw [upd_same, dig_S wn, List.take_add_one, hj]
            show _ = some (HO.lst (List.map V.str (((gt.2.take k ++ [wn]).map dig).map SX.S)))
            rw [List.map_append, List.map_append, List.map_append]
            rfl
      · rintro H3 ⟨s4, hL⟩
        rw [List.length_map, List.length_map, List.take_length] at hL
        have s24 : Same H2 H3 := s3.trans fun b o e => hd1_le _ _ (s4 _ _ e)
        have hp1 := hd1_le _ _ (s4 _ _ (show (upd H2 p1 (.lst [V.str (tabOf gt.1)])) p1 = _ from upd_same))
        have g3 := gtS.2.1
        refine ⟨p1, L, _, _, rfl, rfl, hp1, hL, ?_, fun qq nq => ?_⟩
        · rw [List.length_map, List.length_map, List.length_map]
          exact Nat.le_trans (show _ ≤ 8 by simp only [List.length_cons, List.length_nil]; omega) (by decide)
        have s5 := same_upd (o := HO.lst ([V.str (tabOf gt.1)] ++ List.map V.str ((gt.2.map dig).map SX.S))) nq
        refine ⟨Str.ofString " ", qq, SX.S (gt.1.map sgn) :: (gt.2.map dig).map SX.S, rfl, rfl, .inl (SqL.of upd_same), line_parts_ok gtS, ?_⟩
        rw [line_join]
        have hR3 := s5 _ _ (s24 _ _ hR)
        refine ⟨R, _, _, rfl, rfl, hR3, ?_, ?_⟩
        · rw [List.length_map, List.length_cons, List.length_map, List.length_map, List.length_take]
          exact Nat.lt_of_lt_of_le (show _ < 500 by omega) (by decide)
        · refine ⟨_, _, rfl, s2.trans ((hd1_same (s24.trans s5)).trans hd1_upd), ?_⟩
          rw [upd_same, List.take_add_one, hgt]
          show _ = some (HO.lst (List.map V.str (SX.S (inpL ++ dig m) :: ((gs.take j ++ [gt]).map lineL).map SX.S)))
          rw [List.map_append, List.map_append, ← List.cons_append, List.map_append]
          rfl
    · rintro σ H2 ⟨y4, y5, rfl, s2, hR⟩
      rw [xl, List.take_length] at hR
      refine ⟨⟨_, rfl⟩, .ref R, rfl, Str.ofString "\n", R, SX.S (inpL ++ dig m) :: (gs.map lineL).map SX.S, rfl, rfl, .inl (SqL.of hR), net_parts_ok (by omega) gS (by omega), ?_⟩
      rw [net_join]
      exact q H2 fun b o e => hd1_le _ _ (s2 _ _ e)
theorem ok_shown (T : Tx K mg) : FnOk P w K mg base CX0 1 T.f_shown T.fd_shown ["_law_net_here"] (sp_show K) := by
  refine T.F_shown.ok sc_shown (fun vs H Q E h => ?_) (fun cdv A outer s H vs Q E hr h => ?_)
  · obtain ⟨nv, m, gs, rfl, _⟩ := h
    rfl
  · obtain ⟨nv, m, gs, rfl, tn, m1, m6, l3, ok, q⟩ := h
    refine ⟨_, (pss_cons (ps_set (i := 1) sc_shown.nd rfl (by first | exact .inl rfl | exact .inr rfl) (pe_lst (pa_cons (pe_op op_add_str pe_str (pe_callTy call_str_int (by rfl) T.m_str (by decide +kernel) (pa_cons (pe_ix ix_tup (pv 0) pe_int (fun _ _ => rfl)) pa_nil))) pa_nil))) (pss_cons (ps_for PassesOwn.never rfl (pi_tup (pe_ix ix_tup (pv 0) pe_int (fun _ _ => rfl))) (pg_tup rfl (pgs_cons (pg_name (i := 2) sc_shown.nd rfl (by first | exact .inl rfl | exact .inr rfl)) (pgs_cons (pg_name (i := 3) sc_shown.nd rfl (by first | exact .inl rfl | exact .inr rfl)) pgs_nil))) (pss_cons (ps_set (i := 4) sc_shown.nd rfl (by first | exact .inl rfl | exact .inr rfl) (pv 2)) (pss_cons (ps_for PassesOwn.never rfl (pi_tup (pv 3)) (pg_name (i := 5) sc_shown.nd rfl (by first | exact .inl rfl | exact .inr rfl)) (pss_one (ps_set (i := 4) sc_shown.nd rfl (by first | exact .inl rfl | exact .inr rfl) (pe_op op_add_str (pe_op op_add_str (pv 4) pe_str) (pe_callTy call_str_int (by rfl) T.m_str (by decide +kernel) (pa_cons (pv 5) pa_nil)))))) (pss_one (ps_expr (pe_bm PySem.F.plainAttrs_list PySem.F.slot_list_append PySem.F.type_list_append mt_append (pv 1) (pa_cons (pv 4) pa_nil))))))) (pss_one (ps_ret (pe_join pe_str (pv 1)))))), ?_⟩
    have gS := netS ok m6 (by omega)
    obtain ⟨n, g, xs, rfl, hn, hg, tg⟩ := tn.net_inv
    have xl : xs.length = gs.length := by rw [tg.length, List.length_map]
    have dl := (dig_ok (n := m) (by omega)).2.1
    have i7 : inpL.length = 7 := rfl
    refine ⟨.ref n, rfl, n, _, 0, .int m, rfl, rfl, SqT.of hn, rfl, (m : Int), rfl, log_dig m (by omega), Str.ofString "inputs ", _, rfl, rfl, ?_, sl1, fun R nR => ?_⟩
    · rw [dig_S m, inp_S, SX.S_len, SX.S_len]
      exact Nat.le_trans (show _ ≤ 20 by omega) (by decide)
    rw [dig_S m, inp_S, SX.S_cat]
    have s1 := same_upd (o := HO.lst [V.str (SX.S (inpL ++ dig m))]) nR
    refine ⟨.ref n, rfl, n, _, 1, .ref g, rfl, rfl, SqT.of (s1 _ _ hn), rfl, g, rfl, ⟨_, SqT.of (s1 _ _ hg)⟩, ?_⟩
    refine for_tup (K := K) (a := g) (xs := xs) (fun j σ H' => ∃ y2 y3 y4 y5, σ = [some (.ref n), some (.ref R), y2, y3, y4, y5] ∧ Same H (hd1 R H') ∧ H' R = some (.lst (List.map V.str (SX.S (inpL ++ dig m) :: ((gs.take j).map lineL).map SX.S))))
      ⟨_, _, _, _, rfl, hd1_of s1 nR, upd_same⟩ (fun j σ H' _ ⟨_, _, _, _, _, hP, _⟩ => SqT.of (hd1_le _ _ (hP _ _ hg))) ?_ ?_
    · rintro j vv σ H2 hv ⟨y2, y3, y4, y5, rfl, s2, hR⟩
      have s12 : Same H H2 := fun b o e => hd1_le _ _ (s2 _ _ e)
      obtain ⟨gt, hgt, tgt⟩ := tg.at hv
      have hgl := (List.getElem?_eq_some_iff.mp hgt).1
      have gtS := gS gt (List.mem_of_getElem? hgt)
      obtain ⟨ga, ii, rfl, hga, hii⟩ := (tgt.same s12).gt_inv
      refine ⟨ga, _, rfl, SqT.of hga, rfl, _, _, rfl, _, _, rfl, rfl, ?_⟩
      refine ⟨.str (tabOf gt.1), rfl, .ref ii, rfl, ii, rfl, ⟨_, SqT.of hii⟩, ?_⟩
      have g3 := gtS.2.1
      refine for_tup (K := K) (a := ii) (xs := (gt.2.map Int.ofNat).map V.int) (fun k σ H' => ∃ y5, σ = [some (.ref n), some (.ref R), some (.str (tabOf gt.1)), some (.ref ii), some (.str (SX.S (TL.joinL [32] (gt.1.map sgn :: (gt.2.take k).map dig)))), y5] ∧ H' = H2) ⟨_, rfl, rfl⟩ (fun k σ H' _ ⟨_, _, e⟩ => by rw [e]; exact SqT.of hii) ?_ ?_
      · rintro k x σ H3 hx ⟨y5', rfl, rfl⟩
        rw [List.getElem?_map, List.getElem?_map] at hx
        cases hj : gt.2[k]? with
        | none => rw [hj] at hx; cases hx
        | some wn =>
          rw [hj] at hx
          cases Option.some.inj hx
          have hkl := (List.getElem?_eq_some_iff.mp hj).1
          have hw := gtS.2.2 wn (List.mem_of_getElem? hj)
          have tS : GtS (gt.1, gt.2.take k) := ⟨gtS.1, by show (gt.2.take k).length ≤ 3; rw [List.length_take]; omega, fun i hi => gtS.2.2 i (List.mem_of_mem_take hi)⟩
          have ll : (TL.joinL [32] (gt.1.map sgn :: (gt.2.take k).map dig)).length ≤ 21 := line_len tS
          have wl := (dig_ok hw).2.1
          refine ⟨.str _, rfl, _, Str.ofString " ", rfl, rfl, ?_, .int (Int.ofNat wn), rfl, (wn : Int), rfl, log_dig wn hw, _, _, rfl, rfl, ?_, ?_⟩
          · rw [sp_S, SX.S_len, SX.S_len]
            exact Nat.le_trans (show _ ≤ 40 by simp only [List.length_cons, List.length_nil]; omega) (by decide)
          · rw [dig_S wn, sp_S, SX.S_cat, SX.S_len, SX.S_len, List.length_append]
            exact Nat.le_trans (show _ ≤ 40 by simp only [List.length_cons, List.length_nil]; omega) (by decide)
          · refine ⟨some (.int (Int.ofNat wn)), ?_, rfl⟩
            have e : (SX.S (TL.joinL [32] (gt.1.map sgn :: (gt.2.take k).map dig)) ++ Str.ofString " ") ++ (toString (wn : Int) : Str) = SX.S (TL.joinL [32] (gt.1.map sgn :: (gt.2.take (k + 1)).map dig)) := by
              rw [dig_S wn, sp_S, SX.S_cat, SX.S_cat, List.take_add_one, hj]
              show _ = SX.S (TL.joinL [32] (gt.1.map sgn :: ((gt.2.take k ++ [wn]).map dig)))
              rw [List.map_append, List.map_cons, List.map_nil, joinL_snoc, List.append_assoc]
              rfl
            show [_, _, _, _, some (V.str ((SX.S (TL.joinL [32] (gt.1.map sgn :: (gt.2.take k).map dig)) ++ Str.ofString " ") ++ (toString (wn : Int) : Str))), _] = _
            rw [e]
      · rintro σ H3 ⟨y5', rfl, rfl⟩
        rw [List.length_map, List.length_map, List.take_length]
        refine ⟨.ref R, rfl, .inl ⟨rfl, _, SqL.of hR⟩, .str _, rfl, R, _, _, rfl, rfl, hR, ?_, ?_⟩
        · rw [List.length_map, List.length_cons, List.length_map, List.length_map, List.length_take]
          exact Nat.lt_of_lt_of_le (show _ < 500 by omega) (by decide)
        · refine ⟨_, _, _, _, rfl, s2.trans hd1_upd, ?_⟩
          rw [upd_same, List.take_add_one, hgt]
          show _ = some (HO.lst (List.map V.str (SX.S (inpL ++ dig m) :: ((gs.take j ++ [gt]).map lineL).map SX.S)))
          rw [List.map_append, List.map_append, ← List.cons_append, List.map_append]
          rfl
    · rintro σ H2 ⟨y2, y3, y4, y5, rfl, s2, hR⟩
      rw [xl, List.take_length] at hR
      refine ⟨⟨_, rfl⟩, .ref R, rfl, Str.ofString "\n", R, SX.S (inpL ++ dig m) :: (gs.map lineL).map SX.S, rfl, rfl, .inl (SqL.of hR), net_parts_ok (by omega) gS (by omega), ?_⟩
      rw [net_join]
      exact q H2 fun b o e => hd1_le _ _ (s2 _ _ e)

end
end Gk

set_option Elab.async false
set_option linter.all false
set_option maxRecDepth 100000
set_option maxHeartbeats 1000000
namespace Gk
open PySem PySem.Spec PyProof.Rows L2
section
variable {P : Program} {w : World} {K : PySem.W.Frag} {mg : Str → Option Value} {base : Heap}
theorem cut_tab1 {cs : List Bool} {h : Nat} (hl : h ≤ cs.length) : cutS (tabOf cs) none (some (h : Int)) = tabOf (cs.take h) := by
  have e : (tabOf cs).length = cs.length := by simp [tabOf, Str.length]
  unfold cutS tabOf
  rw [show (⟨(cs.map fun b => if b = true then 49 else 48).toArray⟩ : Str).length = cs.length from e, HT.sIx_none, HT.sIx_nat, Nat.min_eq_left hl, List.drop_zero, Nat.sub_zero, List.map_take]
theorem cut_tab2 {cs : List Bool} {h : Nat} (hl : h ≤ cs.length) : cutS (tabOf cs) (some (h : Int)) none = tabOf (cs.drop h) := by
  have e : (tabOf cs).length = cs.length := by simp [tabOf, Str.length]
  unfold cutS tabOf
  rw [show (⟨(cs.map fun b => if b = true then 49 else 48).toArray⟩ : Str).length = cs.length from e, HT.sIx_none, HT.sIx_nat, Nat.min_eq_left hl, List.map_drop]
  congr 1
  congr 1
  apply List.take_of_length_le
  simp

/-! ### a net near another one -/
theorem eqv_ints : ∀ a b : List Int, PyData.eqvAll (a.map PyData.int) (b.map PyData.int) = decide (a = b)
  | [], [] => rfl
  | [], _ :: _ => rfl
  | _ :: _, [] => rfl
  | x :: a, y :: b => by
    show ((x == y) && PyData.eqvAll (a.map PyData.int) (b.map PyData.int)) = _
    rw [eqv_ints a b]
    by_cases h : x = y
    · subst h
      simp
    · have : (x == y) = false := beq_eq_false_iff_ne.mpr h
      rw [this, Bool.false_and]
      exact (decide_eq_false fun e => h (List.cons.inj e).1).symm
theorem sh_nums (ns : List Int) : SeqAt.shaped (.tuple (ns.map PyData.int)) = true := by
  unfold SeqAt.shaped
  rw [Bool.and_eq_true]
  refine ⟨?_, ?_⟩
  · simp only [PyData.canLay0, canLayAll_ints]
  · simp only [PyData.depth, depthAll_ints]
    decide
theorem NetOk.put {m : Nat} {gs : List Gt} {i : Nat} {g : Gt} (ok : NetOk m gs) (hg : GtOk (m + i) g) : NetOk m (gs.set i g) := fun k g' e => by
  rw [List.getElem?_set] at e
  by_cases h : i = k
  · subst h
    rw [if_pos rfl] at e
    split at e
    · cases Option.some.inj e
      exact hg
    · cases e
  · rw [if_neg h] at e
    exact ok k g' e
theorem tab_put {bs : List Bool} {k : Nat} (h : k < bs.length) (b : Bool) : (tabOf (bs.take k) ++ tabOf [b]) ++ tabOf (bs.drop (k + 1)) = tabOf (bs.set k b) := by
  rw [tab_S, tab_S, tab_S, tab_S, SX.S_cat, SX.S_cat, ← List.map_append, ← List.map_append, set_put h]
def sp_near (K : PySem.W.Frag) : Sp := fun vs H Q _ => ∃ (d l : Addr) (n : Int) (nv : V) (m : Nat) (gs : List Gt), vs = [.ref d, nv] ∧ DeckC H d l n ∧ n < 1000000 ∧ Tk H nv (netD m gs) ∧ 1 ≤ m ∧ m ≤ 6 ∧ 1 ≤ gs.length ∧ gs.length ≤ 64 ∧ NetOk m gs ∧
  ∀ r H' gs', DeckC H' d l (n + 8) → Fr d l H H' → Tk H' (.ref r) (netD m gs') → gs'.length = gs.length → NetOk m gs' → gs' ≠ gs → Q (.ref r) H'
theorem ok_near (T : Tx K mg) : FnOk P w K mg base CX0 3 T.f_near T.fd_near ["_law_deck_here", "_law_net_here"] (sp_near K) := by
  refine T.F_near.ok sc_near (fun vs H Q E h => ?_) (fun cdv A outer s H vs Q E hr h => ?_)
  · obtain ⟨d, l, n, nv, m, gs, rfl, _⟩ := h
    rfl
  · obtain ⟨d, l, n, nv, m, gs, rfl, D, hn, tn, m1, m6, g1, g64, ok, q⟩ := h
    refine ⟨_, (pss_cons (ps_asg (pv 1) (pg_tup rfl (pgs_cons (pg_name (i := 2) sc_near.nd rfl (by first | exact .inl rfl | exact .inr rfl)) (pgs_cons (pg_name (i := 3) sc_near.nd rfl (by first | exact .inl rfl | exact .inr rfl)) pgs_nil)))) (pss_cons (ps_set (i := 4) sc_near.nd rfl (by first | exact .inl rfl | exact .inr rfl) (pe_call (ok_take T) (hr.mono (by decide)) (by rfl) T.g_take T.F_take.kp T.b_take .nil pass0 (pa_cons (pv 0) (pa_cons (pe_callB call_len_seq (by rfl) T.m_len PySem.boot_len (pa_cons (pv 3) pa_nil)) pa_nil)))) (pss_cons (ps_asg (pe_ix ix_tup (pv 3) (pv 4) (fun _ _ => rfl)) (pg_tup rfl (pgs_cons (pg_name (i := 5) sc_near.nd rfl (by first | exact .inl rfl | exact .inr rfl)) (pgs_cons (pg_name (i := 6) sc_near.nd rfl (by first | exact .inl rfl | exact .inr rfl)) pgs_nil)))) (pss_cons (ps_set (i := 7) sc_near.nd rfl (by first | exact .inl rfl | exact .inr rfl) (pe_call (ok_take T) (hr.mono (by decide)) (by rfl) T.g_take T.F_take.kp T.b_take .nil pass0 (pa_cons (pv 0) (pa_cons (pe_callB call_len_seq (by rfl) T.m_len PySem.boot_len (pa_cons (pv 6) pa_nil)) pa_nil)))) (pss_cons (ps_set (i := 8) sc_near.nd rfl (by first | exact .inl rfl | exact .inr rfl) (pe_op op_catA (pe_op op_catA (pe_slice sl_tupA (pv 6) po_none (po_some (pv 7))) (pe_tup (pa_cons (pe_call (ok_take T) (hr.mono (by decide)) (by rfl) T.g_take T.F_take.kp T.b_take .nil pass0 (pa_cons (pv 0) (pa_cons (pe_op op_add (pv 2) (pv 4)) pa_nil))) pa_nil))) (pe_slice sl_tupA (pv 6) (po_some (pe_op op_add (pv 7) pe_int)) po_none))) (C8.pss_cut (ps_if (pt_cmpR (op_eqD hr.units) (pv 8) (pv 6) (nomark _)) (pss_cons (ps_set (i := 7) sc_near.nd rfl (by first | exact .inl rfl | exact .inr rfl) (pe_call (ok_take T) (hr.mono (by decide)) (by rfl) T.g_take T.F_take.kp T.b_take .nil pass0 (pa_cons (pv 0) (pa_cons (pe_callB call_len_str (by rfl) T.m_len PySem.boot_len (pa_cons (pv 5) pa_nil)) pa_nil)))) (pss_one (ps_set (i := 5) sc_near.nd rfl (by first | exact .inl rfl | exact .inr rfl) (pe_op op_add_str (pe_op op_add_str (pe_slice sl_str (pv 5) po_none (po_some (pv 7))) (pe_ix ix_list (pe_lst (pa_cons pe_str (pa_cons pe_str pa_nil))) (pe_callTy call_int_str (by rfl) T.m_int (by decide +kernel) (pa_cons (pe_item_str (pv 5) (pv 7) (fun _ _ => rfl)) pa_nil)) (fun _ _ => rfl))) (pe_slice sl_str (pv 5) (po_some (pe_op op_add (pv 7) pe_int)) po_none))))) pss_nil) (pss_one (ps_ret (pe_tup (pa_cons (pv 2) (pa_cons (pe_op op_catA (pe_op op_catA (pe_slice sl_tupA (pv 3) po_none (po_some (pv 4))) (pe_tup (pa_cons (pe_tup (pa_cons (pv 5) (pa_cons (pv 8) pa_nil))) pa_nil))) (pe_slice sl_tupA (pv 3) (po_some (pe_op op_add (pv 4) pe_int)) po_none)) pa_nil))))))))))), ?_⟩
    obtain ⟨a, g, xs, rfl, ha, hg, tg⟩ := tn.net_inv
    have xl : xs.length = gs.length := by rw [tg.length, List.length_map]
    refine ⟨.ref a, rfl, a, _, rfl, SqT.of ha, rfl, _, _, rfl, _, _, rfl, rfl, ?_⟩
    refine ⟨.ref d, rfl, .ref g, rfl, g, _, rfl, .inr (SqT.of hg), d, l, _, _, rfl, D, by omega, by omega, by omega, fun H1 at0 D1 fr1 a0 a1 => ?_⟩
    obtain ⟨i, rfl⟩ := Int.eq_ofNat_of_zero_le a0
    have hi : i < gs.length := by omega
    have hg1 := Ts.frC D fr1 _ _ hg
    have tg1 := tg.ts (Ts.frC D fr1) (noL_gates gs)
    obtain ⟨gt, hgt⟩ : ∃ gt, gs[i]? = some gt := ⟨_, List.getElem?_eq_getElem hi⟩
    obtain ⟨gv, hgv, tgt⟩ := tg1.at' hgt
    obtain ⟨ga, ii, rfl, hga, hii⟩ := tgt.gt_inv
    have okg := ok i gt hgt
    refine ⟨.ref g, rfl, .int (i : Nat), rfl, g, _, _, _, rfl, rfl, SqT.of hg1, atI_nat hgv, ga, _, rfl, SqT.of hga, rfl, _, _, rfl, _, _, rfl, rfl, ?_⟩
    have li : (nV gt.2).length = gt.2.length := nV_len _
    have hii : H1 ii = some (.tup (nV gt.2)) := hii
    refine ⟨.ref d, rfl, .ref ii, rfl, ii, _, rfl, .inr (SqT.of hii), ?_⟩
    rw [li]
    refine ⟨d, l, _, _, rfl, D1, by omega, by have := okg.2.1; omega, by have := okg.2.2.1; omega, fun H2 pl D2 fr2 p0 p1 => ?_⟩
    obtain ⟨k, rfl⟩ := Int.eq_ofNat_of_zero_le p0
    have hk : k < gt.2.length := by omega
    have hii2 := Ts.frC D1 fr2 _ _ hii
    -- other
    refine ⟨.ref ii, rfl, .int (k : Nat), rfl, (k : Int), rfl, slA hii2 fun q1 H3 s3 h3 => ?_⟩
    rw [cut_to] at h3
    have D3 := D2.same s3
    refine ⟨.ref d, rfl, .int m, rfl, .int (i : Nat), rfl, _, _, rfl, rfl, d, l, _, _, rfl, D3, by omega, by omega, by omega, fun H4 x D4 fr4 x0 x1 => ⟨sl1, fun t nt => ?_⟩⟩
    obtain ⟨xn, rfl⟩ := Int.eq_ofNat_of_zero_le x0
    have xlt : xn < m + i := by omega
    have s5 := same_upd (o := HO.tup [V.int (xn : Int)]) nt
    have h35 := s5 _ _ (Ts.frC D3 fr4 _ _ h3)
    refine catA h35 upd_same ?_ fun q2 H6 s6 h6 => ?_
    · rw [List.length_take, li]
      have := okg.2.2.1
      exact Nat.le_trans (show _ ≤ 8 by simp only [List.length_cons, List.length_nil]; omega) (by decide)
    have s56 := s5.trans s6
    have hii6 := s56 _ _ (Ts.frC D3 fr4 _ _ (s3 _ _ hii2))
    refine ⟨.ref ii, rfl, .int (k : Nat), rfl, _, _, rfl, rfl, ((k + 1 : Nat) : Int), rfl, ?_⟩
    refine slAn hii6 fun q3 H7 s7 h7 => ?_
    rw [cut_from] at h7
    refine catA (s7 _ _ h6) h7 ?_ fun oa H8 s8 h8 => ?_
    · rw [List.length_append, List.length_take, List.length_drop, li]
      have := okg.2.2.1
      exact Nat.le_trans (show _ ≤ 8 by simp only [List.length_cons, List.length_nil]; omega) (by decide)
    rw [set_put (by rw [li]; exact hk)] at h8
    have hset : (nV gt.2).set k (V.int (xn : Int)) = nV (gt.2.set k xn) := by
      unfold nV
      rw [List.map_set, List.map_set]
      rfl
    rw [hset] at h8
    have s48 := (s56.trans s7).trans s8
    have D8 := D4.same s48
    have ts18 : Ts H1 H8 := (((Ts.frC D1 fr2).trans (Ts.same s3)).trans (Ts.frC D3 fr4)).trans (Ts.same s48)
    have fr8 : Fr d l H H8 := (((fr1.trans fr2).trans (Fr.of s3)).trans fr4).trans (Fr.of s48)
    have hii8 := ts18 _ _ hii
    have tl : (tabOf gt.1).length = gt.1.length := by simp [tabOf, Str.length]
    have g8 : gt.1.length ≤ 8 := (gts_of (n := m + i) okg (by omega)).1
    have okl : (tabOf gt.1).length ≤ sizeLine := by
      rw [tl]
      exact Nat.le_trans g8 (by decide)
    have gpos : 1 ≤ gt.1.length := by
      rw [okg.1]
      exact Nat.one_le_two_pow
    -- if other == ins
    refine ⟨fun σ H' => ∃ bs ks, σ = [some (.ref d), some (.ref a), some (.int m), some (.ref g), some (.int (i : Nat)), some (.str (tabOf bs)), some (.ref ii), ks, some (.ref oa)] ∧ DeckC H' d l (n + 5) ∧ Fr d l H H' ∧ Ts H8 H' ∧ bs.length = gt.1.length ∧ (bs, gt.2.set k xn) ≠ gt, ?_, ?_⟩
    · refine ⟨.ref oa, rfl, .ref ii, rfl, .tuple (((gt.2.set k xn).map Int.ofNat).map .int), .tuple ((gt.2.map Int.ofNat).map .int), .tup (SqT.of h8) (TkAll.ints _).dp, .tup (SqT.of hii8) (TkAll.ints _).dp, sh_nums _, sh_nums _, _, rfl, ?_⟩
      have ee : PyData.eqv (.tuple (((gt.2.set k xn).map Int.ofNat).map .int)) (.tuple ((gt.2.map Int.ofNat).map .int)) = decide ((gt.2.set k xn).map Int.ofNat = gt.2.map Int.ofNat) := eqv_ints _ _
      rw [ee]
      refine ite2 (fun z => ?_) (fun z => ?_)
      · refine ⟨.ref d, rfl, .str (tabOf gt.1), rfl, _, rfl, okl, ?_⟩
        rw [tl]
        refine ⟨d, l, _, _, rfl, D8, by omega, by omega, by omega, fun H9 c D9 fr9 c0 c1 => ?_⟩
        obtain ⟨cn, rfl⟩ := Int.eq_ofNat_of_zero_le c0
        have hc : cn < gt.1.length := by omega
        refine ⟨.str (tabOf gt.1), rfl, .int (cn : Nat), rfl, (cn : Int), rfl, tabOf gt.1, rfl, okl, ?_⟩
        rw [cut_tab1 (Nat.le_of_lt hc)]
        refine ⟨sl2, fun p np => ?_⟩
        have e0 : Str.ofString "0" = tabOf [false] := by decide +kernel
        have e1 : Str.ofString "1" = tabOf [true] := by decide +kernel
        rw [e0, e1]
        have get : (tabOf gt.1).cps[(cn : Int).toNat]? = some (if gt.1[cn] = true then 49 else 48) := by
          show (gt.1.map fun b => if b = true then 49 else 48).toArray[cn]? = _
          rw [List.getElem?_toArray, List.getElem?_map, List.getElem?_eq_getElem hc]
          rfl
        refine ⟨.str (tabOf gt.1), rfl, .int (cn : Nat), rfl, tabOf gt.1, (cn : Int), _, rfl, rfl, by omega, by omega, by rw [tl]; omega, get, _, _, rfl, int_sign _, (show 1 ≤ 640 by decide), p, _, _, .str (tabOf [!gt.1[cn]]), rfl, rfl, SqL.of upd_same, ?_, _, _, rfl, rfl, ?_, ?_⟩
        · cases gt.1[cn] <;> rfl
        · have l1 : (tabOf (gt.1.take cn)).length = (gt.1.take cn).length := by simp [tabOf, Str.length]
          have l2 : (tabOf [!gt.1[cn]]).length = 1 := rfl
          rw [l1, l2, List.length_take]
          exact Nat.le_trans (show _ ≤ 20 by omega) (by decide)
        refine ⟨.str (tabOf gt.1), rfl, .int (cn : Nat), rfl, _, _, rfl, rfl, ((cn + 1 : Nat) : Int), rfl, ?_⟩
        refine ⟨tabOf gt.1, rfl, okl, ?_⟩
        rw [cut_tab2 (show cn + 1 ≤ gt.1.length by omega)]
        refine ⟨_, _, rfl, rfl, ?_, ?_⟩
        · have l1 : (tabOf (gt.1.take cn) ++ tabOf [!gt.1[cn]]).length = (gt.1.take cn).length + 1 := by
            rw [tab_S, tab_S, SX.S_cat, SX.S_len, List.length_append, List.length_map]
            rfl
          have l2 : (tabOf (gt.1.drop (cn + 1))).length = (gt.1.drop (cn + 1)).length := by simp [tabOf, Str.length]
          rw [l1, l2, List.length_take, List.length_drop]
          exact Nat.le_trans (show _ ≤ 20 by omega) (by decide)
        · refine ⟨gt.1.set cn (!gt.1[cn]), some (.int (cn : Nat)), ?_, (D9.same (same_upd np)).mono (by omega), (fr8.trans fr9).trans (Fr.new np), (Ts.frC D8 fr9).trans (Ts.new np), List.length_set .., fun e => ?_⟩
          · show [_, _, _, _, _, some (V.str ((tabOf (gt.1.take cn) ++ tabOf [!gt.1[cn]]) ++ tabOf (gt.1.drop (cn + 1)))), _, _, _] = _
            rw [tab_put hc]
          · have e' := congrArg (fun p : Gt => p.1[cn]?) e
            have e' : (gt.1.set cn (!gt.1[cn]))[cn]? = gt.1[cn]? := e'
            rw [List.getElem?_set_self hc, List.getElem?_eq_getElem hc] at e'
            have := Option.some.inj e'
            revert this
            cases gt.1[cn] <;> intro h <;> cases h
      · refine ⟨gt.1, some (.int (k : Nat)), rfl, D8.mono (by omega), fr8, Ts.refl, rfl, fun e => z (decide_eq_true ?_)⟩
        have e' := congrArg (fun p : Gt => p.2) e
        have e' : gt.2.set k xn = gt.2 := e'
        rw [e']
    rintro σ H9 ⟨bs, ks, rfl, D9, fr9, ts9, lbs, hne⟩
    have ts19 := ts18.trans ts9
    have hg9 := ts19 _ _ hg1
    have tg9 := tg1.ts ts19 (noL_gates gs)
    have hoa := ts9 _ _ h8
    -- the net
    refine ⟨.int m, rfl, .ref g, rfl, .int (i : Nat), rfl, (i : Int), rfl, slA hg9 fun r1 H13 s13 h13 => ?_⟩
    rw [cut_to] at h13
    refine ⟨.str (tabOf bs), rfl, .ref oa, rfl, sl2, fun r2 n2' => ?_⟩
    have s14 := same_upd (o := HO.tup [V.str (tabOf bs), V.ref oa]) n2'
    refine ⟨sl1, fun r3 n3 => ?_⟩
    have s15 := same_upd (o := HO.tup [V.ref r2]) n3
    refine catA (s15 _ _ (s14 _ _ h13)) upd_same ?_ fun r4 H16 s16 h16 => ?_
    · rw [List.length_take]
      exact Nat.le_trans (show _ ≤ 100 by simp only [List.length_cons, List.length_nil]; omega) (by decide)
    have hg16 := s16 _ _ (s15 _ _ (s14 _ _ (s13 _ _ hg9)))
    refine ⟨.ref g, rfl, .int (i : Nat), rfl, _, _, rfl, rfl, ((i + 1 : Nat) : Int), rfl, ?_⟩
    refine slAn hg16 fun r5 H17 s17 h17 => ?_
    rw [cut_from] at h17
    refine catA (s17 _ _ h16) h17 ?_ fun r6 H18 s18 h18 => ?_
    · rw [List.length_append, List.length_take, List.length_drop]
      exact Nat.le_trans (show _ ≤ 100 by simp only [List.length_cons, List.length_nil]; omega) (by decide)
    rw [set_put (by omega)] at h18
    refine ⟨sl2, fun r7 n7 => ?_⟩
    have s19 := same_upd (o := HO.tup [V.int m, V.ref r6]) n7
    have sB : Same H9 (upd H18 r7 (.tup [.int m, .ref r6])) := (((((s13.trans s14).trans s15).trans s16).trans s17).trans s18).trans s19
    refine q r7 _ (gs.set i (bs, gt.2.set k xn)) ((D9.same sB).mono (by omega)) (fr9.trans (Fr.of sB)) ?_ (List.length_set ..) (ok.put ⟨?_, ?_, ?_, ?_⟩) fun e => ?_
    · refine .tup upd_same (.cons (.int _) (.cons (.tup (s19 _ _ h18) ?_) .nil))
      have tgB : TkAll (upd H18 r7 (.tup [.int m, .ref r6])) xs (gs.map gD) := tg9.same sB
      have tnew : Tk (upd H18 r7 (.tup [.int m, .ref r6])) (.ref r2) (gD (bs, gt.2.set k xn)) :=
        .tup (s19 _ _ (s18 _ _ (s17 _ _ (s16 _ _ (s15 _ _ upd_same))))) (.cons (.str _) (.cons (.tup (sB _ _ hoa) (TkAll.ints _)) .nil))
      have e : (gs.set i (bs, gt.2.set k xn)).map gD = ((gs.map gD).take i ++ [gD (bs, gt.2.set k xn)]) ++ (gs.map gD).drop (i + 1) := by
        rw [set_put (by rw [List.length_map]; exact hi), List.map_set]
      rw [e, ← set_put (show i < xs.length by omega)]
      exact ((tgB.take i).append (.cons tnew .nil)).append (tgB.drop (i + 1))
    · show bs.length = 2 ^ (gt.2.set k xn).length
      rw [List.length_set, lbs]
      exact okg.1
    · show 1 ≤ (gt.2.set k xn).length
      rw [List.length_set]
      exact okg.2.1
    · show (gt.2.set k xn).length ≤ 3
      rw [List.length_set]
      exact okg.2.2.1
    · intro x hx
      rcases List.mem_or_eq_of_mem_set hx with z | z
      · exact okg.2.2.2 x z
      · rw [z]
        exact xlt
    · have e' := congrArg (fun l : List Gt => l[i]?) e
      have e' : (gs.set i (bs, gt.2.set k xn))[i]? = gs[i]? := e'
      rw [List.getElem?_set_self hi, hgt] at e'
      exact hne (Option.some.inj e')

end
end Gk

set_option Elab.async false
set_option linter.all false
set_option maxRecDepth 100000
set_option maxHeartbeats 0
namespace Gk
open PySem PySem.Spec PyProof.Rows L2
section
variable {P : Program} {w : World} {K : PySem.W.Frag} {mg : Str → Option Value} {base : Heap}
theorem net_shown {H : Hp} {v : V} {m : Nat} {gs : List Gt} (t : Tk H v (netD m gs)) (ok : NetOk m gs) (m6 : m ≤ 6) (hl : gs.length ≤ 300) : Sh H v (netD m gs) ∧ (netD (m : Int) gs).showable = true ∧ (netD (m : Int) gs).shown.length ≤ sizeLine ∧ (netD (m : Int) gs).depth ≤ 50 := by
  have f := fine_net ok m6 hl
  obtain ⟨f1, _, _, f4⟩ := fine_iff.mp f
  exact ⟨t.sh (noL_net m gs), f1, fine_fits f (by decide), Nat.le_trans f4 (by decide)⟩
def sp_right (T : Tx K mg) : Sp := fun vs H Q _ => ∃ (nv : V) (m : Nat) (gs : List Gt), vs = [nv] ∧ Tk H nv (netD m gs) ∧ 1 ≤ m ∧ m ≤ 6 ∧ 1 ≤ gs.length ∧ gs.length ≤ 300 ∧ NetOk m gs ∧ Tabs H T.tabs ∧ ∀ H', Gr H H' → Q (.bl true) H'
theorem ok_right (T : Tx K mg) (B : Tb base T) : FnG P w K mg base CX0 7 T.f_right T.fd_right ["_law_net_here"] (sp_right T) := by
  refine okG0 T.F_right sc_right (fun vs H Q E h => ?_) (fun cdv A outer s H vs Q E nothing hr h => ?_)
  · obtain ⟨nv, m, gs, rfl, _⟩ := h
    rfl
  · obtain ⟨nv, m, gs, rfl, tn, m1, m6, g1, g3, ok, tabs, q⟩ := h
    refine ⟨_, (pss_cons (ps_set (i := 1) sc_right.nd rfl (by first | exact .inl rfl | exact .inr rfl) (pe_call (ok_shown T) (hr.mono (by decide)) (by rfl) T.g_shown T.F_shown.kp T.b_shown .nil pass0 (pa_cons (pv 0) pa_nil))) (pss_cons (ps_if (pw_or (pt_cmpR op_ne (pe_call (ok_show_net T) (hr.mono (by decide)) (by rfl) T.g_show_net T.F_show_net.kp T.b_show_net .nil pass0 (pa_cons (pv 0) pa_nil)) (pv 1) (nomark _)) (pw_or1 (pt_not (pt_val (pe_callB call_isi (by rfl) T.m_isinstance (by decide +kernel) (pa_cons (pe_call (ok_show_net T) (hr.mono (by decide)) (by rfl) T.g_show_net T.F_show_net.kp T.b_show_net .nil pass0 (pa_cons (pv 0) pa_nil)) (pa_cons (pe_bltn (v := .ty "str") (u := .type "str") (by rfl) T.m_str (by decide +kernel) rfl) pa_nil))))))).pt (pss_one (ps_ret pe_bl)) pss_nil) (pss_one (ps_ret (pe_cmpR op_eq (pe_callB (call_repr nothing hr.units) (by rfl) T.m_repr (by decide +kernel) (pa_cons (pe_call (ok_read_net T B) (hr.mono (by decide)) (by rfl) T.g_read_net T.F_read_net.kp T.b_read_net .nil pass0 (pa_cons (pv 1) pa_nil)) pa_nil)) (pe_callB (call_repr nothing hr.units) (by rfl) T.m_repr (by decide +kernel) (pa_cons (pv 0) pa_nil)) (nomark _)))))), ?_⟩
    refine ⟨nv, rfl, nv, m, gs, rfl, tn, m1, m6, g3, ok, fun H1 s1 => ?_⟩
    refine ⟨nv, rfl, nv, m, gs, rfl, tn.same s1, m1, m6, g3, ok, fun H2 s2 => ⟨.str _, rfl, rfl, _, rfl, ?_⟩⟩
    rw [decide_eq_true rfl]
    refine iteF ?_
    have s12 := s1.trans s2
    refine ⟨nv, rfl, nv, m, gs, rfl, tn.same s12, m1, m6, g3, ok, fun H3 s3 => ⟨_, _, _, _, _, rfl, .ty _, .base (.str _), kit_ty kSS, _, rfl, iteF ?_⟩⟩
    have g3' := Gr.of (s12.trans s3)
    refine ⟨.str _, rfl, m, gs, rfl, m1, m6, g1, by omega, ok, tabsR (tabs.gr g3'), fun r H4 g4 t4 => ?_⟩
    have g14 := g3'.trans g4
    obtain ⟨x1, x2, x3, x4⟩ := net_shown t4 ok m6 g3
    obtain ⟨y1, y2, y3, y4⟩ := net_shown (tn.gr g14) ok m6 g3
    refine ⟨.ref r, _, rfl, x1, x2, x3, x4, nv, rfl, nv, _, rfl, y1, y2, y3, y4, rfl, ?_⟩
    rw [decide_eq_true rfl]
    exact q H4 g14
def NetF (p : Nat × List Gt) : Prop := 1 ≤ p.1 ∧ p.1 ≤ 6 ∧ 1 ≤ p.2.length ∧ p.2.length ≤ 40 ∧ NetOk p.1 p.2
def nD (p : Nat × List Gt) : PyData := netD p.1 p.2
theorem noL_nD (p : Nat × List Gt) : noL (nD p) = true := noL_net _ _
theorem Tabs.set {H : Hp} {Ps : List Addr} {p : Addr} {xs ys : List V} (t : Tabs H Ps) (h : H p = some (.lst xs)) : Tabs (upd H p (.lst ys)) Ps := fun P hP => by
  obtain ⟨qs, e, tr⟩ := t P hP
  exact ⟨qs, by rw [upd_ne (ne_of e h (by intro z; cases z))]; exact e, tr⟩
def sp_law (K : PySem.W.Frag) (Ps : List Addr) : Sp := fun vs H Q _ => ∃ (a : Addr) (ns : List Int), vs = [.ref a] ∧ SqL K H a (ns.map V.int) ∧ ns.length ≤ 63 ∧ Tabs H Ps ∧ ∀ H', Q (.bl true) H'
theorem ok_law (T : Tx K mg) (B : Tb base T) : FnG P w K mg base CX0 8 T.f_law T.fd_law ["_law_script"] (sp_law K T.tabs) := by
  refine okG0 T.F_law sc_law (fun vs H Q E h => ?_) (fun cdv A outer s H vs Q E nothing hr h => ?_)
  · obtain ⟨a, ns, rfl, _⟩ := h
    rfl
  · obtain ⟨a, ns, rfl, hS, hlen, tabs, q⟩ := h
    refine ⟨_, (pss_cons (ps_set (i := 1) sc_law.nd rfl (by first | exact .inl rfl | exact .inr rfl) (pe_call (ok_deck T) (hr.mono (by decide)) (by rfl) T.g_deck T.F_deck.kp T.b_deck .nil pass0 (pa_cons (pv 0) pa_nil))) (pss_cons (ps_set (i := 2) sc_law.nd rfl (by first | exact .inl rfl | exact .inr rfl) (pe_lst pa_nil)) (pss_cons (ps_for PassesOwn.never rfl (pi_range1 (by rfl) T.m_range (pa_cons pe_int pa_nil)) (pg_name (i := 3) sc_law.nd rfl (by first | exact .inl rfl | exact .inr rfl)) (pss_cons (ps_expr (pe_bm PySem.F.plainAttrs_list PySem.F.slot_list_append PySem.F.type_list_append mt_append (pv 2) (pa_cons (pe_call (ok_net T) (hr.mono (by decide)) (by rfl) T.g_net T.F_net.kp T.b_net .nil pass0 (pa_cons (pv 1) pa_nil)) pa_nil))) (pss_one (ps_expr (pe_bm PySem.F.plainAttrs_list PySem.F.slot_list_append PySem.F.type_list_append mt_append (pv 2) (pa_cons (pe_call (ok_near T) (hr.mono (by decide)) (by rfl) T.g_near T.F_near.kp T.b_near .nil pass0 (pa_cons (pv 1) (pa_cons (pe_ix ix_list (pv 2) (pe_un un_neg pe_int) (fun _ _ => rfl)) pa_nil))) pa_nil)))))) (pss_cons (ps_for PassesOwn.never rfl (pi_range3 (by rfl) T.m_range (pa_cons pe_int (pa_cons pe_int (pa_cons pe_int pa_nil)))) (pg_name (i := 4) sc_law.nd rfl (by first | exact .inl rfl | exact .inr rfl)) (pss_cons (ps_if (pw_or (pt_not (pt_val (pe_callG (ok_right T B) nothing (hr.mono (by decide)) (by rfl) T.g_right T.F_right.kp T.b_right .nil pass0 (pa_cons (pe_ix ix_list (pv 2) (pv 4) (fun _ _ => rfl)) pa_nil)))) (pw_or (pt_not (pt_val (pe_callG (ok_right T B) nothing (hr.mono (by decide)) (by rfl) T.g_right T.F_right.kp T.b_right .nil pass0 (pa_cons (pe_ix ix_list (pv 2) (pe_op op_add (pv 4) pe_int) (fun _ _ => rfl)) pa_nil)))) (pw_or1 (pt_not (pt_val (pe_callG (ok_right T B) nothing (hr.mono (by decide)) (by rfl) T.g_right T.F_right.kp T.b_right .nil pass0 (pa_cons (pe_ix ix_list (pv 2) (pv 4) (fun _ _ => rfl)) pa_nil))))))).pt (pss_one (ps_ret pe_bl)) pss_nil) (pss_one (ps_if (pt_cmpR op_eq (pe_call (ok_show_net T) (hr.mono (by decide)) (by rfl) T.g_show_net T.F_show_net.kp T.b_show_net .nil pass0 (pa_cons (pe_ix ix_list (pv 2) (pv 4) (fun _ _ => rfl)) pa_nil)) (pe_call (ok_show_net T) (hr.mono (by decide)) (by rfl) T.g_show_net T.F_show_net.kp T.b_show_net .nil pass0 (pa_cons (pe_ix ix_list (pv 2) (pe_op op_add (pv 4) pe_int) (fun _ _ => rfl)) pa_nil)) (nomark _)) (pss_one (ps_ret pe_bl)) pss_nil)))) (pss_one (ps_ret (pe_cmpR op_eq (pe_call (ok_show_net T) (hr.mono (by decide)) (by rfl) T.g_show_net T.F_show_net.kp T.b_show_net .nil pass0 (pa_cons (pe_tup (pa_cons pe_int (pa_cons (pe_tup (pa_cons (pe_tup (pa_cons pe_str (pa_cons (pe_tup (pa_cons pe_int pa_nil)) pa_nil))) pa_nil)) pa_nil))) pa_nil)) pe_str (nomark _)))))))), ?_⟩
    refine ⟨.ref a, rfl, a, ns, rfl, hS, hlen, fun H1 d l s1 D1 => ?_⟩
    have t1 : Tabs H1 T.tabs := tabs.gr (Gr.of s1)
    refine ⟨Nat.zero_le _, fun N nN => ?_⟩
    have oN := D1.off nN
    refine ⟨5, rfl, by decide, by decide, ?_⟩
    refine for_range (lo := 0) (n := (5 : Int).toNat) (fun i σ H' => ∃ y3, σ = [some (.ref a), some (.ref d), some (.ref N), y3, none] ∧ DeckC H' d l (700 * i) ∧ Tabs H' T.tabs ∧ ∃ (acc : List V) (ps : List (Nat × List Gt)), H' N = some (.lst acc) ∧ TkAll H' acc (ps.map nD) ∧ ps.length = 2 * i ∧ (∀ p ∈ ps, NetF p) ∧ ∀ j, j < i → ∃ m g1 g2, ps[2 * j]? = some (m, g1) ∧ ps[2 * j + 1]? = some (m, g2) ∧ g2 ≠ g1)
      ⟨_, rfl, (D1.same (same_upd nN)).mono (by omega), t1.gr (Gr.none nN), [], [], upd_same, .nil, rfl, fun p hp => (by cases hp), fun j hj => absurd hj (Nat.not_lt_zero _)⟩ ?_ ?_
    · rintro i σ H2 hi ⟨y3, rfl, D2, t2, acc, ps, hN, ta, lp, okp, dif⟩
      have hi' : i < 5 := hi
      have al : acc.length = 2 * i := by rw [ta.length, List.length_map, lp]
      refine ⟨.ref N, rfl, .inl ⟨rfl, _, SqL.of hN⟩, .ref d, rfl, d, l, _, rfl, D2, by omega, fun r H3 m gs D3 fr3 tr m1 m6 l1 l40 ok => ?_⟩
      have hN3 := fr3 _ _ oN.1 oN.2 hN
      refine ⟨N, _, _, rfl, rfl, hN3, Nat.lt_of_lt_of_le (show acc.length < 64 by omega) (by decide), ?_⟩
      have ts3 : Ts H2 (upd H3 N (.lst (acc ++ [.ref r]))) := (Ts.frC D2 fr3).trans (Ts.set hN3)
      have hN4 : (upd H3 N (.lst (acc ++ [.ref r]))) N = some (.lst (acc ++ [.ref r])) := upd_same
      have D4 : DeckC (upd H3 N (.lst (acc ++ [.ref r]))) d l (700 * i + 600) := D3.upd oN.1 oN.2
      have t4 : Tabs (upd H3 N (.lst (acc ++ [.ref r]))) T.tabs := (t2.fr D2 fr3).set hN3
      have tr4 := tr.ts (Ts.set (ys := acc ++ [.ref r]) hN3) (noL_net _ _)
      have ta4 := ta.ts ts3 (noLs_map noL_nD ps)
      revert hN4 D4 t4 tr4 ta4
      generalize upd H3 N (.lst (acc ++ [.ref r])) = H4
      intro hN4 D4 t4 tr4 ta4
      refine ⟨.ref N, rfl, .inl ⟨rfl, _, SqL.of hN4⟩, .ref d, rfl, .ref N, rfl, _, rfl, N, _, -1, .ref r, rfl, rfl, SqL.of hN4, atI_last .., d, l, _, .ref r, m, gs, rfl, D4, by omega, tr4, m1, m6, l1, by omega, ok, fun r2 H5 gs2 D5 fr5 tr5 lg5 ok5 ne5 => ?_⟩
      have hN5 := fr5 _ _ oN.1 oN.2 hN4
      have ts5 : Ts H4 (upd H5 N (.lst ((acc ++ [.ref r]) ++ [.ref r2]))) := (Ts.frC D4 fr5).trans (Ts.set hN5)
      refine ⟨N, _, _, rfl, rfl, hN5, ?_, ?_⟩
      · rw [List.length_append]
        exact Nat.lt_of_lt_of_le (show _ < 64 by simp only [List.length_cons, List.length_nil]; omega) (by decide)
      · refine ⟨_, rfl, (D5.upd oN.1 oN.2).mono (by push_cast; omega), (t4.fr D4 fr5).set hN5, _, (ps ++ [(m, gs)]) ++ [(m, gs2)], upd_same, ?_, by rw [List.length_append, List.length_append, lp]; simp only [List.length_cons, List.length_nil]; omega, fun p hp => ?_, fun j hj => ?_⟩
        · rw [List.map_append, List.map_append]
          exact ((ta4.ts ts5 (noLs_map noL_nD ps)).append (.cons (tr4.ts ts5 (noL_net _ _)) .nil)).append (.cons (tr5.ts (Ts.set hN5) (noL_net _ _)) .nil)
        · rcases List.mem_append.mp hp with z | z
          · rcases List.mem_append.mp z with z | z
            · exact okp p z
            · rw [List.mem_singleton.mp z]
              exact ⟨m1, m6, l1, l40, ok⟩
          · rw [List.mem_singleton.mp z]
            exact ⟨m1, m6, by show 1 ≤ gs2.length; omega, by show gs2.length ≤ 40; omega, ok5⟩
        · by_cases hj2 : j < i
          · obtain ⟨m', a1, a2, e1, e2, e3⟩ := dif j hj2
            refine ⟨m', a1, a2, ?_, ?_, e3⟩
            · rw [List.append_assoc, List.getElem?_append_left (by omega)]
              exact e1
            · rw [List.append_assoc, List.getElem?_append_left (by omega)]
              exact e2
          · have : j = i := by omega
            subst this
            refine ⟨m, gs, gs2, ?_, ?_, ne5⟩
            · rw [List.append_assoc, List.getElem?_append_right (by omega), lp, Nat.sub_self]
              rfl
            · rw [List.append_assoc, List.getElem?_append_right (by omega), lp, show 2 * j + 1 - 2 * j = 1 by omega]
              rfl
    · rintro σ H2 ⟨y3, rfl, D2, t2, acc, ps, hN, ta, lp, okp, dif⟩
      have lp : ps.length = 10 := lp
      have al : acc.length = 10 := by rw [ta.length, List.length_map, lp]
      refine ⟨0, 10, 2, 5, rfl, ⟨by decide, by decide, by decide +kernel, by decide +kernel⟩, ?_⟩
      refine for_rangeC (lo := 0) (c := 2) (n := 5) (fun i σ H' => ∃ y4, σ = [some (.ref a), some (.ref d), some (.ref N), y3, y4] ∧ Gr H2 H') ⟨_, rfl, Gr.refl⟩ ?_ ?_
      · rintro i σ H3 hi ⟨y4, rfl, g3⟩
        have hN3 := g3.lst hN
        obtain ⟨m, g1, g2, e1, e2, ne⟩ := dif i hi
        obtain ⟨v1, hv1, tv1⟩ := ta.at' e1
        obtain ⟨v2, hv2, tv2⟩ := ta.at' e2
        have f1 := okp _ (List.mem_of_getElem? e1)
        have f2 := okp _ (List.mem_of_getElem? e2)
        obtain ⟨a1, a2, a3, a4, a5⟩ := f1
        obtain ⟨b1, b2, b3, b4, b5⟩ := f2
        dsimp only at a1 a2 a3 a4 a5 b1 b2 b3 b4 b5
        have tv1 : Tk H2 v1 (netD (m : Int) g1) := tv1
        have tv2 : Tk H2 v2 (netD (m : Int) g2) := tv2
        have k1 : (0 : Int) + (i : Int) * 2 = ((2 * i : Nat) : Int) := by push_cast; omega
        have k2 : (0 : Int) + (i : Int) * 2 + 1 = ((2 * i + 1 : Nat) : Int) := by push_cast; omega
        have at1 : atI acc ((0 : Int) + (i : Int) * 2) = some v1 := by rw [k1]; exact atI_nat hv1
        have at2 : atI acc ((0 : Int) + (i : Int) * 2 + 1) = some v2 := by rw [k2]; exact atI_nat hv2
        refine ⟨.ref N, rfl, .int (0 + (i : Int) * 2), rfl, N, _, _, v1, rfl, rfl, SqL.of hN3, at1, v1, m, g1, rfl, tv1.gr g3, a1, a2, a3, by omega, a5, t2.gr g3, fun H4 g4 => ⟨_, rfl, iteF ?_⟩⟩
        have g24 := g3.trans g4
        refine ⟨.ref N, rfl, .int (0 + (i : Int) * 2), rfl, _, _, rfl, rfl, N, _, _, v2, rfl, rfl, SqL.of (g24.lst hN), at2, v2, m, g2, rfl, tv2.gr g24, b1, b2, b3, by omega, b5, t2.gr g24, fun H5 g5 => ⟨_, rfl, iteF ?_⟩⟩
        have g25 := g24.trans g5
        refine ⟨.ref N, rfl, .int (0 + (i : Int) * 2), rfl, N, _, _, v1, rfl, rfl, SqL.of (g25.lst hN), at1, v1, m, g1, rfl, tv1.gr g25, a1, a2, a3, by omega, a5, t2.gr g25, fun H6 g6 => ⟨_, rfl, iteF ?_⟩⟩
        have g26 := g25.trans g6
        refine ⟨.ref N, rfl, .int (0 + (i : Int) * 2), rfl, N, _, _, v1, rfl, rfl, SqL.of (g26.lst hN), at1, v1, m, g1, rfl, tv1.gr g26, a1, a2, by omega, a5, fun H7 s7 => ?_⟩
        have g27 := g26.trans (Gr.of s7)
        refine ⟨.ref N, rfl, .int (0 + (i : Int) * 2), rfl, _, _, rfl, rfl, N, _, _, v2, rfl, rfl, SqL.of (g27.lst hN), at2, v2, m, g2, rfl, tv2.gr g27, a1, a2, by omega, b5, fun H8 s8 => ⟨rfl, _, rfl, ?_⟩⟩
        have nt : decide (V.str (SX.S (netL m g1)) = V.str (SX.S (netL m g2))) = false := decide_eq_false fun z => ne (net_inj (m := m) (by omega) (netS b5 a2 (by omega)) (netS a5 a2 (by omega)) (SX.S_inj (V.str.inj z)).symm)
        rw [nt]
        refine iteF ?_
        exact ⟨_, rfl, g27.trans (Gr.of s8)⟩
      · rintro σ H3 ⟨y4, rfl, g3⟩
        have e01 : Str.ofString "01" = tabOf [false, true] := by decide +kernel
        refine ⟨sl1, fun p1 n1 => ⟨sl2, fun p2 n2 => ⟨sl1, fun p3 n3 => ⟨sl2, fun p4 n4 => ?_⟩⟩⟩⟩
        rw [e01] at n3 n4 ⊢
        have s2 := same_upd (o := HO.tup [V.str (tabOf [false, true]), V.ref p1]) n2
        have s3 := same_upd (o := HO.tup [V.ref p2]) n3
        have s4 := same_upd (o := HO.tup [V.int 1, V.ref p3]) n4
        have tk : Tk (upd (upd (upd (upd H3 p1 (.tup [.int 0])) p2 (.tup [.str (tabOf [false, true]), .ref p1])) p3 (.tup [.ref p2])) p4 (.tup [.int 1, .ref p3])) (.ref p4) (netD ((1 : Nat) : Int) [([false, true], [0])]) :=
          .tup upd_same (.cons (.int _) (.cons (.tup (s4 _ _ upd_same) (.cons (.tup (s4 _ _ (s3 _ _ upd_same)) (.cons (.str _) (.cons (.tup (s4 _ _ (s3 _ _ (s2 _ _ upd_same))) (.cons (.int _) .nil)) .nil))) .nil)) .nil))
        refine ⟨.ref p4, 1, [([false, true], [0])], rfl, tk, by decide, by decide, (show 1 ≤ 300 by decide), ?_, fun H8 s8 => ⟨rfl, ?_⟩⟩
        · intro k g e
          cases k with
          | zero =>
            cases Option.some.inj e
            exact ⟨rfl, (show 1 ≤ 1 by decide), (show 1 ≤ 3 by decide), fun i hi => by rw [List.mem_singleton.mp hi]; decide⟩
          | succ k => cases e
        · have et : V.str (SX.S (netL 1 [([false, true], [0])])) = V.str (Str.ofString "inputs 1\n01 0") := congrArg V.str (by decide +kernel)
          rw [et, decide_eq_true rfl]
          exact q _
end
def d_is_whole : He.DefD := ⟨("is_whole", none), "is_whole", "is_whole", defArgs s_is_whole, defBody s_is_whole, defScope s_is_whole, [], []⟩
def d_is_signs : He.DefD := ⟨("is_signs", none), "is_signs", "is_signs", defArgs s_is_signs, defBody s_is_signs, defScope s_is_signs, [], []⟩
def d_is_net : He.DefD := ⟨("is_net", none), "is_net", "is_net", defArgs s_is_net, defBody s_is_net, defScope s_is_net, [], []⟩
def d_is_gate : He.DefD := ⟨("is_gate", none), "is_gate", "is_gate", defArgs s_is_gate, defBody s_is_gate, defScope s_is_gate, [], []⟩
def d_show_net : He.DefD := ⟨("show_net", none), "show_net", "show_net", defArgs s_show_net, defBody s_show_net, defScope s_show_net, [], []⟩
def d_read_net : He.DefD := ⟨("read_net", none), "read_net", "read_net", defArgs s_read_net, defBody s_read_net, defScope s_read_net, [], []⟩
def d_read_head : He.DefD := ⟨("read_head", none), "read_head", "read_head", defArgs s_read_head, defBody s_read_head, defScope s_read_head, [], []⟩
def d_read_gate : He.DefD := ⟨("read_gate", none), "read_gate", "read_gate", defArgs s_read_gate, defBody s_read_gate, defScope s_read_gate, [], []⟩
def d_read_number : He.DefD := ⟨("read_number", none), "read_number", "read_number", defArgs s_read_number, defBody s_read_number, defScope s_read_number, [], []⟩
def d_deck : He.DefD := ⟨("_law_deck", none), "_law_deck", "_law_deck", defArgs s_deck, defBody s_deck, defScope s_deck, [], []⟩
def d_mixed : He.DefD := ⟨("_law_mixed", none), "_law_mixed", "_law_mixed", defArgs s_mixed, defBody s_mixed, defScope s_mixed, [], []⟩
def d_take : He.DefD := ⟨("_law_take", none), "_law_take", "_law_take", defArgs s_take, defBody s_take, defScope s_take, [], []⟩
def d_gate : He.DefD := ⟨("_law_gate", none), "_law_gate", "_law_gate", defArgs s_gate, defBody s_gate, defScope s_gate, [], []⟩
def d_net : He.DefD := ⟨("_law_net", none), "_law_net", "_law_net", defArgs s_net, defBody s_net, defScope s_net, [], []⟩
def d_shown : He.DefD := ⟨("_law_shown", none), "_law_shown", "_law_shown", defArgs s_shown, defBody s_shown, defScope s_shown, [], []⟩
def d_near : He.DefD := ⟨("_law_near", none), "_law_near", "_law_near", defArgs s_near, defBody s_near, defScope s_near, [], []⟩
def d_right : He.DefD := ⟨("_law_right", none), "_law_right", "_law_right", defArgs s_right, defBody s_right, defScope s_right, [], []⟩
def d_law : He.DefD := ⟨("law", none), "law", "law", defArgs s_law, defBody s_law, defScope s_law, [], []⟩
def fn : List He.DefD := [d_is_whole, d_is_signs, d_is_net, d_is_gate, d_show_net, d_read_net, d_read_head, d_read_gate, d_read_number, d_deck, d_mixed, d_take, d_gate, d_net, d_shown, d_near, d_right, d_law]
def fa : List He.Fa := [.glo "is_whole", .glo "is_signs", .glo "is_net", .glo "is_gate", .glo "show_net", .glo "read_net", .glo "read_head", .glo "read_gate", .glo "read_number", .glo "_law_deck", .glo "_law_mixed", .glo "_law_take", .glo "_law_gate", .glo "_law_net", .glo "_law_shown", .glo "_law_near", .glo "_law_right", .glo "law", .free "all", .free "bool", .free "enumerate", .free "int", .free "isinstance", .free "len", .free "list", .free "min", .free "range", .free "repr", .free "reversed", .free "str", .free "sum", .free "tuple", .int "MOST_INPUTS" 6, .int "MOST_INS" 3, .int "MOST_FIGURES" 40]
def tf : List He.Defn := [("is_signs", none), ("is_net", none), ("is_gate", none), ("read_number", none)]
abbrev RR : PySem.W.OpenRow := PySem.W.OpenLaw.row PySem.Challenge.rw_glitchnet_k04_nets_written_and_read
def yes : PySem.W.Frag → Bool := fun _ => true
abbrev hk : PySem.W.Hook := He.hookX 4 fa fn [] tf yes
def ob (s : PySem.W.SharedT) : He.AlX := He.obsX 4 fa fn [] tf yes (HandSHeadRun.getT s)
theorem ob_eq (s : PySem.W.SharedT) : ob s = hk.obs s.abs := He.obsX_eq (HandSHeadRun.getT_eq s)
theorem run (w : World) : HandSHeadRun.RunEq RR (PySem.W.view RR.prog [27]) hk ob 3000 [("NetError" : PySem.Str), ("NoText" : PySem.Str), ("is_whole" : PySem.Str), ("is_signs" : PySem.Str), ("MOST_INPUTS" : PySem.Str), ("MOST_INS" : PySem.Str), ("is_net" : PySem.Str), ("is_gate" : PySem.Str), ("MOST_FIGURES" : PySem.Str), ("show_net" : PySem.Str), ("read_net" : PySem.Str), ("read_head" : PySem.Str), ("read_gate" : PySem.Str), ("read_number" : PySem.Str), ("_law_deck" : PySem.Str), ("_law_mixed" : PySem.Str), ("_law_take" : PySem.Str), ("_law_gate" : PySem.Str), ("_law_net" : PySem.Str), ("_law_shown" : PySem.Str), ("_law_near" : PySem.Str), ("_law_right" : PySem.Str)] w := by
  intro os
  kernel_rfl
theorem facts {w : World} {K : PySem.W.Frag} {h : Heap} {mg : Str → Option Value} {f : Addr} (X : K.In h) (G : h.Ns mainGlobals mg) (hfa : mg ("law" : Str) = some (.ref f)) (c : He.SaysX fa fn [] tf yes w h K) : LawAtG PySem.Challenge.rw_glitchnet_k04_nets_written_and_read w K CX0 8 63 "_law_script" mg f h := by
  obtain ⟨fd0, D0⟩ := c.t.d.def_ 0 (d := d_is_whole) rfl
  have F0 : Fun K "is_whole" "is_whole" s_is_whole (He.fAd K ("is_whole", none)) fd0 := fun_of D0
  have b0 := F0.binds (ps := ["thing"]) fun _ _ _ _ _ _ us hl => match us, hl with | [_], _ => rfl
  obtain ⟨fd1, D1⟩ := c.t.d.def_ 1 (d := d_is_signs) rfl
  have F1 : Fun K "is_signs" "is_signs" s_is_signs (He.fAd K ("is_signs", none)) fd1 := fun_of D1
  have b1 := F1.binds (ps := ["many", "thing"]) fun _ _ _ _ _ _ us hl => match us, hl with | [_, _], _ => rfl
  obtain ⟨fd2, D2⟩ := c.t.d.def_ 2 (d := d_is_net) rfl
  have F2 : Fun K "is_net" "is_net" s_is_net (He.fAd K ("is_net", none)) fd2 := fun_of D2
  have b2 := F2.binds (ps := ["thing"]) fun _ _ _ _ _ _ us hl => match us, hl with | [_], _ => rfl
  obtain ⟨fd3, D3⟩ := c.t.d.def_ 3 (d := d_is_gate) rfl
  have F3 : Fun K "is_gate" "is_gate" s_is_gate (He.fAd K ("is_gate", none)) fd3 := fun_of D3
  have b3 := F3.binds (ps := ["wires", "thing"]) fun _ _ _ _ _ _ us hl => match us, hl with | [_, _], _ => rfl
  obtain ⟨fd4, D4⟩ := c.t.d.def_ 4 (d := d_show_net) rfl
  have F4 : Fun K "show_net" "show_net" s_show_net (He.fAd K ("show_net", none)) fd4 := fun_of D4
  have b4 := F4.binds (ps := ["net"]) fun _ _ _ _ _ _ us hl => match us, hl with | [_], _ => rfl
  obtain ⟨fd5, D5⟩ := c.t.d.def_ 5 (d := d_read_net) rfl
  have F5 : Fun K "read_net" "read_net" s_read_net (He.fAd K ("read_net", none)) fd5 := fun_of D5
  have b5 := F5.binds (ps := ["text"]) fun _ _ _ _ _ _ us hl => match us, hl with | [_], _ => rfl
  obtain ⟨fd6, D6⟩ := c.t.d.def_ 6 (d := d_read_head) rfl
  have F6 : Fun K "read_head" "read_head" s_read_head (He.fAd K ("read_head", none)) fd6 := fun_of D6
  have b6 := F6.binds (ps := ["line"]) fun _ _ _ _ _ _ us hl => match us, hl with | [_], _ => rfl
  obtain ⟨fd7, D7⟩ := c.t.d.def_ 7 (d := d_read_gate) rfl
  have F7 : Fun K "read_gate" "read_gate" s_read_gate (He.fAd K ("read_gate", none)) fd7 := fun_of D7
  have b7 := F7.binds (ps := ["line"]) fun _ _ _ _ _ _ us hl => match us, hl with | [_], _ => rfl
  obtain ⟨fd8, D8⟩ := c.t.d.def_ 8 (d := d_read_number) rfl
  have F8 : Fun K "read_number" "read_number" s_read_number (He.fAd K ("read_number", none)) fd8 := fun_of D8
  have b8 := F8.binds (ps := ["word"]) fun _ _ _ _ _ _ us hl => match us, hl with | [_], _ => rfl
  obtain ⟨fd9, D9⟩ := c.t.d.def_ 9 (d := d_deck) rfl
  have F9 : Fun K "_law_deck" "_law_deck" s_deck (He.fAd K ("_law_deck", none)) fd9 := fun_of D9
  have b9 := F9.binds (ps := ["_law_script"]) fun _ _ _ _ _ _ us hl => match us, hl with | [_], _ => rfl
  obtain ⟨fd10, D10⟩ := c.t.d.def_ 10 (d := d_mixed) rfl
  have F10 : Fun K "_law_mixed" "_law_mixed" s_mixed (He.fAd K ("_law_mixed", none)) fd10 := fun_of D10
  have b10 := F10.binds (ps := ["_law_cell", "_law_k"]) fun _ _ _ _ _ _ us hl => match us, hl with | [_, _], _ => rfl
  obtain ⟨fd11, D11⟩ := c.t.d.def_ 11 (d := d_take) rfl
  have F11 : Fun K "_law_take" "_law_take" s_take (He.fAd K ("_law_take", none)) fd11 := fun_of D11
  have b11 := F11.binds (ps := ["_law_deck_here", "_law_most"]) fun _ _ _ _ _ _ us hl => match us, hl with | [_, _], _ => rfl
  obtain ⟨fd12, D12⟩ := c.t.d.def_ 12 (d := d_gate) rfl
  have F12 : Fun K "_law_gate" "_law_gate" s_gate (He.fAd K ("_law_gate", none)) fd12 := fun_of D12
  have b12 := F12.binds (ps := ["_law_deck_here", "_law_wires", "_law_near_here"]) fun _ _ _ _ _ _ us hl => match us, hl with | [_, _, _], _ => rfl
  obtain ⟨fd13, D13⟩ := c.t.d.def_ 13 (d := d_net) rfl
  have F13 : Fun K "_law_net" "_law_net" s_net (He.fAd K ("_law_net", none)) fd13 := fun_of D13
  have b13 := F13.binds (ps := ["_law_deck_here"]) fun _ _ _ _ _ _ us hl => match us, hl with | [_], _ => rfl
  obtain ⟨fd14, D14⟩ := c.t.d.def_ 14 (d := d_shown) rfl
  have F14 : Fun K "_law_shown" "_law_shown" s_shown (He.fAd K ("_law_shown", none)) fd14 := fun_of D14
  have b14 := F14.binds (ps := ["_law_net_here"]) fun _ _ _ _ _ _ us hl => match us, hl with | [_], _ => rfl
  obtain ⟨fd15, D15⟩ := c.t.d.def_ 15 (d := d_near) rfl
  have F15 : Fun K "_law_near" "_law_near" s_near (He.fAd K ("_law_near", none)) fd15 := fun_of D15
  have b15 := F15.binds (ps := ["_law_deck_here", "_law_net_here"]) fun _ _ _ _ _ _ us hl => match us, hl with | [_, _], _ => rfl
  obtain ⟨fd16, D16⟩ := c.t.d.def_ 16 (d := d_right) rfl
  have F16 : Fun K "_law_right" "_law_right" s_right (He.fAd K ("_law_right", none)) fd16 := fun_of D16
  have b16 := F16.binds (ps := ["_law_net_here"]) fun _ _ _ _ _ _ us hl => match us, hl with | [_], _ => rfl
  obtain ⟨fd17, D17⟩ := c.t.d.def_ 17 (d := d_law) rfl
  have F17 : Fun K "law" "law" s_law (He.fAd K ("law", none)) fd17 := fun_of D17
  have b17 := F17.binds (ps := ["_law_script"]) fun _ _ _ _ _ _ us hl => match us, hl with | [_], _ => rfl
  have e := hfa.symm.trans (He.glo_ok X G (c.t.d.fact 17 (f := .glo "law") rfl))
  cases e
  let T : Tx K mg := { f_is_whole := _, fd_is_whole := _, F_is_whole := F0, g_is_whole := He.glo_ok X G (c.t.d.fact 0 (f := .glo "is_whole") rfl), b_is_whole := b0, f_is_signs := _, fd_is_signs := _, F_is_signs := F1, g_is_signs := He.glo_ok X G (c.t.d.fact 1 (f := .glo "is_signs") rfl), b_is_signs := b1, c_is_signs := (He.cT K ("is_signs", none)).1, P_is_signs := (He.cT K ("is_signs", none)).2, cd_is_signs := code_of F1, f_is_net := _, fd_is_net := _, F_is_net := F2, g_is_net := He.glo_ok X G (c.t.d.fact 2 (f := .glo "is_net") rfl), b_is_net := b2, c_is_net := (He.cT K ("is_net", none)).1, P_is_net := (He.cT K ("is_net", none)).2, cd_is_net := code_of F2, f_is_gate := _, fd_is_gate := _, F_is_gate := F3, g_is_gate := He.glo_ok X G (c.t.d.fact 3 (f := .glo "is_gate") rfl), b_is_gate := b3, c_is_gate := (He.cT K ("is_gate", none)).1, P_is_gate := (He.cT K ("is_gate", none)).2, cd_is_gate := code_of F3, f_show_net := _, fd_show_net := _, F_show_net := F4, g_show_net := He.glo_ok X G (c.t.d.fact 4 (f := .glo "show_net") rfl), b_show_net := b4, f_read_net := _, fd_read_net := _, F_read_net := F5, g_read_net := He.glo_ok X G (c.t.d.fact 5 (f := .glo "read_net") rfl), b_read_net := b5, f_read_head := _, fd_read_head := _, F_read_head := F6, g_read_head := He.glo_ok X G (c.t.d.fact 6 (f := .glo "read_head") rfl), b_read_head := b6, f_read_gate := _, fd_read_gate := _, F_read_gate := F7, g_read_gate := He.glo_ok X G (c.t.d.fact 7 (f := .glo "read_gate") rfl), b_read_gate := b7, f_read_number := _, fd_read_number := _, F_read_number := F8, g_read_number := He.glo_ok X G (c.t.d.fact 8 (f := .glo "read_number") rfl), b_read_number := b8, c_read_number := (He.cT K ("read_number", none)).1, P_read_number := (He.cT K ("read_number", none)).2, cd_read_number := code_of F8, f_deck := _, fd_deck := _, F_deck := F9, g_deck := He.glo_ok X G (c.t.d.fact 9 (f := .glo "_law_deck") rfl), b_deck := b9, f_mixed := _, fd_mixed := _, F_mixed := F10, g_mixed := He.glo_ok X G (c.t.d.fact 10 (f := .glo "_law_mixed") rfl), b_mixed := b10, f_take := _, fd_take := _, F_take := F11, g_take := He.glo_ok X G (c.t.d.fact 11 (f := .glo "_law_take") rfl), b_take := b11, f_gate := _, fd_gate := _, F_gate := F12, g_gate := He.glo_ok X G (c.t.d.fact 12 (f := .glo "_law_gate") rfl), b_gate := b12, f_net := _, fd_net := _, F_net := F13, g_net := He.glo_ok X G (c.t.d.fact 13 (f := .glo "_law_net") rfl), b_net := b13, f_shown := _, fd_shown := _, F_shown := F14, g_shown := He.glo_ok X G (c.t.d.fact 14 (f := .glo "_law_shown") rfl), b_shown := b14, f_near := _, fd_near := _, F_near := F15, g_near := He.glo_ok X G (c.t.d.fact 15 (f := .glo "_law_near") rfl), b_near := b15, f_right := _, fd_right := _, F_right := F16, g_right := He.glo_ok X G (c.t.d.fact 16 (f := .glo "_law_right") rfl), b_right := b16, f_law := _, fd_law := _, F_law := F17, g_law := He.glo_ok X G (c.t.d.fact 17 (f := .glo "law") rfl), b_law := b17, m_all := He.free_ok X G (c.t.d.fact 18 (f := .free "all") rfl), m_bool := He.free_ok X G (c.t.d.fact 19 (f := .free "bool") rfl), m_enumerate := He.free_ok X G (c.t.d.fact 20 (f := .free "enumerate") rfl), m_int := He.free_ok X G (c.t.d.fact 21 (f := .free "int") rfl), m_isinstance := He.free_ok X G (c.t.d.fact 22 (f := .free "isinstance") rfl), m_len := He.free_ok X G (c.t.d.fact 23 (f := .free "len") rfl), m_list := He.free_ok X G (c.t.d.fact 24 (f := .free "list") rfl), m_min := He.free_ok X G (c.t.d.fact 25 (f := .free "min") rfl), m_range := He.free_ok X G (c.t.d.fact 26 (f := .free "range") rfl), m_repr := He.free_ok X G (c.t.d.fact 27 (f := .free "repr") rfl), m_reversed := He.free_ok X G (c.t.d.fact 28 (f := .free "reversed") rfl), m_str := He.free_ok X G (c.t.d.fact 29 (f := .free "str") rfl), m_sum := He.free_ok X G (c.t.d.fact 30 (f := .free "sum") rfl), m_tuple := He.free_ok X G (c.t.d.fact 31 (f := .free "tuple") rfl), k_MOST_INPUTS := He.int_ok X G (c.t.d.fact 32 (f := .int "MOST_INPUTS" 6) rfl), k_MOST_INS := He.int_ok X G (c.t.d.fact 33 (f := .int "MOST_INS" 3) rfl), k_MOST_FIGURES := He.int_ok X G (c.t.d.fact 34 (f := .int "MOST_FIGURES" 40) rfl) }
  refine ⟨fd17, tf.map (He.cT K), sp_law K T.tabs, ?_, ?_, ?_, ?_, ?_, ?_⟩
  · rintro p hp
    obtain ⟨d, hd, rfl⟩ := List.mem_map.mp hp
    exact c.empty d hd
  · rintro p hp
    obtain ⟨d, hd, rfl⟩ := List.mem_map.mp hp
    exact c.out d hd
  · rintro p hp
    obtain ⟨d, hd, rfl⟩ := List.mem_map.mp hp
    exact PySem.W.codeHd_of_K X (c.hd d hd)
  · obtain ⟨oc, od, kV, doc, pm, an, cdv, ct, osl, rfl, lk, hcd⟩ := F17.ex
    exact fun s v => .of_eq rfl
  · intro H a ns hl hbits hT hS
    refine ⟨a, ns, rfl, hS, hl, fun P hP => ?_, fun _ => rfl⟩
    have hP : P ∈ (tf.map (He.cT K)).map (·.2) := hP
    obtain ⟨p, hp, rfl⟩ := List.mem_map.mp hP
    exact ⟨#[], hT p hp, by trivial⟩
  · intro base KB GB hTB
    have B : Tb base T := ⟨tab_of (hTB (He.cT K ("is_signs", none)) (List.mem_map.mpr ⟨_, (show (("is_signs", none) : He.Defn) ∈ tf by decide), rfl⟩)), tab_of (hTB (He.cT K ("is_net", none)) (List.mem_map.mpr ⟨_, (show (("is_net", none) : He.Defn) ∈ tf by decide), rfl⟩)), tab_of (hTB (He.cT K ("is_gate", none)) (List.mem_map.mpr ⟨_, (show (("is_gate", none) : He.Defn) ∈ tf by decide), rfl⟩)), tab_of (hTB (He.cT K ("read_number", none)) (List.mem_map.mpr ⟨_, (show (("read_number", none) : He.Defn) ∈ tf by decide), rfl⟩))⟩
    exact ok_law T B
end Gk
open PySem PySem.W PyProof.Rows
set_option maxRecDepth 100000 in
set_option maxHeartbeats 0 in
theorem PySem.Challenge.cw_glitchnet_k04_nets_written_and_read_holds : PySem.Challenge.rw_glitchnet_k04_nets_written_and_read.Holds := by
  w_on; o_law
  refine HandSHeadRun.head_any (r := OpenLaw.row PySem.Challenge.rw_glitchnet_k04_nets_written_and_read) (q := view (OpenLaw.row PySem.Challenge.rw_glitchnet_k04_nets_written_and_read).prog [27]) (H := Gk.hk) (ob := Gk.ob) (M := 3000) (loose := [("NetError" : PySem.Str), ("NoText" : PySem.Str), ("is_whole" : PySem.Str), ("is_signs" : PySem.Str), ("MOST_INPUTS" : PySem.Str), ("MOST_INS" : PySem.Str), ("is_net" : PySem.Str), ("is_gate" : PySem.Str), ("MOST_FIGURES" : PySem.Str), ("show_net" : PySem.Str), ("read_net" : PySem.Str), ("read_head" : PySem.Str), ("read_gate" : PySem.Str), ("read_number" : PySem.Str), ("_law_deck" : PySem.Str), ("_law_mixed" : PySem.Str), ("_law_take" : PySem.Str), ("_law_gate" : PySem.Str), ("_law_net" : PySem.Str), ("_law_shown" : PySem.Str), ("_law_near" : PySem.Str), ("_law_right" : PySem.Str)]) (d := HandSHeadRun.topDef (OpenLaw.row PySem.Challenge.rw_glitchnet_k04_nets_written_and_read).prog 27) (kwd := []) Gk.ob_eq
    (by kernel_rfl) (fun s => by kernel_rfl) Gk.run (by kernel_rfl) (by kernel_rfl) (by kernel_rfl) (by rfl) (by first | assumption | decide +kernel) (by decide +kernel) ⟨rfl, rfl, rfl, rfl, rfl, by decide +kernel⟩ ?hw ?hc
  case hw => w_witness2
  case hc =>
    refine Gk.walk_GT (l := PySem.Challenge.rw_glitchnet_k04_nets_written_and_read) (n := 63) (k := 8) (x := "_law_script") (CX := fun _ => L2.CX0) rfl (by decide) (by kernel_rfl) ⟨rfl, by decide, by decide⟩ ?F (fun _ _ _ _ _ z => z)
    intro w mg fa h Y G hmg0
    obtain ⟨K, KX, c⟩ := Y
    have hmg : mg ("law" : PySem.Str) = some (.ref fa) := by
      have e : (HandSHeadRun.topDef (OpenLaw.row PySem.Challenge.rw_glitchnet_k04_nets_written_and_read).prog 27).name = ("law" : PySem.Str) := by kernel_rfl
      rw [← e]
      exact hmg0
    exact ⟨K, KX, Gk.facts KX G hmg c⟩
