import PyProof.Rows.All
import Wide.All
import OpenK.AllK
import Wide.FinOn
import KE.GoesMore
import HandS.ForMost
import HandS.IsInst
import HandS.TupLe
import HandS.TupAny
import HandS.TupMul
import HandS.More
import HandS.Codes
import HandS.Conv
import HandS.Deep
import HandS.TupSets
import HandS.Style
import HandS.Strs
import HandS.AnyAll
import HandS.GenList
import HandS.JoinGen
import HandS.Zip
import HandS.Rev
import HandS.SetFor
import HandS.WideBits
import HandS.FStr
import HandS.RevTup
import HandS.Head0
import HandS.Head1
import HandS.Head2
import HandS.HeadEnd
import HandS.HeadHook1
import HandS.HeadHook2
import HandS.HeadHook3
import HandS.HeadHook4
import HandS.HeadWalk
import HandS.Defaults
import HandS.ReplaceLit
import KE.KUnpackStar
import PyProof.ReprLen
import PyProof.ReprRoads
import PyProof.TupleOfStr
import PyProof.ListStr
import PySem.Challenge.RW_glitchnet_k07_what_are_delays
set_option Elab.async false
set_option linter.all false
set_option maxRecDepth 100000
set_option maxHeartbeats 1000000
namespace Gk
open PySem PySem.Spec PyProof.Rows L2
/-! ### the text -/
def topS (i : Nat) : Stmt := PySem.Challenge.pw_glitchnet_k07_what_are_delays.main.body.getD i (.Pass ⟨0, 0, 0, 0⟩)
abbrev s_is_whole : Stmt := topS 1
abbrev s_is_delays : Stmt := topS 3
abbrev s_is_gate_delays : Stmt := topS 4
abbrev s_no_delays : Stmt := topS 5
abbrev s_readings_of : Stmt := topS 6
abbrev s_mixed : Stmt := topS 8
abbrev s_deck : Stmt := topS 9
abbrev s_draw : Stmt := topS 10
abbrev s_table : Stmt := topS 11
abbrev s_net : Stmt := topS 12
abbrev s_rows : Stmt := topS 13
abbrev s_delays : Stmt := topS 14
abbrev s_is : Stmt := topS 15
abbrev s_odd : Stmt := topS 16
abbrev s_bent : Stmt := topS 17
abbrev s_judged : Stmt := topS 18
abbrev s_readings : Stmt := topS 19
abbrev s_law : Stmt := topS 20
theorem sc_is_whole : FnScope ["thing"] ["thing"] (defScope s_is_whole) := ⟨rfl, rfl, rfl, by decide +kernel, rfl, by decide +kernel, by decide +kernel⟩
theorem sc_is_delays : FnScope ["net", "thing", "gates", "part", "table", "ins"] ["net", "thing"] (defScope s_is_delays) := ⟨rfl, rfl, rfl, by decide +kernel, rfl, by decide +kernel, by decide +kernel⟩
theorem sc_is_gate_delays : FnScope ["many", "thing", "delay"] ["many", "thing"] (defScope s_is_gate_delays) := ⟨rfl, rfl, rfl, by decide +kernel, rfl, by decide +kernel, by decide +kernel⟩
theorem sc_no_delays : FnScope ["net", "table", "ins"] ["net"] (defScope s_no_delays) := ⟨rfl, rfl, rfl, by decide +kernel, rfl, by decide +kernel, by decide +kernel⟩
theorem sc_readings_of : FnScope ["net", "gate", "table", "ins", "place"] ["net"] (defScope s_readings_of) := ⟨rfl, rfl, rfl, by decide +kernel, rfl, by decide +kernel, by decide +kernel⟩
theorem sc_mixed : FnScope ["_law_number"] ["_law_number"] (defScope s_mixed) := ⟨rfl, rfl, rfl, by decide +kernel, rfl, by decide +kernel, by decide +kernel⟩
theorem sc_deck : FnScope ["_law_script", "_law_cells"] ["_law_script"] (defScope s_deck) := ⟨rfl, rfl, rfl, by decide +kernel, rfl, by decide +kernel, by decide +kernel⟩
theorem sc_draw : FnScope ["_law_deck_here", "_law_most", "_law_low", "_law_cell"] ["_law_deck_here", "_law_most"] (defScope s_draw) := ⟨rfl, rfl, rfl, by decide +kernel, rfl, by decide +kernel, by decide +kernel⟩
theorem sc_table : FnScope ["_law_deck_here", "_law_many", "_law_way", "_law_size", "_law_k"] ["_law_deck_here", "_law_many"] (defScope s_table) := ⟨rfl, rfl, rfl, by decide +kernel, rfl, by decide +kernel, by decide +kernel⟩
theorem sc_net : FnScope ["_law_deck_here", "_law_gates", "_law_formula", "_law_many", "_law_free", "_law_made", "_law_k", "_law_ins", "_law_place", "_law_way", "_law_wire", "_law_one"] ["_law_deck_here", "_law_gates", "_law_formula"] (defScope s_net) := ⟨rfl, rfl, rfl, by decide +kernel, rfl, by decide +kernel, by decide +kernel⟩
theorem sc_rows : FnScope ["_law_deck_here", "_law_many", "_law_one", "_law_other", "_law_way", "_law_k", "_law_worth"] ["_law_deck_here", "_law_many"] (defScope s_rows) := ⟨rfl, rfl, rfl, by decide +kernel, rfl, by decide +kernel, by decide +kernel⟩
theorem sc_delays : FnScope ["_law_deck_here", "_law_net_here", "_law_most", "_law_made", "_law_table_here", "_law_ins", "_law_wire"] ["_law_deck_here", "_law_net_here", "_law_most"] (defScope s_delays) := ⟨rfl, rfl, rfl, by decide +kernel, rfl, by decide +kernel, by decide +kernel⟩
theorem sc_is : FnScope ["_law_net_here", "_law_thing", "_law_k", "_law_one"] ["_law_net_here", "_law_thing"] (defScope s_is) := ⟨rfl, rfl, rfl, by decide +kernel, rfl, by decide +kernel, by decide +kernel⟩
theorem sc_odd : FnScope ["_law_deck_here"] ["_law_deck_here"] (defScope s_odd) := ⟨rfl, rfl, rfl, by decide +kernel, rfl, by decide +kernel, by decide +kernel⟩
theorem sc_bent : FnScope ["_law_deck_here", "_law_thing", "_law_way", "_law_at", "_law_k", "_law_odd_here", "_law_ahead", "_law_part"] ["_law_deck_here", "_law_thing"] (defScope s_bent) := ⟨rfl, rfl, rfl, by decide +kernel, rfl, by decide +kernel, by decide +kernel⟩
theorem sc_judged : FnScope ["_law_net_here", "_law_thing", "_law_found"] ["_law_net_here", "_law_thing"] (defScope s_judged) := ⟨rfl, rfl, rfl, by decide +kernel, rfl, by decide +kernel, by decide +kernel⟩
theorem sc_readings : FnScope ["_law_net_here", "_law_found", "_law_gate", "_law_place"] ["_law_net_here"] (defScope s_readings) := ⟨rfl, rfl, rfl, by decide +kernel, rfl, by decide +kernel, by decide +kernel⟩
theorem sc_law : FnScope ["_law_script", "_law_deck_here", "_law_turn", "_law_great", "_law_net_here", "_law_most", "_law_delays_here", "_law_k", "_law_noughts", "_law_far", "_law_again", "_law_thing", "_law_table_here", "_law_ins"] ["_law_script"] (defScope s_law) := ⟨rfl, rfl, rfl, by decide +kernel, rfl, by decide +kernel, by decide +kernel⟩
structure Tx (K : PySem.W.Frag) (mg : Str → Option Value) where
  f_is_whole : Addr
  fd_is_whole : FuncData
  F_is_whole : Fun K "is_whole" "is_whole" s_is_whole f_is_whole fd_is_whole
  g_is_whole : mg "is_whole" = some (.ref f_is_whole)
  b_is_whole : Binds K fd_is_whole ["thing"] []
  f_is_delays : Addr
  fd_is_delays : FuncData
  F_is_delays : Fun K "is_delays" "is_delays" s_is_delays f_is_delays fd_is_delays
  g_is_delays : mg "is_delays" = some (.ref f_is_delays)
  b_is_delays : Binds K fd_is_delays ["net", "thing"] []
  c_is_delays : Addr
  P_is_delays : Addr
  cd_is_delays : fd_is_delays.code = .ref c_is_delays
  f_is_gate_delays : Addr
  fd_is_gate_delays : FuncData
  F_is_gate_delays : Fun K "is_gate_delays" "is_gate_delays" s_is_gate_delays f_is_gate_delays fd_is_gate_delays
  g_is_gate_delays : mg "is_gate_delays" = some (.ref f_is_gate_delays)
  b_is_gate_delays : Binds K fd_is_gate_delays ["many", "thing"] []
  c_is_gate_delays : Addr
  P_is_gate_delays : Addr
  cd_is_gate_delays : fd_is_gate_delays.code = .ref c_is_gate_delays
  f_no_delays : Addr
  fd_no_delays : FuncData
  F_no_delays : Fun K "no_delays" "no_delays" s_no_delays f_no_delays fd_no_delays
  g_no_delays : mg "no_delays" = some (.ref f_no_delays)
  b_no_delays : Binds K fd_no_delays ["net"] []
  c_no_delays : Addr
  P_no_delays : Addr
  cd_no_delays : fd_no_delays.code = .ref c_no_delays
  f_readings_of : Addr
  fd_readings_of : FuncData
  F_readings_of : Fun K "readings_of" "readings_of" s_readings_of f_readings_of fd_readings_of
  g_readings_of : mg "readings_of" = some (.ref f_readings_of)
  b_readings_of : Binds K fd_readings_of ["net"] []
  c_readings_of : Addr
  P_readings_of : Addr
  cd_readings_of : fd_readings_of.code = .ref c_readings_of
  f_mixed : Addr
  fd_mixed : FuncData
  F_mixed : Fun K "_law_mixed" "_law_mixed" s_mixed f_mixed fd_mixed
  g_mixed : mg "_law_mixed" = some (.ref f_mixed)
  b_mixed : Binds K fd_mixed ["_law_number"] []
  f_deck : Addr
  fd_deck : FuncData
  F_deck : Fun K "_law_deck" "_law_deck" s_deck f_deck fd_deck
  g_deck : mg "_law_deck" = some (.ref f_deck)
  b_deck : Binds K fd_deck ["_law_script"] []
  f_draw : Addr
  fd_draw : FuncData
  F_draw : Fun K "_law_draw" "_law_draw" s_draw f_draw fd_draw
  g_draw : mg "_law_draw" = some (.ref f_draw)
  b_draw : Binds K fd_draw ["_law_deck_here", "_law_most"] []
  f_table : Addr
  fd_table : FuncData
  F_table : Fun K "_law_table" "_law_table" s_table f_table fd_table
  g_table : mg "_law_table" = some (.ref f_table)
  b_table : Binds K fd_table ["_law_deck_here", "_law_many"] []
  f_net : Addr
  fd_net : FuncData
  F_net : Fun K "_law_net" "_law_net" s_net f_net fd_net
  g_net : mg "_law_net" = some (.ref f_net)
  b_net : Binds K fd_net ["_law_deck_here", "_law_gates", "_law_formula"] []
  f_rows : Addr
  fd_rows : FuncData
  F_rows : Fun K "_law_rows" "_law_rows" s_rows f_rows fd_rows
  g_rows : mg "_law_rows" = some (.ref f_rows)
  b_rows : Binds K fd_rows ["_law_deck_here", "_law_many"] []
  f_delays : Addr
  fd_delays : FuncData
  F_delays : Fun K "_law_delays" "_law_delays" s_delays f_delays fd_delays
  g_delays : mg "_law_delays" = some (.ref f_delays)
  b_delays : Binds K fd_delays ["_law_deck_here", "_law_net_here", "_law_most"] []
  f_is : Addr
  fd_is : FuncData
  F_is : Fun K "_law_is" "_law_is" s_is f_is fd_is
  g_is : mg "_law_is" = some (.ref f_is)
  b_is : Binds K fd_is ["_law_net_here", "_law_thing"] []
  f_odd : Addr
  fd_odd : FuncData
  F_odd : Fun K "_law_odd" "_law_odd" s_odd f_odd fd_odd
  g_odd : mg "_law_odd" = some (.ref f_odd)
  b_odd : Binds K fd_odd ["_law_deck_here"] []
  f_bent : Addr
  fd_bent : FuncData
  F_bent : Fun K "_law_bent" "_law_bent" s_bent f_bent fd_bent
  g_bent : mg "_law_bent" = some (.ref f_bent)
  b_bent : Binds K fd_bent ["_law_deck_here", "_law_thing"] []
  f_judged : Addr
  fd_judged : FuncData
  F_judged : Fun K "_law_judged" "_law_judged" s_judged f_judged fd_judged
  g_judged : mg "_law_judged" = some (.ref f_judged)
  b_judged : Binds K fd_judged ["_law_net_here", "_law_thing"] []
  f_readings : Addr
  fd_readings : FuncData
  F_readings : Fun K "_law_readings" "_law_readings" s_readings f_readings fd_readings
  g_readings : mg "_law_readings" = some (.ref f_readings)
  b_readings : Binds K fd_readings ["_law_net_here"] []
  f_law : Addr
  fd_law : FuncData
  F_law : Fun K "law" "law" s_law f_law fd_law
  g_law : mg "law" = some (.ref f_law)
  b_law : Binds K fd_law ["_law_script"] []
  m_all : mg "all" = none
  m_bool : mg "bool" = none
  m_enumerate : mg "enumerate" = none
  m_int : mg "int" = none
  m_isinstance : mg "isinstance" = none
  m_len : mg "len" = none
  m_list : mg "list" = none
  m_max : mg "max" = none
  m_min : mg "min" = none
  m_range : mg "range" = none
  m_repr : mg "repr" = none
  m_sum : mg "sum" = none
  m_tuple : mg "tuple" = none
  m_zip : mg "zip" = none
structure Tb (base : Heap) {K : PySem.W.Frag} {mg : Str → Option Value} (T : Tx K mg) : Prop where
  TB_is_delays : GxR.TabB base mg T.c_is_delays T.P_is_delays
  TB_is_gate_delays : GxR.TabB base mg T.c_is_gate_delays T.P_is_gate_delays
  TB_no_delays : GxR.TabB base mg T.c_no_delays T.P_no_delays
  TB_readings_of : GxR.TabB base mg T.c_readings_of T.P_readings_of
def Tx.tabs {K : PySem.W.Frag} {mg : Str → Option Value} (T : Tx K mg) : List Addr := [T.P_is_delays, T.P_is_gate_delays, T.P_no_delays, T.P_readings_of]
/-! ### generator expressions whose elements may call -/
theorem inv_moved {X : Cx} {cp : List (Addr × Obj)} {σ : L2.St} {H : Hp} {s s' : Shared} (I : Inv X cp σ H s) (os : s'.os = s.os) (bare : AllBare s'.gens) (k : ∀ b o, s.heap.get? b = some o → s'.heap.get? b = some o) : Inv X cp σ H s' :=
  I.call' (ch := []) os (Un.kept k) (I.hok.kept k) bare fun b hb => absurd hb (by simp)
/-- the context of a generator expression's frame: C its frame, s, H the entry, fp its iterator's objects -/
abbrev gblk (X : Cx) (A : Around) (s : Shared) (H : Hp) (cenv : Env) (fp : List Addr) : Cx :=
  { X with A := A, s_0 := s, H_0 := H, env := cenv, outer := X.stack, stack := cenv :: X.stack, ex := fp, fn := fun _ => false, pn := [], xe := fun _ _ => False }
section
variable {X : Cx} {pins : List (Addr × Obj)} {σ : L2.St} {H : Hp} {s : Shared}
theorem gen_start {scope : Scope} {own : List (Str × Nat)} {fp : List Addr} {A : Around} {code it : Value} {s5 : Shared} {cp : List (Addr × Obj)}
    (I : Inv X pins σ H s) (ok : BlkOk X.N X.env.scope scope own) (nocell : ∀ y ∈ scope.names, y.2 ≠ .cell) (hN : X.N.Nodup) (hfp : ∀ b ∈ fp, FpOk X pins H b ∧ b < s.heap.objs.size)
    (hh : A.handled = none) (hfr : A.frames = some (genEnv scope (cloFrom X.env.cells scope.names []) s.heap.objs.size code builtinsNs X.env :: X.stack))
    (os : s5.os = s.os) (bare : AllBare s5.gens) (kp : ∀ b o, s.heap.get? b = some o → s5.heap.get? b = some o)
    (hns : s5.heap.Ns s.heap.objs.size fun y => if y = ".0" then some it else none)
    (hcp : ∀ p ∈ cp, s.heap.objs.size < p.1 ∧ s5.heap.get? p.1 = some p.2 ∧ ∀ v, p.2.data ≠ .cell v) :
    Inv (gblk X A s H (genEnv scope (cloFrom X.env.cells scope.names []) s.heap.objs.size code builtinsNs X.env) fp) cp (wipe σ (own.map (·.2))) H s5 := by
  have hfree : ∀ y ∈ scope.names, y.2 = .free → ∃ c, X.env.cells.lookup y.1 = some c := fun y hy e => by
    rcases ok.free y hy e with k | k
    · exact I.ok.has _ (.inl k)
    · exact I.ok.has _ (.inr k)
  generalize hcenv : genEnv scope (cloFrom X.env.cells scope.names []) s.heap.objs.size code builtinsNs X.env = cenv at hfr ⊢
  have hL : cenv.locals = s.heap.objs.size := by rw [← hcenv]; rfl
  have hcl : cenv.cells = cloFrom X.env.cells scope.names [] := by rw [← hcenv]; rfl
  have hsc : cenv.scope = scope := by rw [← hcenv]; rfl
  have cm : ∀ {y c}, (y, c) ∈ cloFrom X.env.cells scope.names [] → X.env.cells.lookup y = some c ∧ c < s.heap.objs.size := fun {y c} hm => by
    rcases cloFrom_mem hm with hm | ⟨h1, rfl⟩
    · cases hm
    · obtain ⟨c, hc⟩ := hfree _ h1 rfl
      rw [hc]
      obtain ⟨w, z⟩ := I.cell _ _ hc
      exact ⟨rfl, z.lt⟩
  have mem : ∀ {y c}, cenv.cells.lookup y = some c → X.env.cells.lookup y = some c ∧ c < s.heap.objs.size := fun {y c} e => by
    rw [hcl] at e
    exact cm (PySem.mem_of_lookup e)
  have look : ∀ {y}, scope.names.lookup y = some .free → ∃ c, cenv.cells.lookup y = some c ∧ X.env.cells.lookup y = some c := fun {y} hl => by
    have hy : (y, NameKind.free) ∈ scope.names := PySem.mem_of_lookup hl
    obtain ⟨c', e'⟩ := mem_lookup (cloFrom_has (cells := X.env.cells) (acc := []) hy)
    rw [← hcl] at e'
    exact ⟨c', e', (mem e').1⟩
  have okB : (gblk X A s H cenv fp).Ok := by
    refine ⟨I.ok.mod, by show cenv.scope.kind = _; rw [hsc]; exact ok.kind, by show cenv.globals = _; rw [← hcenv]; exact I.ok.glob, by show cenv.builtins = _; rw [← hcenv]; rfl, by show s.heap.objs.size ≤ cenv.locals; rw [hL]; exact Nat.le_refl _,
      fun y z c e1 e2 => I.ok.inj y z c (mem e1).1 (mem e2).1, fun y hy => ?_, fun y c z e => (by cases z), fun _ => hh, hfr, .inr ⟨rfl, by show cenv.frame = some cenv.locals; rw [← hcenv]; rfl⟩, fun b hb => ⟨?_, fun y c e z => ?_⟩, I.bs, Nat.le_trans I.ok.bsz I.sz, fun b o e hb => ?_, fun b hb z => ?_, I.stack, I.stkFree⟩
    · have hy' : scope.names.lookup y = some .cell ∨ scope.names.lookup y = some .free := by
        rw [← hsc]
        exact hy
      rcases hy' with e | e
      · exact absurd rfl (nocell _ (PySem.mem_of_lookup e))
      · obtain ⟨c, h1, _⟩ := look e
        exact ⟨c, h1⟩
    · show b ≠ cenv.locals
      rw [hL]; exact Nat.ne_of_lt (hfp b hb).2
    · exact (hfp b hb).1.2.2.2.2.1 y c (mem e).1 z
    · rcases (hfp b hb).1.2.2.2.1 with z | z
      · exact I.ok.noex b o e z
      · exact absurd (Nat.lt_of_lt_of_le (Heap.lt_size e) (Nat.le_trans I.ok.bsz z)) (Nat.lt_irrefl _)
    · rcases List.mem_cons.mp (I.stkSub b z) with z | z
      · exact (hfp b hb).1.2.1 z
      · exact (hfp b hb).1.2.2.1 z
  refine ⟨okB, os, bare, Un.kept kp, ⟨_, (by show s5.heap.Ns cenv.locals _; rw [hL]; exact hns), fun i y av e1 e2 e3 => ?_⟩, fun y c e => ?_, ?_, fun y c e => I.freeC y c (mem e).1, fun p hp => ?_, I.hok.kept kp, by rw [wipe_length]; exact I.len⟩
  · obtain ⟨e2, hne⟩ := wipe_some e2
    have e3 : Vis scope y := by rw [← hsc]; exact e3
    have no : ∀ k, scope.names.lookup y = some k → ¬ (k = .local ∨ k = .cell) := fun k e hh => by
      rcases ok.own _ (PySem.mem_of_lookup e) hh with e' | e'
      · obtain ⟨p, hp, hpy⟩ := List.mem_map.mp e'
        have e3 := ok.ix p hp
        have : p.1 = y := hpy
        rw [this] at e3
        exact hne (List.mem_map.mpr ⟨p, hp, nodup_ix hN e3 e1⟩)
      · exact e' (List.mem_of_getElem? e1)
    have hfr2 : scope.names.lookup y = some .free := by
      rcases e3 with e | e | e
      · exact absurd (.inl rfl) (no _ e)
      · exact absurd (.inr rfl) (no _ e)
      · exact e
    obtain ⟨m, hn, hl⟩ := I.loc
    have hvis : Vis X.env.scope y := (ok.free _ (PySem.mem_of_lookup hfr2) rfl).elim (fun k => .inr (.inl k)) (fun k => .inr (.inr k))
    obtain ⟨w, r, q⟩ := hl i y av e1 e2 hvis
    refine ⟨w, r, .inr ⟨.inr (by show cenv.scope.names.lookup y = some .free; rw [hsc]; exact hfr2), ?_⟩⟩
    obtain ⟨c, h1, h2⟩ := look hfr2
    rcases q with ⟨k, _⟩ | ⟨_, c', e', z⟩
    · have k : X.env.scope.names.lookup y = some .local := k
      rcases ok.free _ (PySem.mem_of_lookup hfr2) rfl with k' | k' <;> rw [show X.env.scope.names.lookup y = _ from k'] at k <;> cases k
    · rw [h2] at e'; cases e'
      exact ⟨c, h1, z.keeps kp⟩
  · obtain ⟨w, z⟩ := I.cell y c (mem e).1
    exact ⟨w, z.keeps kp⟩
  · show H cenv.locals = none
    rw [hL]; exact I.hok.fresh (Nat.le_refl _)
  · have hp : p ∈ cp := by simpa using hp
    obtain ⟨h1, h2, h3⟩ := hcp p hp
    refine ⟨h2, I.hok.fresh (Nat.le_of_lt h1), by show p.1 ≠ cenv.locals; rw [hL]; exact Nat.ne_of_gt h1, fun z => ?_, h3⟩
    rcases List.mem_cons.mp (I.stkSub _ z) with z | z
    · exact absurd (Nat.lt_trans I.lt h1) (by rw [z]; exact Nat.lt_irrefl _)
    · exact I.nofs (Nat.le_of_lt h1) z
end
/-! ### the talk of a generator and who asks it -/
section
variable {α : Type}
/-- handed out: x; the asker's state a (laid down in the pins cp) goes to one with Nx -/
def YG (Xg : Cx) (fp : List Addr) (tn : Nat → Heap → Prop) (AC : α → List (Addr × Obj) → Prop) (Yd : α → V → Hp → (α → Hp → Prop) → Prop) : Protocol := fun _ s0 v s kap =>
  ∃ (a : α) (x : V) (σ : L2.St) (H : Hp) (i : Nat) (cp : List (Addr × Obj)) (Nx : α → Hp → Prop), RelV x v ∧ AC a cp ∧ (∀ p ∈ cp, s0.heap.get? p.1 = some p.2) ∧ Inv Xg cp σ H s ∧ tn i s.heap ∧ (∀ b ∈ fp, H b = none) ∧ Yd a x H Nx ∧
    ∀ a' cp' s', Nx a' H → AC a' cp' → Inv Xg cp' σ H s' → tn i s'.heap → kap (.send .none) s'
def RG (Xg : Cx) (AC : α → List (Addr × Obj) → Prop) (End : α → Hp → Prop) : GenEnd := fun _ s0 r s =>
  ((r = .ok (.ret .none) ∨ r = .ok .next) ∧ ∃ (a : α) (σ : L2.St) (H : Hp) (cp : List (Addr × Obj)), AC a cp ∧ (∀ p ∈ cp, s0.heap.get? p.1 = some p.2) ∧ Inv Xg cp σ H s ∧ End a H) ∨ ∃ e, r = .error e ∧ False
/-- a generator's turns -/
def tGx (J : It) (g : TG) (tt : TT) (te : TE) (σ0 : L2.St) (vs : List Nat) (End : α → Hp → Prop) (Yd : α → V → Hp → (α → Hp → Prop) → Prop) (W : Nat → Nat → α → Hp → Prop) : Prop :=
  ∀ i m a H, W i m a H → (J.stop i H ∧ End a H) ∨ (J.go i H ∧ ∃ Nx : α → Hp → Prop, (∀ a' H', Nx a' H' → ∃ m', m' < m ∧ W (i + 1) m' a' H') ∧
    ∀ x H', J.yld i H x H' → g x σ0 H' fun σ2 H2 => wipe σ2 vs = σ0 ∧ tt σ2 H2 fun b H3 => if b = true then te σ2 H3 fun y H4 => Yd a y H4 Nx else Nx a H3)
theorem wipe_wipe_some {σ σ2 : L2.St} {vs : List Nat} (h : wipe σ2 vs = σ) : ∀ (j : Nat) v, σ[j]? = some (some v) → σ2[j]? = some (some v) := fun j v e => by
  rw [← h] at e
  exact (wipe_some e).1
theorem seg_gx {X : Cx} {A A' : Around} {s_0 : Shared} {H_0 : Hp} {elt tg iter : Expr} {ifs : List Expr} {scope : Scope} {pos : Pos} {it : Addr} {fp : List Addr} {tn : Nat → Heap → Prop} {J : It} {cenv : Env} {g : TG} {tt : TT} {te : TE} {σ0 : L2.St} {vs : List Nat}
    {AC : α → List (Addr × Obj) → Prop} {End : α → Hp → Prop} {Yd : α → V → Hp → (α → Hp → Prop) → Prop} {W : Nat → Nat → α → Hp → Prop}
    (hA : A.over (.compLoop (.GeneratorExp elt [⟨tg, iter, ifs, 0⟩] scope pos) 0 (.ref it) .none cenv) [] = A') (hc : X.calm = true) (hco : cenv.scope.isCoroutine = false)
    (T : Turn X.prog X.w X.K tg J fp it tn) (pg : PG (gblk X A' s_0 H_0 cenv fp) tg g) (pt : PTs (gblk X A' s_0 H_0 cenv fp) ifs tt) (pe : PE (gblk X A' s_0 H_0 cenv fp) elt te)
    (hAC : ∀ a cp, AC a cp → ∀ p ∈ cp, ∀ b ∈ fp, p.1 ≠ b) (turn : tGx J g tt te σ0 vs End Yd W) :
    ∀ (m n i : Nat) (a : α) (H : Hp) (s₀ s : Shared) (cp : List (Addr × Obj)), m < n → W i m a H → AC a cp → (∀ p ∈ cp, s₀.heap.get? p.1 = some p.2) → Inv (gblk X A' s_0 H_0 cenv fp) cp σ0 H s → tn i s.heap → (∀ b ∈ fp, H b = none) →
      Seg (model X.prog X.w) A (RG (gblk X A' s_0 H_0 cenv fp) AC End) (YG (gblk X A' s_0 H_0 cenv fp) fp tn AC Yd) n s₀
        (.compLoop (.GeneratorExp elt [⟨tg, iter, ifs, 0⟩] scope pos) 0 (.ref it) .none cenv)
        ((model X.prog X.w).den (.compLoop (.GeneratorExp elt [⟨tg, iter, ifs, 0⟩] scope pos) 0 (.ref it) .none cenv)) [] s := by
  have stat : ∀ {a : α} {cp : List (Addr × Obj)} {σ' : L2.St} {H' : Hp} {s' : Shared}, AC a cp → Inv (gblk X A' s_0 H_0 cenv fp) cp σ' H' s' → (∀ b ∈ fp, H' b = none) → ∀ b ∈ fp, FpOk (gblk X A' s_0 H_0 cenv fp) cp H' b := fun {a cp σ' H' s'} hac I' hn b hb =>
    ⟨hn b hb, (I'.ok.exf b hb).1, I'.ok.exfs b hb, .inl hb, fun x c e => (I'.ok.exf b hb).2 x c e, fun p hp => hAC a cp hac p (by simpa using hp) b hb⟩
  intro m
  induction m using Nat.strongRecOn with
  | ind m ih =>
    intro n i a H s₀ s cp hmn w hac tie I st nf
    show Seg _ A _ _ _ s₀ _ ((compTurn (.GeneratorExp elt [⟨tg, iter, ifs, 0⟩] scope pos) 0 (.ref it) .none cenv).onRaise (leaving cenv)) [] s
    rw [compTurn_gen, Sem.onRaise_eq_wrap]
    refine seg_bind_wrap (wpAny_standAt ?_)
    rcases turn i m a H w with ⟨stop, hend⟩ | ⟨go, Nx, hNx, step⟩
    · refine seg_bind_wrap ?_
      rw [hA]
      refine thnF (T.done (gblk X A' s_0 H_0 cenv fp) rfl rfl rfl hc i cp s σ0 H (fun _ _ => False) I (stat hac I nf) st stop) fun r s1 ⟨hr, I1⟩ => ?_
      subst hr
      exact seg_end (.ok .next) (.inl ⟨.inr rfl, a, _, H, cp, hac, tie, I1, hend⟩)
    · refine seg_bind_wrap ?_
      rw [hA]
      refine thnF (T.item (gblk X A' s_0 H_0 cenv fp) rfl rfl rfl hc i cp s σ0 H (fun _ _ => False) I (stat hac I nf) st go) fun r s1 ⟨u, hr, h1⟩ => ?_
      subst hr
      refine seg_bind_wrap ?_
      rw [hA]
      refine thnF h1 fun _ s2 ⟨x, H2, I2, r2, y2, st2, n2⟩ => ?_
      have I2' := I2.pinned (stat hac I2 n2) (T.obj _ _ st2)
      refine seg_bind_wrap ?_
      rw [hA]
      refine thnF (pg.run _ s2 _ H2 x u _ I2' r2 (step x H2 y2)) fun _ s3 ⟨σ3, H3, I3, hw3, q3⟩ => ?_
      refine seg_bind_wrap ?_
      rw [hA]
      refine thnF (pt.run _ s3 σ3 H3 _ I3 q3) fun b s4 ⟨H4, I4, q4⟩ => ?_
      have hl : σ0.length = σ3.length := by rw [← hw3, wipe_length]
      have fin : ∀ {s' : Shared} {H' : Hp}, Inv (gblk X A' s_0 H_0 cenv fp) (cp ++ pinsAt fp s2.heap) σ3 H' s' → Inv (gblk X A' s_0 H_0 cenv fp) cp σ0 H' s' ∧ tn (i + 1) s'.heap ∧ ∀ b ∈ fp, H' b = none := fun {s' H'} I' => by
        have pin' : ∀ b ∈ fp, ∀ o, s2.heap.get? b = some o → s'.heap.get? b = some o ∧ H' b = none := fun b hb o e =>
          let z := I'.pin (b, o) (List.mem_append_right _ (List.mem_append_right _ (mem_pinsAt hb e)))
          ⟨z.1, z.2.1⟩
        refine ⟨(I'.unpinned (pins := cp)).weak hl (wipe_wipe_some hw3), T.keep _ _ _ st2 fun b hb o e => (pin' b hb o e).1, fun b hb => ?_⟩
        obtain ⟨o, e, _⟩ := T.obj _ _ st2 b hb
        exact (pin' b hb o e).2
      cases b with
      | false =>
        simp only [Bool.false_eq_true, if_false] at q4 ⊢
        obtain ⟨m', hm, w'⟩ := hNx a H4 q4
        obtain ⟨J1, J2, J3⟩ := fin I4
        exact seg_again rfl (ih m' hm n (i + 1) a H4 s₀ s4 cp (by omega) w' hac tie J1 J2 J3)
      | true =>
        simp only [if_true] at q4 ⊢
        have hy : ∀ v, yieldOut cenv v = yieldValue v := fun v => by simp only [yieldOut, hco, Bool.false_eq_true, if_false]
        simp only [hy]
        rw [Sem.bind_eq_wrap', Sem.bind_eq_wrap', Sem.wrap_wrap, Sem.wrap_wrap]
        refine seg_wrap ?_
        rw [hA]
        refine thnF (pe.run _ s4 σ3 H4 _ I4 q4) fun yv s5 ⟨y, H5, I5, r5, q5⟩ => ?_
        obtain ⟨J1, J2, J3⟩ := fin I5
        -- at least one more
        cases n with
        | zero => exact absurd hmn (Nat.not_lt_zero _)
        | succ n =>
          refine seg_at (seg_yield rfl rfl rfl ⟨a, y, σ0, H5, i + 1, cp, Nx, r5, hac, tie, J1, J2, J3, q5, fun a' cp' s' nx hac' I' st' => ?_⟩)
          obtain ⟨m', hm, w'⟩ := hNx a' H5 nx
          exact seg_again rfl (ih m' hm n (i + 1) a' H5 s' s' cp' (by omega) w' hac' (fun p hp => (I'.pin p (List.mem_append_right _ hp)).1) I' st' J3)
end
/-! ### a generator that is made -/
section
variable {X : Cx} {pins : List (Addr × Obj)} {σ : L2.St} {H : Hp} {s : Shared}
def GenObj (o : Obj) (g : Nat) : Prop := ∃ nm qn, o.cls = .type "generator" ∧ o.data = .fields #[.int g 0, nm, qn] ∧ o.slots = #[]
theorem GenObj.isGen {o : Obj} {g : Nat} (h : GenObj o g) {a : Addr} {hp : Heap} (e : hp.get? a = some o) : hp.IsGen a g := by
  obtain ⟨nm, qn, h1, h2, h3⟩ := h
  exact ⟨o, nm, qn, e, h1, h2, h3⟩
/-- the generator u, made and not begun, in the state s5 -/
def Gx (X : Cx) (pins : List (Addr × Obj)) (σ : L2.St) (A : Around) (J : It) (g : TG) (tt : TT) (te : TE) (vs : List Nat) (H4 : Hp) (u : Value) (s5 : Shared) : Prop :=
  ∃ (A' : Around) (s_0 : Shared) (H_0 : Hp) (cenv : Env) (fp : List Addr) (ga : Addr) (gn : Nat) (go : Obj) (tn : Nat → Heap → Prop) (gs : GenState),
    u = .ref ga ∧ GenObj go gn ∧ s5.gens[gn]? = some gs ∧ gs.bare = true ∧ Inv (gblk X A' s_0 H_0 cenv fp) [(ga, go)] (wipe σ vs) H4 s5 ∧ tn 0 s5.heap ∧ (∀ b ∈ fp, H4 b = none) ∧ (∀ b ∈ fp, b < ga) ∧
    (∀ i h h', tn i h → (∀ b ∈ fp, ∀ o, h.get? b = some o → h'.get? b = some o) → tn i h') ∧ (∀ cp σ' H' s', Inv (gblk X A' s_0 H_0 cenv fp) cp σ' H' s' → Inv X pins σ H' s') ∧
    ∀ (α : Type) (AC : α → List (Addr × Obj) → Prop) (End : α → Hp → Prop) (Yd : α → V → Hp → (α → Hp → Prop) → Prop) (W : Nat → Nat → α → Hp → Prop) (m n : Nat) (a : α) (cp : List (Addr × Obj)) (s' : Shared),
      tGx J g tt te (wipe σ vs) vs End Yd W → W 0 m a H4 → m < n → (∀ a cp, AC a cp → ∀ p ∈ cp, ∀ b ∈ fp, p.1 ≠ b) → AC a cp → Inv (gblk X A' s_0 H_0 cenv fp) cp (wipe σ vs) H4 s' → tn 0 s'.heap →
      gs.Goes (model X.prog X.w) A (RG (gblk X A' s_0 H_0 cenv fp) AC End) (YG (gblk X A' s_0 H_0 cenv fp) fp tn AC Yd) n (.send .none) s'
/-- what stands about an asker -/
structure Near (A B : Around) : Prop where
  hd : B.handled = A.handled
  fr : B.frames = A.frames
  gd : B.guards = A.guards
  dp : B.depth = A.depth
  un : B.units ≤ A.units + 8
theorem gx_make {c P : Addr} {elt tg iter : Expr} {ifs : List Expr} {gpos : Pos} {scope : Scope} {own : List (Str × Nat)} {wi : TI} {g : TG} {tt : TT} {te : TE} {k : Nat} {Q' : Value → Shared → Prop} {R : It → Hp → Prop} {A : Around}
    (hr : Room (k + 1) X.A) (near : Near X.A A) (hc : X.calm = true) (hN : X.N.Nodup) (TB : GxR.TabB X.base X.mg c P) (hcode : X.env.code = .ref c) (hco : scope.isCoroutine = false) (hdot : scope.names.lookup (".0" : Str) = some NameKind.local)
    (nocell : ∀ y ∈ scope.names, y.2 ≠ .cell) (ok : BlkOk X.N X.env.scope scope own) (hi : PI X tg iter wi)
    (hg : ∀ (A' : Around) (s : Shared) (H : Hp) (C : Addr) (cl : List (Str × Addr)) (code : Value) (fp : List Addr), Room k A' → A'.guards = X.A.guards → PG (gblk X A' s H (genEnv scope cl C code builtinsNs X.env) fp) tg g)
    (ht : ∀ (A' : Around) (s : Shared) (H : Hp) (C : Addr) (cl : List (Str × Addr)) (code : Value) (fp : List Addr), Room k A' → A'.guards = X.A.guards → PTs (gblk X A' s H (genEnv scope cl C code builtinsNs X.env) fp) ifs tt)
    (he : ∀ (A' : Around) (s : Shared) (H : Hp) (C : Addr) (cl : List (Str × Addr)) (code : Value) (fp : List Addr), Room k A' → A'.guards = X.A.guards → PE (gblk X A' s H (genEnv scope cl C code builtinsNs X.env) fp) elt te)
    (hs : ∀ v, genFold iter X.env v = pure v) (I : Inv X pins σ H s) (h : wi σ H fun J H1 => GxR.TabG H1 P ∧ R J H1)
    (hQ : ∀ J H1 H2 u s5, R J H1 → GxR.Tabbed P H1 H2 → Gx X pins σ A J g tt te (own.map (·.2)) H2 u s5 → Q' u s5) :
    wpAny (model X.prog X.w) X.A (eval (.GeneratorExp elt [⟨tg, iter, ifs, 0⟩] scope gpos) X.env) Q' X.xe s := by
  have hfree : ∀ y ∈ scope.names, y.2 = .free → ∃ c, X.env.cells.lookup y.1 = some c := fun y hy e => by
    rcases ok.free y hy e with k | k
    · exact I.ok.has _ (.inl k)
    · exact I.ok.has _ (.inr k)
  refine wpAny_GeneratorExp_make hco (closure_ok hfree) nocell hdot ok.kind (by have := hr.dp; omega) ?_ hs
  refine thn (hi.run pins s σ H _ I h) fun xv s1 hx => thn hx fun itv s2 h2 => ?_
  obtain ⟨it, fp, tn, J, H2, rfl, I2, T, st2, f2, ⟨ps, hP, ht3⟩, q⟩ := h2
  refine ⟨I2.nolimit, ?_⟩
  have hPs : s2.heap.get? P = some { cls := .none, data := .fields ps } := I2.hok P _ hP
  have cd : PySem.W.CodeHd s2.heap c P := TB.code.keeps fun b u e => I2.bk b u e
  have nP : ∀ b, H2 b = none → b ≠ P := fun b e z => by
    rw [z, hP] at e
    cases e
  have cont : ∀ (code : Value) (h3 : Heap) (tk : Nat) (ps' : Array Value), Heap.ExtBut P s2.heap h3 → s2.heap.objs.size ≤ h3.objs.size → h3.get? P = some { cls := .none, data := .fields ps' } → (∃ more, ps' = ps ++ more) → TriplesOk ps'.toList →
      wpAny (model X.prog X.w) X.A (builtinsFor X.env.globals X.env.builtins) (fun bi s₄ =>
        ∀ h', h'.Ns s₄.heap.objs.size (fun y => if y = ".0" then some (Value.ref it) else none) → Heap.SameBut s₄.heap.objs.size (s₄.heap.push { cls := .type "frame", data := .dict #[] }) h' →
          Q' (.ref h'.objs.size) { s₄ with
            gens := s₄.gens.push (.fresh (.compStart (.GeneratorExp elt [⟨tg, iter, ifs, 0⟩] scope gpos) 0 (.ref it) .none (genEnv scope (cloFrom X.env.cells scope.names []) s₄.heap.objs.size code bi X.env))),
            toks := s₄.toks + 1 + 1 + 1,
            heap := h'.push { cls := .type "generator", data := .fields #[.int s₄.gens.size 0, .str "<genexpr>" (s₄.toks + 1), .str (X.env.qual ++ "<genexpr>") (s₄.toks + 1 + 1)] } }) X.xe { s2 with heap := h3, toks := tk } := by
    rintro code h3 tk ps' hx hsz hP3 ⟨more, rfl⟩ ht4
    obtain ⟨bm, ob, e1, e2, e3, e4, e5, e6, e7, e8⟩ := TB.bm
    refine wpAny_builtinsFor (m := X.mg) (by rw [I2.ok.glob]; exact (I2.mod.glob.keeps I2.bk).extBut hx TB.gP) e1 e2 (hx _ _ e4 (I2.bk _ _ e5)) e6 e7 e8 ?_
    intro h' hns hsb
    have I3 : Inv X pins σ (upd H2 P (.tbl (ps ++ more))) { s2 with heap := h3, toks := tk } := GxR.inv_tab (g' := s2.gens) (d' := s2.drawn) I2 hP (fun b o hb e => hx b o hb e) hP3 I2.bare
    have lt2 : ∀ b ∈ fp, b < s2.heap.objs.size := fun b hb => by
      obtain ⟨o, e, _⟩ := T.obj _ _ st2 b hb
      exact Heap.lt_size e
    have f3 : ∀ b ∈ fp, FpOk X pins (upd H2 P (.tbl (ps ++ more))) b ∧ b < ({ s2 with heap := h3, toks := tk } : Shared).heap.objs.size := fun b hb => by
      refine ⟨⟨?_, (f2 b hb).2⟩, Nat.lt_of_lt_of_le (lt2 b hb) hsz⟩
      rw [upd_ne (nP b (f2 b hb).1)]
      exact (f2 b hb).1
    have st3 : tn 0 h3 := T.keep _ _ _ st2 fun b hb o e => hx b o (nP b (f2 b hb).1) e
    generalize hs4 : ({ s2 with heap := h3, toks := tk } : Shared) = s4 at I3 f3 hns hsb ⊢
    have h4 : s4.heap = h3 := by rw [← hs4]
    have hsz4 : h'.objs.size = s4.heap.objs.size + 1 := by rw [hsb.1, Heap.size_push]
    have keep' : ∀ b o, s4.heap.get? b = some o → h'.get? b = some o := fun b o e => hsb.extBut b o (Nat.ne_of_lt (Heap.lt_size e)) (Heap.get?_push_of_some _ e)
    generalize hgo : ({ cls := .type "generator", data := .fields #[.int s4.gens.size 0, .str "<genexpr>" (s4.toks + 1), .str (X.env.qual ++ "<genexpr>") (s4.toks + 1 + 1)] } : Obj) = go
    have hGO : GenObj go s4.gens.size := by rw [← hgo]; exact ⟨_, _, rfl, rfl, rfl⟩
    have k5 : ∀ b o, s4.heap.get? b = some o → (h'.push go).get? b = some o := fun b o e => Heap.get?_push_of_some _ (keep' b o e)
    have pg := fun A' => hg A' s4 (upd H2 P (.tbl (ps ++ more))) s4.heap.objs.size (cloFrom X.env.cells scope.names []) code fp
    have pt := fun A' => ht A' s4 (upd H2 P (.tbl (ps ++ more))) s4.heap.objs.size (cloFrom X.env.cells scope.names []) code fp
    have pe := fun A' => he A' s4 (upd H2 P (.tbl (ps ++ more))) s4.heap.objs.size (cloFrom X.env.cells scope.names []) code fp
    generalize hce : genEnv scope (cloFrom X.env.cells scope.names []) s4.heap.objs.size code builtinsNs X.env = cenv at pg pt pe ⊢
    have hscn : cenv.scope = scope := by rw [← hce]; rfl
    generalize hA' : A.over (.compLoop (.GeneratorExp elt [⟨tg, iter, ifs, 0⟩] scope gpos) 0 (.ref it) .none cenv) [] = A'
    have hfrA : A'.frames = some (cenv :: X.stack) := by
      rw [← hA']
      show pushEnvs [cenv] A.frames = _
      rw [near.fr, I2.ok.frames]
      rfl
    have hhd : A'.handled = none := by
      rw [← hA']
      show A.handled = none
      rw [near.hd]
      exact hr.hd
    have rm : Room k A' := by
      refine ⟨hhd, ?_, ?_⟩
      · have := hr.dp
        have := near.dp
        rw [← hA']
        show A.depth + 0 + 1 + 3 * k + 5 < _
        omega
      · have := hr.un
        have := near.un
        rw [← hA']
        show A.units + 0 + 3 + 16 * k + 200 < _
        omega
    have gdA : A'.guards = X.A.guards := by
      rw [← hA']
      show pushGuards [] A.guards = _
      rw [near.gd]
      rfl
    have I5 : Inv (gblk X A' s4 (upd H2 P (.tbl (ps ++ more))) cenv fp) [(h'.objs.size, go)] (wipe σ (own.map (·.2))) (upd H2 P (.tbl (ps ++ more)))
        { s4 with gens := s4.gens.push (.fresh (.compStart (.GeneratorExp elt [⟨tg, iter, ifs, 0⟩] scope gpos) 0 (.ref it) .none cenv)), toks := s4.toks + 1 + 1 + 1, heap := h'.push go } := by
      subst hce
      refine gen_start (it := .ref it) I3 ok nocell hN f3 hhd hfrA rfl (I3.bare.push rfl) k5 (hns.push _) fun p hp => ?_
      have e : p = (h'.objs.size, go) := by simpa using hp
      subst e
      refine ⟨by show s4.heap.objs.size < h'.objs.size; omega, Heap.get?_push_size _ (by rw [← hgo]; rfl), fun v z => ?_⟩
      rw [← hgo] at z
      cases z
    refine hQ J H2 _ _ _ q ⟨⟨_, upd_same, ht4⟩, fun b hb => upd_ne hb⟩ ⟨A', s4, _, cenv, fp, h'.objs.size, s4.gens.size, go, tn, _, rfl, hGO, Array.getElem?_push_size .., rfl, I5, ?_, fun b hb => (f3 b hb).1.1, fun b hb => ?_, T.keep, fun cp σ' H' s' I' => ?_, ?_⟩
    · exact T.keep _ _ _ st3 fun b _ o e => k5 b o (by rw [h4]; exact e)
    · have := (f3 b hb).2
      rw [hsz4]
      exact Nat.lt_succ_of_lt this
    · exact I3.call' (ch := fp) I'.os I'.base I'.hok I'.bare fun b hb => ⟨(f3 b hb).1.2.2.2.1, (f3 b hb).1.2.1, (f3 b hb).1.2.2.2.2.1, (f3 b hb).1.2.2.2.2.2⟩
    · intro α AC End Yd W m n a cp s' turn w hmn hAC hac I' st'
      refine ⟨rfl, ?_⟩
      have loop := seg_gx (A := A) (pos := gpos) (iter := iter) (scope := scope) hA' hc (by rw [hscn]; exact hco) T (pg A' rm gdA) (pt A' rm gdA) (pe A' rm gdA) hAC turn m n 0 a _ s' s' cp hmn w hac (fun p hp => (I'.pin p (List.mem_append_right _ hp)).1) I' st' fun b hb => (f3 b hb).1.1
      show Seg _ A _ _ _ s' _ ((compStart (.GeneratorExp elt [⟨tg, iter, ifs, 0⟩] scope gpos) 0 (.ref it) .none cenv).onRaise (leaving cenv)) [] s'
      unfold compStart
      rw [Sem.onRaise_eq_wrap]
      show Seg _ A _ _ _ s' _ ((ask >>= _).wrap _ _ _ _) [] s'
      refine seg_bind_wrap (wpAny_askSetting ?_)
      split
      · exact seg_again rfl loop
      · first
          | exact seg_bind_wrap (wpAny_rule (seg_bind_wrap (wpAny_standAt (seg_bind_wrap (T.self _ 0 s' _ _ st' (seg_again rfl loop))))))
          | (refine seg_bind_wrap (wpAny_rule ?_); show Seg _ A _ _ _ s' _ ((standAt iter.pos >>= _).wrap _ _ _ _) [] s'; exact seg_bind_wrap (wpAny_standAt (seg_bind_wrap (T.self _ 0 s' _ _ st' (seg_again rfl loop)))))
  cases hf : codeAmong gpos ps.toList with
  | none =>
    refine wpAny_genexprCodeX hcode (cd.code hPs ht3) (cd.tab hPs) hf fun c' h' tk hx hge hlt hco' _ htab' _ => ?_
    obtain ⟨o1, vs, f1, tf, fl, tg, inF, tx, tt, op, _, _, _, _, _, _, _, _, _, htr, _⟩ := hco'
    exact cont _ h' tk _ hx (Nat.le_trans hge (Nat.le_of_lt hlt)) htab'.2 ⟨_, rfl⟩ htr
  | some cv =>
    refine wpAny_genexprCode_hit hcode (cd.code hPs ht3) hf ?_
    exact cont cv s2.heap s2.toks ps (Heap.ExtBut.refl _ _) (Nat.le_refl _) hPs ⟨#[], by simp⟩ ht3
end
/-! ### asking -/
section
variable {α : Type} {X : Cx} {A A' : Around} {s_0 : Shared} {H_0 : Hp} {cenv : Env} {fp : List Addr} {tn : Nat → Heap → Prop} {AC : α → List (Addr × Obj) → Prop} {End : α → Hp → Prop} {Yd : α → V → Hp → (α → Hp → Prop) → Prop} {ga : Addr} {gn n : Nat} {go : Obj}
theorem next_gx2 {gs : GenState} {s : Shared} {Q : Option Value → Shared → Prop} {E : Value → Shared → Prop} (hh : A.handled = none) (hroom : A.depth < recursionLimit) (hl : s.heap.NoLimit) (hG : GenObj go gn) (e : s.heap.get? ga = some go) (hgs : s.gens[gn]? = some gs)
    (hgo : gs.Goes (model X.prog X.w) A.in1 (RG (gblk X A' s_0 H_0 cenv fp) AC End) (YG (gblk X A' s_0 H_0 cenv fp) fp tn AC Yd) n (.send .none) (s.setGen gn .running))
    (item : ∀ (a : α) (x : V) (σ : L2.St) (H : Hp) (i : Nat) (cp : List (Addr × Obj)) (Nx : α → Hp → Prop) (v : Value) (s1 : Shared) (gs' : GenState), RelV x v → AC a cp → (∀ p ∈ cp, s.heap.get? p.1 = some p.2) → Inv (gblk X A' s_0 H_0 cenv fp) cp σ H s1 → tn i s1.heap → Yd a x H Nx → s1.gens[gn]? = some gs' →
      (∀ a' cp' s', Nx a' H → AC a' cp' → Inv (gblk X A' s_0 H_0 cenv fp) cp' σ H s' → tn i s'.heap → ∃ m, n = m + 1 ∧ gs'.Goes (model X.prog X.w) A.in1 (RG (gblk X A' s_0 H_0 cenv fp) AC End) (YG (gblk X A' s_0 H_0 cenv fp) fp tn AC Yd) m (.send .none) s') → Q (some v) s1)
    (done : ∀ (a : α) (σ : L2.St) (H : Hp) (cp : List (Addr × Obj)) (s1 : Shared), AC a cp → (∀ p ∈ cp, s.heap.get? p.1 = some p.2) → Inv (gblk X A' s_0 H_0 cenv fp) cp σ H s1 → End a H → Q none s1) :
    wpAny (model X.prog X.w) A (pyNext (.ref ga)) Q E s := by
  have hgl : gn < s.gens.size := (Array.getElem?_eq_some_iff.mp hgs).1
  refine GenW.wpAny_gsz (n := gn + 1) hgl (next_genG (Er := fun _ _ => False) hh hl hroom (hG.isGen e) hgs hgo (fun v s₁ gs' hbare hv => ?_) (fun s₁ hp h' hk => ?_) fun e s₁ he => he.elim)
  · intro hsz
    obtain ⟨a, x, σ, H, i, cp, Nx, r, hac, tie, I, st, nf, hy, kap⟩ := hv
    have hsz1 : gn < s₁.gens.size := by
      have q : (s₁.setGen gn gs').gens.size = s₁.gens.size := GenW.setGen_size _ _ _
      have hsz' : gn + 1 ≤ (s₁.setGen gn gs').gens.size := hsz
      omega
    refine item a x σ H i cp Nx v (s₁.setGen gn gs') gs' r hac tie (inv_moved I rfl (allBare_setGen I.bare hbare) fun _ _ q => q) st hy (setGen_at hsz1) fun a' cp' s' nx hac' I' st' => ?_
    have z := kap a' cp' s' nx hac' I' st'
    cases n with
    | zero => exact z.elim
    | succ m => exact ⟨m, rfl, z⟩
  · intro _
    obtain ⟨a, σ, H, cp, hac, tie, I, q⟩ := hp
    exact done a σ H cp _ hac tie (inv_moved I rfl (allBare_setGen I.bare rfl) hk) q
theorem next_gx {gs : GenState} {s : Shared} {Q : Option Value → Shared → Prop} {E : Value → Shared → Prop} (hh : A.handled = none) (hroom : A.depth < recursionLimit) (hl : s.heap.NoLimit) (hG : GenObj go gn) (e : s.heap.get? ga = some go) (hgs : s.gens[gn]? = some gs)
    (hgo : gs.Goes (model X.prog X.w) A.in1 (RG (gblk X A' s_0 H_0 cenv fp) AC End) (YG (gblk X A' s_0 H_0 cenv fp) fp tn AC Yd) n (.send .none) (s.setGen gn .running))
    (item : ∀ (a : α) (x : V) (σ : L2.St) (H : Hp) (i : Nat) (cp : List (Addr × Obj)) (Nx : α → Hp → Prop) (v : Value) (s1 : Shared) (gs' : GenState), RelV x v → AC a cp → Inv (gblk X A' s_0 H_0 cenv fp) cp σ H s1 → tn i s1.heap → Yd a x H Nx → s1.gens[gn]? = some gs' →
      (∀ a' cp' s', Nx a' H → AC a' cp' → Inv (gblk X A' s_0 H_0 cenv fp) cp' σ H s' → tn i s'.heap → ∃ m, n = m + 1 ∧ gs'.Goes (model X.prog X.w) A.in1 (RG (gblk X A' s_0 H_0 cenv fp) AC End) (YG (gblk X A' s_0 H_0 cenv fp) fp tn AC Yd) m (.send .none) s') → Q (some v) s1)
    (done : ∀ (a : α) (σ : L2.St) (H : Hp) (cp : List (Addr × Obj)) (s1 : Shared), AC a cp → Inv (gblk X A' s_0 H_0 cenv fp) cp σ H s1 → End a H → Q none s1) :
    wpAny (model X.prog X.w) A (pyNext (.ref ga)) Q E s :=
  next_gx2 hh hroom hl hG e hgs hgo (fun a x σ H i cp Nx v s1 gs' r hac _ I st hy at_ kap => item a x σ H i cp Nx v s1 gs' r hac I st hy at_ kap) fun a σ H cp s1 hac _ I q => done a σ H cp s1 hac I q
/-- all(..) asks on -/
theorem all_gx {R : Result → Shared → Prop} {Stop : Hp → Prop} {End : Unit → Hp → Prop} (hh : A.handled = none) (hroom : A.depth < recursionLimit) (hG : GenObj go gn)
    (yes : ∀ (σ : L2.St) (H : Hp) (cp : List (Addr × Obj)) (s1 : Shared), Inv (gblk X A' s_0 H_0 cenv fp) cp σ H s1 → End () H → R (.ok (.ret (.bool true))) s1)
    (no : ∀ (σ : L2.St) (H : Hp) (cp : List (Addr × Obj)) (s1 : Shared), Inv (gblk X A' s_0 H_0 cenv fp) cp σ H s1 → Stop H → R (.ok (.ret (.bool false))) s1) :
    ∀ (n : Nat) (s : Shared), s.heap.NoLimit → s.heap.get? ga = some go → (∃ gs, s.gens[gn]? = some gs ∧ gs.Goes (model X.prog X.w) A.in1.in1 (RG (gblk X A' s_0 H_0 cenv fp) (fun _ cp => cp = [(ga, go)]) End)
      (YG (gblk X A' s_0 H_0 cenv fp) fp tn (fun _ cp => cp = [(ga, go)]) (fun _ y H Nx => ∃ b : Bool, y = .bl b ∧ if b = true then Nx () H else Stop H)) n (.send .none) (s.setGen gn .running)) →
      codeAny (model X.prog X.w) A (.builtin "all.loop" ⟨[.ref ga], []⟩) R s := by
  intro n
  induction n with
  | zero =>
    rintro s hl e ⟨gs, hgs, hgo⟩
    refine codeAny_builtin F.entry_all_loop ?_
    rw [Around.under_plainId F.plain_all_loop _]
    show wpAny _ A.in1 (pyNext (.ref ga) >>= _) _ _ s
    refine wpAny_bind (next_gx (A := A.in1) hh hroom hl hG e hgs hgo (fun a x σ H i cp Nx v s1 gs' r hac I st hy at_ kap => ?_) fun a σ H cp s1 hac I q => ?_)
    · obtain ⟨b, rfl, hb⟩ := hy
      cases (show v = Value.bool b from r)
      refine wpAny_bind (wpAny_holding (wpAny_truthy_bool ?_))
      refine wpAny_bind (wpAny_letGo ?_)
      cases b with
      | true =>
        obtain ⟨m, hm, _⟩ := kap () cp s1 hb hac I st
        cases hm
      | false =>
        simp only [Bool.false_eq_true, if_false] at hb ⊢
        exact wpAny_bind (wpAny_rule (wpAny_pure (no σ H cp s1 I hb)))
    · exact wpAny_bind (wpAny_rule (wpAny_pure (yes σ H cp s1 I q)))
  | succ n ih =>
    rintro s hl e ⟨gs, hgs, hgo⟩
    refine codeAny_builtin F.entry_all_loop ?_
    rw [Around.under_plainId F.plain_all_loop _]
    show wpAny _ A.in1 (pyNext (.ref ga) >>= _) _ _ s
    refine wpAny_bind (next_gx (A := A.in1) hh hroom hl hG e hgs hgo (fun a x σ H i cp Nx v s1 gs' r hac I st hy at_ kap => ?_) fun a σ H cp s1 hac I q => ?_)
    · obtain ⟨b, rfl, hb⟩ := hy
      cases (show v = Value.bool b from r)
      refine wpAny_bind (wpAny_holding (wpAny_truthy_bool ?_))
      refine wpAny_bind (wpAny_letGo ?_)
      cases b with
      | true =>
        simp only [if_true] at hb ⊢
        subst hac
        refine wpAny_pure ⟨plainId_quiet F.plain_all_loop _, ih s1 I.nolimit (I.pin (ga, go) (List.mem_append_right _ List.mem_cons_self)).1 ⟨gs', at_, ?_⟩⟩
        obtain ⟨m, hm, z⟩ := kap () [(ga, go)] (s1.setGen gn .running) hb rfl (inv_moved I rfl (allBare_setGen I.bare rfl) fun _ _ q => q) st
        cases hm
        exact z
      | false =>
        simp only [Bool.false_eq_true, if_false] at hb ⊢
        exact wpAny_bind (wpAny_rule (wpAny_pure (no σ H cp s1 I hb)))
    · exact wpAny_bind (wpAny_rule (wpAny_pure (yes σ H cp s1 I q)))
end
section
variable {X : Cx}
/-- all(elt for tg in iter ..) -/
def tAllX (P : Addr) (wi : TI) (g : TG) (tt : TT) (te : TE) (vs : List Nat) : TE := fun σ H Q => wi σ H fun J H1 => GxR.TabG H1 P ∧ ∀ H2, GxR.Tabbed P H1 H2 → ∃ W : Nat → Nat → Unit → Hp → Prop, (∃ m, W 0 m () H2) ∧
  tGx J g tt te (wipe σ vs) vs (fun _ H => Q (.bl true) H) (fun _ y H Nx => ∃ b : Bool, y = .bl b ∧ if b = true then Nx () H else Q (.bl false) H) W
theorem pe_allX {c P : Addr} {elt tg iter : Expr} {ifs : List Expr} {p pos gpos : Pos} {scope : Scope} {own : List (Str × Nat)} {wi : TI} {g : TG} {tt : TT} {te : TE} {k : Nat}
    (hr : Room (k + 1) X.A) (hc : X.calm = true) (hN : X.N.Nodup) (hgl : Gl X "all") (hm : X.mg "all" = none) (hb : bootBuiltins "all" = some (.builtin "all")) (TB : GxR.TabB X.base X.mg c P) (hcode : X.env.code = .ref c)
    (hco : scope.isCoroutine = false) (hdot : scope.names.lookup (".0" : Str) = some NameKind.local) (nocell : ∀ y ∈ scope.names, y.2 ≠ .cell) (ok : BlkOk X.N X.env.scope scope own) (hi : PI X tg iter wi)
    (hg : ∀ (A' : Around) (s : Shared) (H : Hp) (C : Addr) (cl : List (Str × Addr)) (code : Value) (fp : List Addr), Room k A' → A'.guards = X.A.guards → PG (gblk X A' s H (genEnv scope cl C code builtinsNs X.env) fp) tg g)
    (ht : ∀ (A' : Around) (s : Shared) (H : Hp) (C : Addr) (cl : List (Str × Addr)) (code : Value) (fp : List Addr), Room k A' → A'.guards = X.A.guards → PTs (gblk X A' s H (genEnv scope cl C code builtinsNs X.env) fp) ifs tt)
    (he : ∀ (A' : Around) (s : Shared) (H : Hp) (C : Addr) (cl : List (Str × Addr)) (code : Value) (fp : List Addr), Room k A' → A'.guards = X.A.guards → PE (gblk X A' s H (genEnv scope cl C code builtinsNs X.env) fp) elt te)
    (hs : ∀ v, genFold iter X.env v = pure v)
    (hst : starEach [.GeneratorExp elt [⟨tg, iter, ifs, 0⟩] scope gpos] X.env = (false, eval (.GeneratorExp elt [⟨tg, iter, ifs, 0⟩] scope gpos) X.env) :: starEach [] X.env := by rfl) :
    PE X (.Call (.Name "all" p) [.GeneratorExp elt [⟨tg, iter, ifs, 0⟩] scope gpos] [] pos) (tAllX P wi g tt te (own.map (·.2))) := by
  refine ⟨fun pins s σ H Q I h => ?_⟩
  refine wpAny_Call_Name_kw (ld_blt I hgl hm hb ?_)
  refine PyProof.Rows.callWith_builtin1 ?_ hst (by rfl)
  rw [hst]
  show wpAny _ _ (spliced ((false, eval (.GeneratorExp elt [⟨tg, iter, ifs, 0⟩] scope gpos) X.env) :: backTo pos (starEach [] X.env))) _ _ s
  refine Calls.spliced_cons (gx_make (A := X.A.in1.in1) hr ⟨rfl, rfl, rfl, rfl, (by show X.A.units + 1 + 1 ≤ _; omega)⟩ hc hN TB hcode hco hdot nocell ok hi hg ht he hs I h fun J H1 H2 u s5 hR hT hG => ?_)
  obtain ⟨A', s_0, H_0, cenv, fp, ga, gn, go, tn, gs, rfl, hGO, hgs, hbare, I5, st5, nf, hlt, keep, back, goes⟩ := hG
  obtain ⟨W, ⟨m, w0⟩, turn⟩ := hR H2 hT
  refine Calls.spliced_nil ?_
  have pin5 := (I5.pin (ga, go) (List.mem_append_right _ List.mem_cons_self)).1
  refine call_function_tree F.kind_all F.plain_all F.entry_all (F.args_all1 _) ?_
  unfold Builtin.«all»
  refine wpAny_bind (m := oneArg "all" _) (wpAny_pure ?_)
  refine wpAny_bind (wpAny_pyIter_gen (hGO.isGen pin5) ?_)
  refine wpAny_pure ⟨plainId_quiet F.plain_all_loop _, all_gx (A' := A') (s_0 := s_0) (H_0 := H_0) (cenv := cenv) (fp := fp) (tn := tn) (go := go) (gn := gn) (Stop := fun H => Q (.bl false) H) (End := fun _ H => Q (.bl true) H) hr.hd hr.depth hGO
    (fun σ' H' cp s1 I1 q => ⟨.bl true, H', back _ _ _ _ I1, rfl, q⟩) (fun σ' H' cp s1 I1 q => ⟨.bl false, H', back _ _ _ _ I1, rfl, q⟩) (m + 1) s5 I5.nolimit pin5 ⟨gs, hgs, ?_⟩⟩
  refine goes Unit _ _ _ W m (m + 1) () [(ga, go)] _ turn w0 (Nat.lt_succ_self _) (fun a cp hac p hp b hb z => ?_) rfl (inv_moved I5 rfl (allBare_setGen I5.bare rfl) fun _ _ q => q) st5
  subst hac
  have e : p = (ga, go) := by simpa using hp
  subst e
  exact absurd (hlt b hb) (by rw [← z]; exact Nat.lt_irrefl _)
end
/-! ### tuple(..) -/
section
variable {X : Cx} {A A' : Around} {s_0 : Shared} {H_0 : Hp} {cenv : Env} {fp : List Addr} {tn : Nat → Heap → Prop} {ga S : Addr} {gn n : Nat} {go : Obj}
/-- the asker's list S holds what is out -/
def ACl (ga : Addr) (go : Obj) (S : Addr) (ys : List V) (cp : List (Addr × Obj)) : Prop := ∃ (acc : Array Value) (c : Nat), cp = [(ga, go), (S, lstObj acc c)] ∧ Vals ys acc.toList
def YdL (ys : List V) (y : V) (H : Hp) (Nx : List V → Hp → Prop) : Prop := ys.length < sizeLine ∧ Nx (ys ++ [y]) H
theorem ext_gx {R : Result → Shared → Prop} {End : List V → Hp → Prop} {res : Value} (hh : A.handled = none) (hroom : A.depth < recursionLimit) (hG : GenObj go gn) (hSa : S ≠ ga) (far : (gblk X A' s_0 H_0 cenv fp).s_0.heap.objs.size ≤ S) (hSc : ∀ x c, cenv.cells.lookup x = some c → c ≠ S)
    (keep : ∀ i h h', tn i h → (∀ b ∈ fp, ∀ o, h.get? b = some o → h'.get? b = some o) → tn i h') (hSf : ∀ b ∈ fp, b ≠ S)
    (yes : ∀ (σ : L2.St) (H : Hp) (ys : List V) (acc : Array Value) (c : Nat) (s1 : Shared), Inv (gblk X A' s_0 H_0 cenv fp) [(ga, go), (S, lstObj acc c)] σ H s1 → Vals ys acc.toList → End ys H → R (.ok (.ret res)) s1) :
    ∀ (n : Nat) (s : Shared), s.heap.NoLimit → s.heap.get? ga = some go → (∃ gs, s.gens[gn]? = some gs ∧ gs.Goes (model X.prog X.w) A.in1.in1 (RG (gblk X A' s_0 H_0 cenv fp) (ACl ga go S) End)
      (YG (gblk X A' s_0 H_0 cenv fp) fp tn (ACl ga go S) YdL) n (.send .none) (s.setGen gn .running)) →
      codeAny (model X.prog X.w) A (.builtin "list.extend.loop" ⟨[.ref S, .ref ga, res], []⟩) R s := by
  intro n
  induction n with
  | zero =>
    rintro s hl e ⟨gs, hgs, hgo⟩
    refine codeAny_builtin F.entry_extend_loop ?_
    rw [Around.under_plainId F.plain_extend_loop _]
    show wpAny _ A.in1 (pyNext (.ref ga) >>= _) _ _ s
    refine wpAny_bind (next_gx (A := A.in1) hh hroom hl hG e hgs hgo (fun ys x σ H i cp Nx v s1 gs' r hac I st hy at_ kap => ?_) fun ys σ H cp s1 hac I q => ?_)
    · obtain ⟨acc, c, rfl, rv⟩ := hac
      have pS := I.pin (S, lstObj acc c) (List.mem_append_right _ (List.mem_cons_of_mem _ List.mem_cons_self))
      have I0 : Inv (gblk X A' s_0 H_0 cenv fp) [(ga, go)] σ H s1 := I.pins_of fun p hp => I.pin p (List.mem_append_right _ (by rw [List.mem_singleton.mp hp]; exact List.mem_cons_self))
      have I1 := I0.turned (t' := s1.toks) (h' := s1.heap.update S (Obj.mapSeq (·.push v))) (it := S) (fun b o hb q => (Heap.get?_update_other _ _ (Ne.symm hb)).trans q) pS.2.1 pS.2.2.1 (.inr far) hSc (fun p hp => by rw [List.mem_singleton.mp (show p ∈ [(ga, go)] by simpa using hp)]; exact Ne.symm hSa)
      have e2 := Heap.get?_update_self (Obj.mapSeq (·.push v)) pS.1 rfl
      obtain ⟨m, hm, _⟩ := kap (ys ++ [x]) [(ga, go), (S, _)] _ hy.2 ⟨acc.push v, _, rfl, by rw [Array.toList_push]; exact rv.append (.cons r .nil)⟩ (I1.pins_of fun p hp => by
        rcases List.mem_cons.mp hp with z | z
        · rw [z]; exact I1.pin (ga, go) (List.mem_append_right _ List.mem_cons_self)
        · rw [List.mem_singleton.mp z]; exact ⟨e2, pS.2.1, pS.2.2.1, pS.2.2.2.1, fun v q => by cases q⟩) (keep _ _ _ st fun b hb o q => (Heap.get?_update_other _ _ (Ne.symm (hSf b hb))).trans q)
      cases hm
    · obtain ⟨acc, c, rfl, rv⟩ := hac
      exact wpAny_pure (yes σ H ys acc c s1 I rv q)
  | succ n ih =>
    rintro s hl e ⟨gs, hgs, hgo⟩
    refine codeAny_builtin F.entry_extend_loop ?_
    rw [Around.under_plainId F.plain_extend_loop _]
    show wpAny _ A.in1 (pyNext (.ref ga) >>= _) _ _ s
    refine wpAny_bind (next_gx (A := A.in1) hh hroom hl hG e hgs hgo (fun ys x σ H i cp Nx v s1 gs' r hac I st hy at_ kap => ?_) fun ys σ H cp s1 hac I q => ?_)
    · obtain ⟨acc, c, rfl, rv⟩ := hac
      have pS := I.pin (S, lstObj acc c) (List.mem_append_right _ (List.mem_cons_of_mem _ List.mem_cons_self))
      have I0 : Inv (gblk X A' s_0 H_0 cenv fp) [(ga, go)] σ H s1 := I.pins_of fun p hp => I.pin p (List.mem_append_right _ (by rw [List.mem_singleton.mp hp]; exact List.mem_cons_self))
      have I1 := I0.turned (t' := s1.toks) (h' := s1.heap.update S (Obj.mapSeq (·.push v))) (it := S) (fun b o hb q => (Heap.get?_update_other _ _ (Ne.symm hb)).trans q) pS.2.1 pS.2.2.1 (.inr far) hSc (fun p hp => by rw [List.mem_singleton.mp (show p ∈ [(ga, go)] by simpa using hp)]; exact Ne.symm hSa)
      have e2 := Heap.get?_update_self (Obj.mapSeq (·.push v)) pS.1 rfl
      have hln := rv.length
      have hlt : acc.size < sizeLine := by
        have := hy.1
        rw [hln] at this
        simpa using this
      have pG := I1.pin (ga, go) (List.mem_append_right _ List.mem_cons_self)
      show wpAny _ A.in1 (updateSeq S (·.push v) >>= _) _ _ _
      refine wpAny_bind ?_
      refine wpAny_updateSeq pS.1 rfl (wpAny_pure ⟨plainId_quiet F.plain_extend_loop _, ih _ I1.nolimit pG.1 ⟨gs', at_, ?_⟩⟩) (Nat.le_of_lt hlt) (by show (acc.push v).size ≤ sizeLine + 1; rw [Array.size_push]; omega)
      obtain ⟨m, hm, z⟩ := kap (ys ++ [x]) [(ga, go), (S, _)] (({ s1 with heap := s1.heap.update S (Obj.mapSeq (·.push v)) } : Shared).setGen gn .running) hy.2 ⟨acc.push v, _, rfl, by rw [Array.toList_push]; exact rv.append (.cons r .nil)⟩ (inv_moved (I1.pins_of fun p hp => by
        rcases List.mem_cons.mp hp with z | z
        · rw [z]; exact pG
        · rw [List.mem_singleton.mp z]; exact ⟨e2, pS.2.1, pS.2.2.1, pS.2.2.2.1, fun v q => by cases q⟩) rfl (allBare_setGen (s := { s1 with heap := s1.heap.update S (Obj.mapSeq (·.push v)) }) I1.bare rfl) fun _ _ q => q) (keep _ _ _ st fun b hb o q => (Heap.get?_update_other _ _ (Ne.symm (hSf b hb))).trans q)
      cases hm
      exact z
    · obtain ⟨acc, c, rfl, rv⟩ := hac
      exact wpAny_pure (yes σ H ys acc c s1 I rv q)
end
section
variable {X : Cx} {pins : List (Addr × Obj)} {σ : L2.St} {s5 : Shared} {J : It} {g : TG} {tt : TT} {te : TE} {vs : List Nat} {H4 : Hp} {u : Value}
/-- all that a generator hands out, in a list of the asker's own -/
theorem collect_gx {A : Around} {E : Value → Shared → Prop} {Q : List Value → Shared → Prop} {End : List V → Hp → Prop} {W : Nat → Nat → List V → Hp → Prop} {m : Nat} (hh : A.handled = none) (hroom : A.depth < recursionLimit) (G : Gx X pins σ A.in1.in1 J g tt te vs H4 u s5)
    (w0 : W 0 m [] H4) (turn : tGx J g tt te (wipe σ vs) vs End YdL W)
    (hQ : ∀ (s' : Shared) (acc : Array Value) (ys : List V) (H' : Hp), Inv X pins σ H' s' → Vals ys acc.toList → End ys H' → Q acc.toList s') : wpAny (model X.prog X.w) A (collect u) Q E s5 := by
  obtain ⟨A', s_0, H_0, cenv, fp, ga, gn, go, tn, gs, rfl, hGO, hgs, hbare, I5, st5, nf, hlt, keep, back, goes⟩ := G
  have pin5 := I5.pin (ga, go) (List.mem_append_right _ List.mem_cons_self)
  have glt : ga < s5.heap.objs.size := Heap.lt_size pin5.1
  have hSI : s5.heap.objs.size ≠ ga := Nat.ne_of_gt glt
  unfold collect
  refine wpAny_bind (wpAny_runValue (codeAny_builtin F.entry_proto_collect ?_))
  rw [Around.under_plainId F.plain_proto_collect _]
  show wpAny _ A.in1 (newList [] >>= fun l => again (.builtin "list.__iadd__" ⟨[l, .ref ga], []⟩)) _ _ s5
  refine wpAny_bind (wpAny_newObj_type ?_)
  refine wpAny_pure ⟨plainId_quiet F.plain_list_iadd _, codeAny_builtin F.entry_list_iadd ?_⟩
  rw [Around.under_plainId F.plain_list_iadd _]
  show wpAny _ A.in1 (Builtin.List.listExtendWith (.ref s5.heap.objs.size) (.ref ga) (.ref s5.heap.objs.size)) _ _ _
  unfold Builtin.List.listExtendWith
  have k1 : ∀ b o, s5.heap.get? b = some o → (s5.heap.push { cls := .type "list", data := .seq ([] : List Value).toArray }).get? b = some o := fun b o e => Heap.get?_push_of_some _ e
  have hT : Shared.TypeIs { s5 with heap := s5.heap.push { cls := .type "list", data := .seq ([] : List Value).toArray } } (.ref ga) "generator" := Heap.IsGen.typeIs (s := { s5 with heap := _ }) (hGO.isGen (k1 _ _ pin5.1))
  refine wpAny_bind (wpAny_typeOf hT ?_)
  have h1 : Builtin.List.listSameRef (.ref s5.heap.objs.size) (.ref ga) = false := by simp [Builtin.List.listSameRef, hSI]
  have h2 : (Value.type "generator" == Value.type "list") = false := by decide
  have h3 : (Value.type "generator" == Value.type "tuple") = false := by decide
  simp only [h1, h2, h3, Bool.or_false, Bool.false_eq_true, if_false]
  refine wpAny_bind (wpAny_pyIter_gen (s := { s5 with heap := _ }) (hGO.isGen (k1 _ _ pin5.1)) ?_)
  refine wpAny_bind (wpAny_holding ?_)
  unfold Builtin.List.listLengthHint
  refine wpAny_bind (wpAny_specialOf hT F.gen_no_len ?_)
  show wpAny _ A.in1 (specialOf (Value.ref ga) (Str.ofString "__length_hint__") >>= _) _ _ _
  refine wpAny_bind (wpAny_specialOf hT F.gen_no_hint ?_)
  refine wpAny_pure ?_
  show wpAny _ A.in1 (rule "list.extend.makes-room" >>= fun _ => Builtin.List.listTouch (.ref s5.heap.objs.size) >>= fun _ =>
    again (.builtin "list.extend.loop" ⟨[.ref s5.heap.objs.size, .ref ga, .ref s5.heap.objs.size], []⟩)) _ _ _
  refine wpAny_bind (wpAny_rule ?_)
  have hS₁ : (s5.heap.push { cls := .type "list", data := .seq ([] : List Value).toArray }).get? s5.heap.objs.size = some { cls := .type "list", data := .seq ([] : List Value).toArray } := Heap.get?_push_size _ rfl
  refine wpAny_bind ?_
  show wpAny _ A.in1 (updateSeq s5.heap.objs.size (·.push .none) >>= fun _ => updateSeq s5.heap.objs.size (·.pop)) _ _ _
  refine wpAny_bind (wpAny_updateSeq hS₁ rfl ?_)
  have hS₂ := Heap.get?_update_self (Obj.mapSeq (·.push Value.none)) hS₁ rfl
  refine wpAny_updateSeq hS₂ rfl ?_
  have hS₃ := Heap.get?_update_self (Obj.mapSeq (·.pop)) hS₂ rfl
  obtain ⟨c3, hS₄⟩ : ∃ c, (((s5.heap.push { cls := .type "list", data := .seq ([] : List Value).toArray }).update s5.heap.objs.size (Obj.mapSeq (·.push Value.none))).update s5.heap.objs.size (Obj.mapSeq (·.pop))).get? s5.heap.objs.size = some (lstObj #[] c) := ⟨_, hS₃⟩
  have k3 : ∀ b o, s5.heap.get? b = some o → (((s5.heap.push { cls := .type "list", data := .seq ([] : List Value).toArray }).update s5.heap.objs.size (Obj.mapSeq (·.push Value.none))).update s5.heap.objs.size (Obj.mapSeq (·.pop))).get? b = some o :=
    fun b o e => (Heap.get?_update_other _ _ (Ne.symm (Nat.ne_of_lt (Heap.lt_size e)))).trans ((Heap.get?_update_other _ _ (Ne.symm (Nat.ne_of_lt (Heap.lt_size e)))).trans (k1 b o e))
  have fS : FpOk (gblk X A' s_0 H_0 cenv fp) [(ga, go)] H4 s5.heap.objs.size := I5.fpOk (Nat.le_refl _) (I5.hok.fresh (Nat.le_refl _))
  have hfS : ∀ b ∈ fp, b ≠ s5.heap.objs.size := fun b hb => Nat.ne_of_lt (Nat.lt_trans (hlt b hb) glt)
  have I6 := inv_moved (s' := { s5 with heap := ((s5.heap.push { cls := .type "list", data := .seq ([] : List Value).toArray }).update s5.heap.objs.size (Obj.mapSeq (·.push Value.none))).update s5.heap.objs.size (Obj.mapSeq (·.pop)) }) I5 rfl I5.bare k3
  refine wpAny_pure ⟨plainId_quiet F.plain_extend_loop _, ext_gx (A := A) (A' := A') (s_0 := s_0) (H_0 := H_0) (cenv := cenv) (fp := fp) (tn := tn) (go := go) (gn := gn) (End := End) hh hroom hGO hSI ?_ fS.2.2.2.2.1 keep hfS
    (fun σ' H' ys acc c s1 I1 rv q => ?_) (m + 1) _ I6.nolimit (k3 _ _ pin5.1) ⟨gs, hgs, ?_⟩⟩
  · exact Nat.le_trans I5.sz (Nat.le_refl _)
  · show wpAny _ A (load s5.heap.objs.size >>= _) _ _ s1
    have pS := (I1.pin (s5.heap.objs.size, lstObj acc c) (List.mem_append_right _ (List.mem_cons_of_mem _ List.mem_cons_self))).1
    refine wpAny_bind (wpAny_load pS ?_)
    exact wpAny_pure (hQ s1 acc ys H' (back _ _ _ _ I1) rv q)
  · refine goes (List V) (ACl ga go s5.heap.objs.size) End YdL W m (m + 1) [] [(ga, go), (s5.heap.objs.size, lstObj #[] c3)] _ turn w0 (Nat.lt_succ_self _) (fun ys cp hac p hp b hb z => ?_) ⟨#[], c3, rfl, .nil⟩
      (inv_moved (I6.pins_of fun p hp => ?_) rfl (allBare_setGen (s := { s5 with heap := _ }) I5.bare rfl) fun _ _ q => q) (keep _ _ _ st5 fun b hb o q => k3 b o q)
    · obtain ⟨acc, c, rfl, _⟩ := hac
      rcases List.mem_cons.mp hp with e | e
      · rw [e] at z
        exact absurd (hlt b hb) (by rw [← z]; exact Nat.lt_irrefl _)
      · rw [List.mem_singleton.mp e] at z
        exact hfS b hb z.symm
    · rcases List.mem_cons.mp hp with e | e
      · rw [e]
        exact I6.pin (ga, go) (List.mem_append_right _ List.mem_cons_self)
      · rw [List.mem_singleton.mp e]
        exact ⟨hS₄, fS.1, fS.2.1, fS.2.2.1, fun v q => by cases q⟩
end
section
variable {X : Cx}
/-- tuple(elt for tg in iter ..) -/
def tTupX (P : Addr) (wi : TI) (g : TG) (tt : TT) (te : TE) (vs : List Nat) : TE := fun σ H Q => wi σ H fun J H1 => GxR.TabG H1 P ∧ ∀ H2, GxR.Tabbed P H1 H2 → ∃ W : Nat → Nat → List V → Hp → Prop, (∃ m, W 0 m [] H2) ∧
  tGx J g tt te (wipe σ vs) vs (fun ys H => ys.length ≤ sizeLine ∧ ∀ p, H p = none → Q (.ref p) (upd H p (.tup ys))) YdL W
theorem pe_tupX {c P : Addr} {elt tg iter : Expr} {ifs : List Expr} {p pos gpos : Pos} {scope : Scope} {own : List (Str × Nat)} {wi : TI} {g : TG} {tt : TT} {te : TE} {k : Nat}
    (hr : Room (k + 1) X.A) (hc : X.calm = true) (hN : X.N.Nodup) (hgl : Gl X "tuple") (hm : X.mg "tuple" = none) (hb : bootBuiltins "tuple" = some (.type "tuple")) (TB : GxR.TabB X.base X.mg c P) (hcode : X.env.code = .ref c)
    (hco : scope.isCoroutine = false) (hdot : scope.names.lookup (".0" : Str) = some NameKind.local) (nocell : ∀ y ∈ scope.names, y.2 ≠ .cell) (ok : BlkOk X.N X.env.scope scope own) (hi : PI X tg iter wi)
    (hg : ∀ (A' : Around) (s : Shared) (H : Hp) (C : Addr) (cl : List (Str × Addr)) (code : Value) (fp : List Addr), Room k A' → A'.guards = X.A.guards → PG (gblk X A' s H (genEnv scope cl C code builtinsNs X.env) fp) tg g)
    (ht : ∀ (A' : Around) (s : Shared) (H : Hp) (C : Addr) (cl : List (Str × Addr)) (code : Value) (fp : List Addr), Room k A' → A'.guards = X.A.guards → PTs (gblk X A' s H (genEnv scope cl C code builtinsNs X.env) fp) ifs tt)
    (he : ∀ (A' : Around) (s : Shared) (H : Hp) (C : Addr) (cl : List (Str × Addr)) (code : Value) (fp : List Addr), Room k A' → A'.guards = X.A.guards → PE (gblk X A' s H (genEnv scope cl C code builtinsNs X.env) fp) elt te)
    (hs : ∀ v, genFold iter X.env v = pure v)
    (hst : starEach [.GeneratorExp elt [⟨tg, iter, ifs, 0⟩] scope gpos] X.env = (false, eval (.GeneratorExp elt [⟨tg, iter, ifs, 0⟩] scope gpos) X.env) :: starEach [] X.env := by rfl) :
    PE X (.Call (.Name "tuple" p) [.GeneratorExp elt [⟨tg, iter, ifs, 0⟩] scope gpos] [] pos) (tTupX P wi g tt te (own.map (·.2))) := by
  refine ⟨fun pins s σ H Q I h => ?_⟩
  refine wpAny_Call_Name_kw (ld_blt I hgl hm hb ?_)
  refine PyProof.Rows.callWith_type1 ?_ hst (by rfl)
  rw [hst]
  show wpAny _ _ (spliced ((false, eval (.GeneratorExp elt [⟨tg, iter, ifs, 0⟩] scope gpos) X.env) :: backTo pos (starEach [] X.env))) _ _ s
  refine Calls.spliced_cons (gx_make (A := X.A.in1.in1.in1.in1) hr ⟨rfl, rfl, rfl, rfl, (by show X.A.units + 1 + 1 + 1 + 1 ≤ _; omega)⟩ hc hN TB hcode hco hdot nocell ok hi hg ht he hs I h fun J H1 H2 u s5 hR hT hG => ?_)
  obtain ⟨W, ⟨m, w0⟩, turn⟩ := hR H2 hT
  refine Calls.spliced_nil ?_
  have ⟨A', s_0, H_0, cenv, fp, ga, gn, go, tn, gs, eu, hGO, hgs, hbare, I5, st5, nf, hlt, keep, back, goes⟩ := hG
  have pin5 := (I5.pin (ga, go) (List.mem_append_right _ List.mem_cons_self)).1
  rw [eu] at hG ⊢
  refine callType_codes (Q₁ := fun obj s₁ => s₁.TypeIs obj "tuple" ∧ EP X pins σ Q obj s₁) F.called_tuple (F.typeCall_tuple_1 _) F.entry_object_init ?_ fun obj s₁ h₁ =>
    ⟨h₁.1, F.args_object_init_2 obj _, object_init_meets F.called_tuple.init.lookup F.called_tuple.made (by decide) X.prog X.w X.A.in1 _ s₁ ⟨h₁.1, rfl, h₁.2⟩⟩
  refine codeAny_of_tree ?_
  show wpAny _ X.A.in1.in1 (do checkBuiltinCall "tuple.__new__" ⟨[.type "tuple", .ref ga], []⟩; again (.builtin "tuple.__new__" ⟨[.type "tuple", .ref ga], []⟩)) _ _ s5
  refine wpAny_bind (wpAny_of_eq (F.newCall_tuple_1 _) (wpAny_pure ⟨plainId_quiet F.plain_tuple_new _, codeAny_builtin F.entry_tuple_new ?_⟩))
  rw [Around.under_plainId F.plain_tuple_new _]
  have hsub := sub_tuple_self
  have hinit := init_tuple_lookup
  have hmh := madeHere_tuple
  have hTI : s5.TypeIs (.ref ga) "generator" := (hGO.isGen pin5).typeIs
  have col : ∀ {Q0 : List Value → Shared → Prop} {E0 : Value → Shared → Prop}, (∀ (s' : Shared) (acc : Array Value), (∃ (ys : List V) (H' : Hp), Inv X pins σ H' s' ∧ Vals ys acc.toList ∧ ys.length ≤ sizeLine ∧ ∀ p, H' p = none → Q (.ref p) (upd H' p (.tup ys))) → Q0 acc.toList s') →
      wpAny (model X.prog X.w) X.A.in1.in1 (collect (.ref ga)) Q0 E0 s5 := fun hq => collect_gx hr.hd hr.depth hG w0 turn (fun s' acc ys H' I' rv q => hq s' acc ⟨ys, H', I', rv, q.1, q.2⟩)
  wp_walk using wpAny_typeOf hTI, col
  rintro s' acc ⟨ys, H', I', rv, small, q⟩
  show wpAny _ _ (Builtin.Tuple.tupleExact acc.toList.toArray >>= fun v => ret v) _ _ _
  unfold Builtin.Tuple.tupleExact
  refine wpAny_bind (wpAny_newObj_type ?_ (by show acc.toList.toArray.size ≤ sizeLine; rw [List.size_toArray, ← rv.length]; exact small))
  refine wpAny_pure ?_
  have free : H' s'.heap.objs.size = none := I'.hok.fresh (Nat.le_refl _)
  refine ⟨⟨_, Heap.get?_push_size _ rfl, rfl⟩, .ref s'.heap.objs.size, upd H' s'.heap.objs.size (.tup ys), I'.laid (t' := s'.toks) (fun b u z => Heap.get?_push_of_some _ z) (Nat.le_refl _) ⟨small, acc.toList, rv, ?_⟩, rfl, q _ free⟩
  exact ⟨_, Heap.get?_push_size _ rfl, rfl, 0, rfl⟩
end
/-! ### a def by its body, its code object known -/
theorem okC {P : Program} {w : World} {K : PySem.W.Frag} {mg : Str → Option Value} {base : Heap} {x qual : Str} {st : Stmt} {f : Addr} {fd : FuncData} {N ps : List Str} {k : Nat} {sp : Sp} (F : Fun K x qual st f fd) (S : FnScope N ps (defScope st)) (len : ∀ vs H Q E, sp vs H Q E → vs.length = ps.length)
    (body : ∀ (A : Around) (outer : List Env) (s : Shared) (H : Hp) (vs : List V) (Q : VK) (E : XK), Room k (A.deeper (envOfC qual (defScope st) s.heap.objs.size f fd.code)) → sp vs H Q E →
      ∃ t, PSs (cxOf CX0 P w K mg base N qual (defScope st) f fd.code A outer s H E).nox (defBody st) t ∧ t { nx := fun _ H' => Q .non H', rt := Q } (start N vs) H) : FnOk P w K mg base CX0 (k + 1) f fd ps sp := by
  obtain ⟨oc, od, kV, doc, pm, an, cdv, ct, osl, rfl, lk, hcd⟩ := F.ex
  refine fn_of lk hcd S len fun A outer s H vs Q E hr hsp => ?_
  obtain ⟨t, h, q⟩ := body A outer s H vs Q E hr hsp
  exact ⟨t, h.nox, q⟩
/-! ### from the head's facts -/
theorem fun_of {K : PySem.W.Frag} {x qual : Str} {st : Stmt} {f : Addr} {fd : FuncData} (F : FunD K x qual (defArgs st) (defBody st) (defScope st) [] [] f fd) : Fun K x qual st f fd := by
  obtain ⟨oc, od, dV, kV, doc, pm, an, cdv, ct, osl, rfl, lk, hcd, hd, _⟩ := F.ex
  rcases hd with ⟨_, rfl⟩ | ⟨z, _⟩
  · exact ⟨⟨oc, od, kV, doc, pm, an, cdv, ct, osl, rfl, lk, hcd⟩, F.kp⟩
  · exact absurd rfl z
theorem code_of {K : PySem.W.Frag} {x qual : Str} {st : Stmt} {p : He.Defn} {fd : FuncData} (F : Fun K x qual st (He.fAd K p) fd) : fd.code = .ref (He.cT K p).1 := by
  obtain ⟨oc, od, kV, doc, pm, an, cdv, ct, osl, rfl, lk, hcd⟩ := F.ex
  obtain ⟨c, rfl⟩ := He.codeIn_ref hcd
  show Value.ref c = Value.ref (He.codeOf K p)
  rw [He.codeOf_eq lk rfl]
theorem tab_of {base : Heap} {mg : Str → Option Value} {c P : Addr} (h : LamX.TabB base mg c P) : GxR.TabB base mg c P := ⟨h.code, h.bm, h.gP⟩
/-! ### heaps whose tables grow -/
def Tabs (H : Hp) (Ps : List Addr) : Prop := ∀ P ∈ Ps, GxR.TabG H P
/-- what is no table stays; tables stay tables -/
def Gr (H H' : Hp) : Prop := (∀ b o, (∀ ps, o ≠ HO.tbl ps) → H b = some o → H' b = some o) ∧ ∀ b, GxR.TabG H b → GxR.TabG H' b
theorem Gr.refl {H : Hp} : Gr H H := ⟨fun _ _ _ e => e, fun _ e => e⟩
theorem Gr.trans {H H1 H2 : Hp} (a : Gr H H1) (b : Gr H1 H2) : Gr H H2 := ⟨fun c o n e => b.1 c o n (a.1 c o n e), fun c e => b.2 c (a.2 c e)⟩
theorem Gr.of {H H' : Hp} (h : ∀ b o, H b = some o → H' b = some o) : Gr H H' := ⟨fun b o _ e => h b o e, fun b ⟨ps, e, t⟩ => ⟨ps, h _ _ e, t⟩⟩
theorem Gr.tab {P : Addr} {H H' : Hp} (t : GxR.TabG H P) (h : GxR.Tabbed P H H') : Gr H H' := by
  obtain ⟨ps, e, _⟩ := t
  refine ⟨fun b o n q => ?_, fun b q => ?_⟩
  · by_cases hb : b = P
    · rw [hb, e] at q
      exact absurd (Option.some.inj q).symm (n ps)
    · rw [h.2 b hb]; exact q
  · by_cases hb : b = P
    · rw [hb]; exact h.1
    · obtain ⟨ps', e', t'⟩ := q
      exact ⟨ps', by rw [h.2 b hb]; exact e', t'⟩
theorem Gr.tup {H H' : Hp} (g : Gr H H') {a : Addr} {xs : List V} (h : H a = some (.tup xs)) : H' a = some (.tup xs) := g.1 a _ (fun _ z => by cases z) h
theorem Gr.lst {H H' : Hp} (g : Gr H H') {a : Addr} {xs : List V} (h : H a = some (.lst xs)) : H' a = some (.lst xs) := g.1 a _ (fun _ z => by cases z) h
theorem Gr.tabs {H H' : Hp} (g : Gr H H') {Ps : List Addr} (h : Tabs H Ps) : Tabs H' Ps := fun P hP => g.2 P (h P hP)
theorem Gr.none {H : Hp} {a : Addr} {o : HO} (n : H a = Option.none) : Gr H (upd H a o) := Gr.of fun b u e => by
  rw [upd_ne (ne_of_none e n)]
  exact e
namespace CwR
/-- behind it a token is out -/
def PEp (X : Cx) (e : Expr) (t : TE) : Prop := ∀ (pins : List (Addr × Obj)) (s : Shared) (σ : L2.St) (H : Hp) (Q : VK), Inv X pins σ H s → t σ H Q → wpAny (model X.prog X.w) X.A (eval e X.env) (fun u s' => 1 ≤ s'.toks ∧ EP X pins σ Q u s') X.xe s
theorem pep_ix {X : Cx} {a : Expr} {i : Int} {j : Nat} {p pos : Pos} {ta : TE} {r : R2} (hr : IxR X r) (ha : PE X a ta) (hs : PlainIx (.Constant (.int i) j p)) : PEp X (.Subscript a (.Constant (.int i) j p) pos) (tOp r ta (tC (.int i))) := by
  intro pins s σ H Q I h
  refine Subscript_ (thn (ha.run pins s σ H _ I h) fun v s1 ⟨x, H1, I1, r1, q1⟩ => wpAny_Constant_int ?_)
  refine wpAny_mono (PySem.wpAny_toks (hr a _ pins { s1 with toks := s1.toks + 1 } σ H1 x (.int i) v (.int i s1.toks) Q (I1.tok _) r1 ⟨_, rfl⟩ q1 (hs _ _))) (fun u s2 q => ⟨?_, q.2⟩) fun _ _ z => z.2
  have h1 : s1.toks + 1 ≤ s2.toks := q.1
  omega
theorem pep_repl {X : Cx} {o : Expr} {to : TE} {y z : Str} {j k : Nat} {c0 c1 apos pos : Pos} (ho : PEp X o to) (hyz : (y == z) = false := by decide)
    (hst : starEach [.Constant (.str y) j c0, .Constant (.str z) k c1] X.env = [(false, eval (.Constant (.str y) j c0) X.env), (false, eval (.Constant (.str z) k c1) X.env)] := by rfl)
    (hbase : attributeBase o "replace" X.env (eval o X.env) = eval o X.env := by rfl) (hline : (apos.endLine == pos.line) = true := by rfl) :
    PEp X (.Call (.Attribute o "replace" apos) [.Constant (.str y) j c0, .Constant (.str z) k c1] [] pos) (CwR.tReplC to y z) := by
  intro pins s σ H Q I h
  refine PySem.Call_method2 hbase hst hline (wpAny_mono (ho pins s σ H _ I h) (fun v s1 q => ?_) fun _ _ z => z)
  obtain ⟨hk, v', H1, I1, r1, x, e1, hb, q⟩ := q
  subst e1
  obtain ⟨tx, e2⟩ := r1
  subst e2
  refine ⟨"str", _, PySem.F.plainAttrs_str, PySem.F.slot_str_replace, PySem.F.type_str_replace, typeIs_str _ _ _, (fun _ e => nomatch e), Calls.callWith_builtin rfl (Calls.evalArgs_plain (Calls.spliced_cons ?_))⟩
  refine Calls.Constant_str (Calls.spliced_cons (Calls.Constant_str (Calls.spliced_nil ?_)))
  refine wpAny_mono (PySem.wpAny_toks (PySem.SC.replace (Q := fun u s' => EP X pins σ Q u s') (by show s1.toks ≠ 0; omega) (by show s1.toks + 1 ≠ 0; omega) (by show s1.toks ≠ s1.toks + 1; omega) hyz hb fun t' k => ⟨.str (Txt.replace x y z), H1, I1.tok k, ⟨t', rfl⟩, q⟩)) (fun u s2 q => ⟨?_, q.2⟩) fun _ _ z => z.2
  have h1 : s1.toks + 1 + 1 ≤ s2.toks := q.1
  omega
theorem pe_replP {X : Cx} {e : Expr} {t : TE} (h : PEp X e t) : PE X e t := ⟨fun pins s σ H Q I q => wpAny_mono (h pins s σ H Q I q) (fun _ _ z => z.2) fun _ _ z => z⟩
end CwR

/-! ### heaps -/
theorem same_upd {H : Hp} {p : Addr} {o : HO} (h : H p = none) : Same H (upd H p o) := fun b x e => by
  rw [upd_ne (ne_of_none e h)]
  exact e
def Fr (d l : Addr) (H H' : Hp) : Prop := ∀ b o, b ≠ d → b ≠ l → H b = some o → H' b = some o
theorem Fr.trans {d l : Addr} {H H1 H2 : Hp} (a : Fr d l H H1) (b : Fr d l H1 H2) : Fr d l H H2 := fun c o h1 h2 h => b c o h1 h2 (a c o h1 h2 h)
theorem Fr.refl {d l : Addr} {H : Hp} : Fr d l H H := fun _ _ _ _ h => h
theorem Fr.new {d l p : Addr} {H : Hp} {o : HO} (h : H p = none) : Fr d l H (upd H p o) := fun b x _ _ e => same_upd h b x e
theorem Fr.of {d l : Addr} {H H' : Hp} (h : Same H H') : Fr d l H H' := fun b x _ _ e => h b x e
theorem Fr.d {d l : Addr} {H : Hp} {o : HO} : Fr d l H (upd H d o) := fun b x h1 _ e => by rw [upd_ne h1]; exact e
theorem Fr.l {d l : Addr} {H : Hp} {o : HO} : Fr d l H (upd H l o) := fun b x _ h2 e => by rw [upd_ne h2]; exact e
def Deck (H : Hp) (d l : Addr) : Prop := d ≠ l ∧ ∃ (cs : List Int) (z : Int), H d = some (.lst [.ref l, .int z]) ∧ H l = some (.lst (cs.map V.int)) ∧ cs.length ≤ 63 ∧ 0 ≤ z ∧ z < 4294967296
theorem Deck.same {H H' : Hp} {d l : Addr} (D : Deck H d l) (s : Same H H') : Deck H' d l := by
  obtain ⟨ne, cs, z, hd, hl, r⟩ := D
  exact ⟨ne, cs, z, s _ _ hd, s _ _ hl, r⟩
theorem Deck.new {H : Hp} {d l p : Addr} {o : HO} (D : Deck H d l) (h : H p = none) : Deck (upd H p o) d l := D.same (same_upd h)
theorem Deck.ne_new {H : Hp} {d l p : Addr} (D : Deck H d l) (h : H p = none) : p ≠ d ∧ p ≠ l := by
  obtain ⟨ne, cs, z, hd, hl, r⟩ := D
  exact ⟨(ne_of_none hd h).symm, (ne_of_none hl h).symm⟩
theorem p29 : (0 : Int) < 2147483629 := by decide
theorem p47 : (0 : Int) < 2147483647 := by decide
theorem p87 : (0 : Int) < 2147483587 := by decide
theorem sl1 : 1 ≤ sizeLine := by decide
theorem sl2 : 2 ≤ sizeLine := by decide
theorem sl3 : 3 ≤ sizeLine := by decide
theorem sl4 : 4 ≤ sizeLine := by decide
theorem seqIx0 {α : Type} (x : α) (xs : List α) : seqIndex? 0 (x :: xs).length = some 0 := by
  refine (ixN_seq (n := (x :: xs).length) (i := 0) (j := 0) ?_).1
  unfold ixN
  rw [if_pos (by decide), if_pos (by rw [List.length_cons]; omega)]
  rfl
theorem dpInts {K : PySem.W.Frag} {H : Hp} : ∀ cs : List Int, DpAll K H (cs.map V.int) (cs.map PyData.int)
  | [] => .nil
  | c :: r => .cons (.int c) (dpInts r)
theorem shInts (ns : List Int) : SeqAt.shaped (.list (ns.map PyData.int)) = true := by
  unfold SeqAt.shaped
  rw [Bool.and_eq_true]
  refine ⟨?_, ?_⟩
  · simp only [PyData.canLay0, canLayAll_ints]
  · simp only [PyData.depth, depthAll_ints]
    decide
theorem at_pick {xs : List V} {j : Int} (h0 : 0 ≤ j) (h1 : j < xs.length) : ∃ x, atI xs j = some x ∧ x ∈ xs := by
  obtain ⟨k, rfl⟩ : ∃ k : Nat, j = (k : Int) := ⟨j.toNat, (Int.toNat_of_nonneg h0).symm⟩
  have hk : k < xs.length := by omega
  exact ⟨xs[k], atI_nat (List.getElem?_eq_getElem hk), List.getElem_mem hk⟩
theorem units65 {k : Nat} {A : Around} (r : Room k A) : A.units + 65 < cLine := by have := r.un; omega
def rLenK (K : PySem.W.Frag) : List V → Hp → VK → Prop := fun xs H Q => ∃ p ys, xs = [.ref p] ∧ (SqL K H p ys ∨ SqT K H p ys) ∧ Q (.int ys.length) H
def rTupK (K : PySem.W.Frag) : List V → Hp → VK → Prop := fun xs H Q => ∃ p ys, xs = [.ref p] ∧ ((SqL K H p ys ∧ ∀ l, H l = none → Q (.ref l) (upd H l (.tup ys))) ∨ (SqT K H p ys ∧ Q (.ref p) H))
def rLstK (K : PySem.W.Frag) : List V → Hp → VK → Prop := fun xs H Q => ∃ p ys, xs = [.ref p] ∧ (SqL K H p ys ∨ SqT K H p ys) ∧ ∀ l, H l = none → Q (.ref l) (upd H l (.lst ys))
/-- joining ways behind a test, behind an expression -/
def tCutT (t : TT) : TT := fun σ H Q => ∃ Mid : Bool → Hp → Prop, t σ H Mid ∧ ∀ b H1, Mid b H1 → Q b H1
theorem pt_cut {X : Cx} {e : Expr} {t : TT} (h : PT X e t) : PT X e (tCutT t) := ⟨fun pins s σ H Q I hw => by
  obtain ⟨Mid, h1, q⟩ := hw
  exact thn (h.run pins s σ H _ I h1) fun c s1 ⟨H1, I1, m⟩ => ⟨H1, I1, q _ _ m⟩⟩
def tCutE (t : TE) : TE := fun σ H Q => ∃ Mid : VK, t σ H Mid ∧ ∀ v H1, Mid v H1 → Q v H1
theorem pe_cut {X : Cx} {e : Expr} {t : TE} (h : PE X e t) : PE X e (tCutE t) := ⟨fun pins s σ H Q I hw => by
  obtain ⟨Mid, h1, q⟩ := hw
  exact thn (h.run pins s σ H _ I h1) fun u s1 ⟨v, H1, I1, r, m⟩ => ⟨v, H1, I1, r, q _ _ m⟩⟩

/-! ### defs called where nothing is being shown (so that repr tells what stands there) -/
structure FnG (P : Program) (w : World) (K : PySem.W.Frag) (mg : Str → Option Value) (bs : Heap) (CX : CXT) (k : Nat) (f : Addr) (fd : FuncData) (ps : List Str) (sp : Sp) : Prop where
  many : ∀ vs H Q E, sp vs H Q E → vs.length = ps.length
  go : ∀ A : Around, A.guards = some [] → Room k A → ∀ (fr : List Env) (s : Shared) (H : Hp) (ar : Args) (us : List Value) (vs : List V) (Q : VK) (E : XK), Env0 P w K mg bs A fr s H → BindsTo s fd ar (ps.zip us) → Vals vs us → sp vs H Q E → codeAny (model P w) A (.call (.ref f) ar) (CR CX fr P w H s Q E) s
theorem FnG.of {P : Program} {w : World} {K : PySem.W.Frag} {mg : Str → Option Value} {bs : Heap} {CX : CXT} {k : Nat} {f : Addr} {fd : FuncData} {ps : List Str} {sp : Sp} (F : FnOk P w K mg bs CX k f fd ps sp) : FnG P w K mg bs CX k f fd ps sp :=
  ⟨F.len, fun A _ room fr s H ar us vs Q E e0 b r h => F.run A fr s H ar us vs Q E room e0 b r h⟩
theorem okG {CX : CXT} {P : Program} {w : World} {K : PySem.W.Frag} {mg : Str → Option Value} {bs : Heap} {x qual : Str} {st : Stmt} {f : Addr} {fd : FuncData} {N ps : List Str} {k : Nat} {sp : Sp} (F : Fun K x qual st f fd) (S : FnScope N ps (defScope st))
    (many : ∀ vs H Q E, sp vs H Q E → vs.length = ps.length)
    (body : ∀ (cdv : Value) (A : Around) (fr : List Env) (s : Shared) (H : Hp) (vs : List V) (Q : VK) (E : XK), A.guards = some [] → Room k (A.deeper (envOfC qual (defScope st) s.heap.objs.size f cdv)) → sp vs H Q E →
      ∃ t, PSs (cxOf CX P w K mg bs N qual (defScope st) f cdv A fr s H E) (defBody st) t ∧ t ⟨fun _ H' => Q .non H', Q, fun _ _ => False, fun _ _ => False⟩ (start N vs) H) : FnG P w K mg bs CX (k + 1) f fd ps sp := by
  obtain ⟨oc, od, kV, doc, pm, an, cdv, ct, osl, rfl, lk, code⟩ := F.ex
  refine ⟨many, fun A nothing room fr s H ar us vs Q E e0 bound rel told => ?_⟩
  have stays : ∀ b o, bs.get? b = some o → s.heap.get? b = some o := fun b o z => (e0.bs b o z).1
  have inK : K.In s.heap := e0.mod.kin.keeps stays
  have places : ∀ y ∈ ps.zip us, (defScope st).names.lookup y.1 = some .local ∨ ((defScope st).names.lookup y.1 = some .cell ∧ ((cellsFrom (s.heap.objs.size + 1) (defScope st).names []).lookup y.1).isSome = true) := by
    rintro ⟨n, v⟩ hy
    exact (S.par n (List.of_mem_zip hy).1).imp id fun c => ⟨c, PySem.W.cellsFrom_some _ _ _ (Or.inl c)⟩
  refine codeAny_call_function room.depth (inK _ _ lk) rfl S.co S.gen rfl (PySem.W.codeRec_of inK code) (bound _ _ _ _
    (wpAny_newFunctionEnv_cells S.kind places fun env he s1 made => ?_))
  subst he
  obtain ⟨t, runs, holds⟩ := body cdv A fr s H vs Q E nothing (room.deeper _) told
  refine ⟨(e0.mod.nolimit.keeps stays).keeps made.toInCall.keep, codeAny_func (wpAny_mono (runs.run [] s1 (start N vs) H _ (inv_start S room.hd e0 (many _ _ _ _ told) rel made) holds) (fun fl s2 z => ?_) fun _ _ z => z)⟩
  match fl, z with
  | .ret _, ⟨v, _, H', J, rv, q⟩ => exact ⟨v, H', J.os, J.bare, J.base, J.hok, rv, q⟩
  | .next, ⟨_, H', J, q⟩ => exact ⟨V.non, H', J.os, J.bare, J.base, J.hok, rfl, q⟩
  | .brk, ⟨_, _, _, q⟩ => exact q.elim
  | .cont, ⟨_, _, _, q⟩ => exact q.elim
theorem okG0 {P : Program} {w : World} {K : PySem.W.Frag} {mg : Str → Option Value} {bs : Heap} {x qual : Str} {st : Stmt} {f : Addr} {fd : FuncData} {N ps : List Str} {k : Nat} {sp : Sp} (F : Fun K x qual st f fd) (S : FnScope N ps (defScope st))
    (many : ∀ vs H Q E, sp vs H Q E → vs.length = ps.length)
    (body : ∀ (cdv : Value) (A : Around) (fr : List Env) (s : Shared) (H : Hp) (vs : List V) (Q : VK) (E : XK), A.guards = some [] → Room k (A.deeper (envOfC qual (defScope st) s.heap.objs.size f cdv)) → sp vs H Q E →
      ∃ t, PSs (cxOf CX0 P w K mg bs N qual (defScope st) f cdv A fr s H E).nox (defBody st) t ∧ t ⟨fun _ H' => Q .non H', Q, fun _ _ => False, fun _ _ => False⟩ (start N vs) H) : FnG P w K mg bs CX0 (k + 1) f fd ps sp :=
  okG F S many fun cdv A fr s H vs Q E g r h => by
    obtain ⟨t, p, q⟩ := body cdv A fr s H vs Q E g r h
    exact ⟨t, p.nox, q⟩
section
variable {X : Cx} {CX : CXT} {k : Nat} {f : Addr} {fd : FuncData} {ps : List Str} {sp : Sp} {ds : List Value} {dvs : List V} {E : XK}
theorem runG {pins : List (Addr × Obj)} {σ : L2.St} {H : Hp} {s : Shared} {Q : VK} {us : List Value} {vs : List V} (F : FnG X.prog X.w X.K X.mg X.base CX k f fd ps sp) (nothing : X.A.guards = some []) (room : Room k X.A) (hb : Binds X.K fd ps ds)
    (hd : Vals dvs ds) (out : Passes CX X E) (I : Inv X pins σ H s) (r : Vals vs us) (told : sp (vs ++ dvs) H Q E) : wpAny (model X.prog X.w) X.A (call (.ref f) us) (EP X pins σ Q) X.xe s := by
  have rel : Vals (vs ++ dvs) (us ++ ds) := r.append hd
  have size : (us ++ ds).length = ps.length := rel.length ▸ F.many _ _ _ _ told
  refine wpAny_call (codeAny_mono (F.go X.A nothing room X.stack s H _ _ _ Q E I.env0 (hb s us I.kIn size) rel told) fun res s2 z => ?_)
  match res, z with
  | .error e, z => exact out pins σ H s e s2 I z
  | .ok (.ret u), z => exact I.after z
  | .ok .next, z => exact z.elim
  | .ok .brk, z => exact z.elim
  | .ok .cont, z => exact z.elim
theorem pe_callG {x : Str} {p pos : Pos} {e : Expr} {es : List Expr} {t : TA} (F : FnG X.prog X.w X.K X.mg X.base CX k f fd ps sp) (nothing : X.A.guards = some []) (room : Room k X.A) (hg : Gl X x) (hm : X.mg x = some (.ref f)) (kp : PySem.W.keepIn X.K (.ref f) = true)
    (hb : Binds X.K fd ps ds) (hd : Vals dvs ds) (out : Passes CX X E) (ha : PA X (e :: es) t) (nd : (x == ("__debug__" : Str)) = false := by decide) (he : starEach (e :: es) X.env = (false, eval e X.env) :: starEach es X.env := by rfl)
    (hpl : (backTo pos (starEach es X.env)).any (·.1) = false := by rfl) : PE X (.Call (.Name x p) (e :: es) [] pos) (tCall sp dvs E t) := by
  refine ⟨fun pins s σ H Q I told => wpAny_Call_Name_kw (ld_glob I hg hm ?_ nd)⟩
  refine PySem.W.callWith_K (h₀ := X.base) I.ok.mod.kin kp (thn (ha.run pos pins s σ H _ I told) ?_) he hpl
  rintro us s1 ⟨vs, H1, J, r, q⟩
  exact ⟨J.kIn, runG F nothing room hb hd out J r q⟩
end
/-! ### what is shown by repr: plain data, whose lists and dicts were made by the law -/
def kD : Key → PyData
  | .inl i => .int i
  | .inr x => .str x
mutual
inductive Sh (H : Hp) : V → PyData → Prop
  | non : Sh H .non .none
  | bl (b : Bool) : Sh H (.bl b) (.bool b)
  | int (i : Int) : Sh H (.int i) (.int i)
  | str (x : Str) : Sh H (.str x) (.str x)
  | lst {a : Addr} {xs : List V} {ds : List PyData} : H a = some (.lst xs) → a ≠ sysModules → ShAll H xs ds → Sh H (.ref a) (.list ds)
  | tup {a : Addr} {xs : List V} {ds : List PyData} : H a = some (.tup xs) → ShAll H xs ds → Sh H (.ref a) (.tuple ds)
  | dic {a : Addr} {kvs : List (Key × V)} {ds : List PyData} : H a = some (.dK kvs) → ShAll H (kvs.map (·.2)) ds → Sh H (.ref a) (.dict ((kvs.map fun kv => kD kv.1).zip ds))
inductive ShAll (H : Hp) : List V → List PyData → Prop
  | nil : ShAll H [] []
  | cons {v : V} {vs : List V} {d : PyData} {ds : List PyData} : Sh H v d → ShAll H vs ds → ShAll H (v :: vs) (d :: ds)
end
theorem ShAll.length {H : Hp} : ∀ {vs : List V} {ds : List PyData}, ShAll H vs ds → vs.length = ds.length
  | _, _, .nil => rfl
  | _, _, .cons _ t => by rw [List.length_cons, List.length_cons, t.length]
mutual
theorem Sh.same {H H' : Hp} (s : Same H H') : ∀ {v : V} {d : PyData}, Sh H v d → Sh H' v d
  | _, _, .non => .non
  | _, _, .bl b => .bl b
  | _, _, .int i => .int i
  | _, _, .str x => .str x
  | _, _, .lst h n t => .lst (s _ _ h) n (t.same s)
  | _, _, .tup h t => .tup (s _ _ h) (t.same s)
  | _, _, .dic h t => .dic (s _ _ h) (t.same s)
theorem ShAll.same {H H' : Hp} (s : Same H H') : ∀ {vs : List V} {ds : List PyData}, ShAll H vs ds → ShAll H' vs ds
  | _, _, .nil => .nil
  | _, _, .cons h t => .cons (h.same s) (t.same s)
end
/-- the name of the class of such data -/
def tyD : PyData → String
  | .none => "NoneType"
  | .bool _ => "bool"
  | .int _ => "int"
  | .str _ => "str"
  | .list _ => "list"
  | .tuple _ => "tuple"
  | .dict _ => "dict"
theorem Sh.ty {K : PySem.W.Frag} {H : Hp} {v : V} {d : PyData} (h : Sh H v d) : TyX K H v (.type (tyD d)) := by
  cases h with
  | non => exact .base .non
  | bl b => exact .base (.bl b)
  | int i => exact .base (.int i)
  | str x => exact .base (.str x)
  | lst h _ _ => exact .base (.lst h)
  | tup h _ => exact .base (.tup h)
  | dic h _ => exact .base (.dK h)
section
variable {X : Cx} {pins : List (Addr × Obj)} {σ : L2.St} {H : Hp} {s : Shared}
theorem pairs_keys {P : Program} {w : World} {h : Heap} : ∀ {es : List DictEntry} {kvs : List (Key × Value)}, Pairs (mixKind P w) es kvs → ReadsAll h (es.map (·.key)) (kvs.map fun kv => kD kv.1) []
  | _, _, .nil => .nil
  | _, _, .cons (kv := kv) hk _ t => by
    have r := pairs_keys (h := h) t
    rcases keyIs_shape (k := kv.1) hk with ⟨i, u, e1, e2⟩ | ⟨x, u, e1, e2⟩
    · rw [List.map_cons, List.map_cons, e1, e2]
      exact ReadsAll.cons (as := []) (.int i u) r
    · rw [List.map_cons, List.map_cons, e1, e2]
      exact ReadsAll.cons (as := []) (.str x u) r
theorem pairs_vals {P : Program} {w : World} : ∀ {es : List DictEntry} {kvs : List (Key × Value)}, Pairs (mixKind P w) es kvs → es.map (·.val) = kvs.map (·.2)
  | _, _, .nil => rfl
  | _, _, .cons _ hv t => by rw [List.map_cons, List.map_cons, hv, pairs_vals t]
theorem kv_rel : ∀ {kvs : List (Key × V)} {vs : List (Key × Value)}, KV kvs vs → kvs.map (·.1) = vs.map (·.1) ∧ Vals (kvs.map (·.2)) (vs.map (·.2))
  | _, _, .nil => ⟨rfl, .nil⟩
  | _, _, .cons h t => by
    obtain ⟨a, b⟩ := kv_rel t
    exact ⟨by rw [List.map_cons, List.map_cons, a, h.1], .cons h.2 b⟩
mutual
theorem Sh.reads (I : Inv X pins σ H s) : ∀ (v : V) (d : PyData) (u : Value), Sh H v d → RelV v u → ∃ as, Reads s.heap u d as ∧ sysModules ∉ as
  | _, _, _, .non, r => by cases r; exact ⟨_, .none, List.not_mem_nil⟩
  | _, _, _, .bl b, r => by cases r; exact ⟨_, .bool b, List.not_mem_nil⟩
  | _, _, _, .int i, r => by obtain ⟨t, rfl⟩ := r; exact ⟨_, .int i t, List.not_mem_nil⟩
  | _, _, _, .str x, r => by obtain ⟨t, rfl⟩ := r; exact ⟨_, .str x t, List.not_mem_nil⟩
  | _, _, _, .lst (a := a) (xs := xs) h n t, r => by
    cases r
    obtain ⟨_, its, c, rv, ho⟩ := (show ObjOk X.prog X.w H s.heap a (.lst xs) from I.hok a _ h)
    obtain ⟨as, q, m⟩ := ShAll.reads I _ _ its t rv
    exact ⟨_, .list ho rfl rfl (by simpa using q), fun z => (List.mem_cons.mp z).elim (fun e => n e.symm) m⟩
  | _, _, _, .tup (a := a) (xs := xs) h t, r => by
    cases r
    obtain ⟨_, its, rv, o, ho, hc, c, hd⟩ := (show ObjOk X.prog X.w H s.heap a (.tup xs) from I.hok a _ h)
    obtain ⟨as, q, m⟩ := ShAll.reads I _ _ its t rv
    exact ⟨_, .tuple ho hc hd (by simpa using q), m⟩
  | _, _, _, .dic (a := a) (kvs := kvs) (ds := ds) h t, r => by
    cases r
    obtain ⟨_, low, vs, rel, o, es, ep, ho, hx, hd, _, hp, _⟩ := (show ObjOk X.prog X.w H s.heap a (.dK kvs) from I.hok a _ h)
    obtain ⟨rk, rv⟩ := kv_rel rel
    obtain ⟨as, q, m⟩ := ShAll.reads I _ _ (vs.map (·.2)) t rv
    have k1 : (kvs.map fun kv => kD kv.1) = vs.map fun kv => kD kv.1 := by
      have := congrArg (List.map kD) rk
      rw [List.map_map, List.map_map] at this
      exact this
    have ln : (kvs.map fun kv => kD kv.1).length = ds.length := by
      have := t.length
      rw [List.length_map] at this
      rw [List.length_map, this]
    refine ⟨_, .dict (as := []) (bs := as) ho hx.1 hd ?_ ?_, ?_⟩
    · rw [List.map_fst_zip (Nat.le_of_eq ln), k1]
      exact pairs_keys hp
    · rw [List.map_snd_zip (Nat.le_of_eq ln.symm), pairs_vals hp]
      exact q
    · intro z
      rcases List.mem_cons.mp z with e | e
      · exact absurd low (by rw [← e]; simp)
      · exact m e
theorem ShAll.reads (I : Inv X pins σ H s) : ∀ (vs : List V) (ds : List PyData) (us : List Value), ShAll H vs ds → Vals vs us → ∃ as, ReadsAll s.heap us ds as ∧ sysModules ∉ as
  | _, _, _, .nil, r => by cases r; exact ⟨_, .nil, List.not_mem_nil⟩
  | _, _, _, .cons h t, r => by
    cases r with
    | cons r1 r2 =>
      obtain ⟨as, q1, m1⟩ := Sh.reads I _ _ _ h r1
      obtain ⟨bs, q2, m2⟩ := ShAll.reads I _ _ _ t r2
      exact ⟨_, .cons q1 q2, fun z => (List.mem_append.mp z).elim m1 m2⟩
end
end
def rRepr : List V → Hp → VK → Prop := fun xs H Q => ∃ x d, xs = [x] ∧ Sh H x d ∧ d.showable = true ∧ d.shown.length ≤ sizeLine ∧ d.depth ≤ 50 ∧ Q (.str d.shown) H
theorem call_repr {X : Cx} (nothing : X.A.guards = some []) (hu : X.A.units + 64 < cLine) : CallR X (.builtin "repr") rRepr := by
  intro pins s σ H xs us Q I r h
  obtain ⟨x, d, rfl, sh, able, fits, deep, q⟩ := h
  cases r with
  | @cons _ u _ _ r1 r2 =>
    cases r2
    obtain ⟨as, rd, low⟩ := Sh.reads I _ _ _ sh r1
    have fin : ∀ h' t tk, (∀ b o, s.heap.get? b = some o → h'.get? b = some o) → EP X pins σ Q (.str d.shown t) { s with heap := h', toks := tk } := fun h' t tk kept => ⟨.str d.shown, H, I.kept kept, ⟨t, rfl⟩, q⟩
    cases sh with
    | non => cases r1; exact PySem.P.repr_of_none (fin _ _ _ fun _ _ z => z)
    | bl b => cases r1; exact PySem.P.repr_of_bool (fin _ _ _ fun _ _ z => z)
    | int i => obtain ⟨t, rfl⟩ := r1; exact PySem.P.repr_of_int (of_decide_eq_true able) (fin _ _ _ fun _ _ z => z)
    | str x => obtain ⟨t, rfl⟩ := r1; exact PySem.P.repr_of_str (fin _ _ _ fun _ _ z => z) fits
    | lst _ _ _ => cases r1; exact repr_of_reads' rd able (fun _ => low) nothing (by omega) (fun _ _ z => z) fin fits
    | tup _ _ => cases r1; exact repr_of_reads' rd able (fun _ => low) nothing (by omega) (fun _ _ z => z) fin fits
    | dic _ _ => cases r1; exact repr_of_reads' rd able (fun _ => low) nothing (by omega) (fun _ _ z => z) fin fits
/-- a display's list is none of the interpreter's own -/
def tLstN (t : TA) : TE := fun σ H Q => t σ H fun xs H1 => xs.length ≤ sizeLine ∧ ∀ p, H1 p = none → p ≠ sysModules → Q (.ref p) (upd H1 p (.lst xs))
theorem pe_lstN {X : Cx} {es : List Expr} {t : TA} {pos : Pos} (h : PA X es t) : PE X (.List es pos) (tLstN t) := by
  refine ⟨fun pins s σ H Q I told => wpAny_List_spliced (thn (h.run pos pins s σ H _ I told) ?_)⟩
  rintro us s1 ⟨xs, H1, J, r, small, q⟩
  have free : H1 s1.heap.objs.size = none := J.hok.fresh (Nat.le_refl _)
  refine ⟨by rw [← r.length]; exact small, .ref s1.heap.objs.size, upd H1 s1.heap.objs.size (.lst xs), J.laid (t' := s1.toks) (fun b u z => Heap.get?_push_of_some _ z) (Nat.le_refl _) ⟨small, us, 0, r, Heap.get?_push_size _ rfl⟩, rfl, q _ free (Nat.ne_of_gt J.big)⟩
/-! ### the end of a law whose defs are called where nothing is being shown -/
theorem law_G {P : Program} {w : World} {K : PySem.W.Frag} {mg mb : Str → Option Value} {CX : CXT} {k : Nat} {fa a : Addr} {fd : FuncData} {x : Str} {sp : Sp} {s : Shared} {vs : List Value} {ns : List Int}
    (inK : K.In s.heap) (gl : s.heap.Ns mainGlobals mg) (bl : s.heap.Ns builtinsNs mb) (boot : ∀ y : Str, y ≠ "__name__" → mb y = bootBuiltins y) (lim : s.heap.NoLimit) (ng : s.gens = #[])
    (at_ : s.heap.get? a = some { cls := .type "list", data := .seq vs.toArray }) (are : IntsAre vs ns) (small : ns.length ≤ sizeLine) (room : Room k callerA)
    (F : ∀ bs : Heap, K.In bs → bs.Ns mainGlobals mg → FnG P w K mg bs CX k fa fd [x] sp) (bound : ∀ (s : Shared) (u : Value), BindsTo s fd ⟨[u], []⟩ [(x, u)])
    (told : ∀ H : Hp, Only H → SqL K H a (ns.map V.int) → sp [.ref a] H (fun v _ => v = .bl true) fun _ _ _ => False)
    (noX : ∀ H e s', CX [] H s (fun _ _ _ => False) e s' → False) :
    codeAny (model P w) callerA (.call (.ref fa) ⟨[.ref a], []⟩) (fun r s' => r = .ok (.ret (.bool true)) ∧ OldK s.heap s'.heap ∧ s'.os = s.os ∧ AllBare s'.gens) s := by
  have main : ∀ H : Hp, Only H → SqL K H a (ns.map V.int) → HOk P w H s.heap → (∀ b, H b ≠ none → b = a) → (H a ≠ none → K.lookup a = none) →
      codeAny (model P w) callerA (.call (.ref fa) ⟨[.ref a], []⟩) (fun r s' => r = .ok (.ret (.bool true)) ∧ OldK s.heap s'.heap ∧ s'.os = s.os ∧ AllBare s'.gens) s := by
    intro H only list ok alone out
    have seen : ∀ {b : Addr} {o : Obj}, s.heap.get? b = some o → H b = none → (hidT s.heap H).get? b = some o := fun z n => hidT_get z n
    have dict : ∀ {b : Addr} {o : Obj} {es : Array DictEntry} {ep : Nat}, s.heap.get? b = some o → o.data = .dict es ep → H b = none := by
      intro b o es ep z dz
      refine Classical.byContradiction fun some_ => ?_
      have eb := alone b some_
      rw [eb, at_] at z
      cases z
      cases (show Data.seq vs.toArray _ = Data.dict es ep from dz)
    have names : ∀ {b : Addr} {m : Str → Option Value}, s.heap.Ns b m → (hidT s.heap H).Ns b m := by
      rintro b m ⟨o, es, ep, z, dz, rest⟩
      exact ⟨o, es, ep, seen z (dict z dz), dz, rest⟩
    have inB : K.In (hidT s.heap H) := by
      intro b o z
      refine seen (inK b o z) (Classical.byContradiction fun some_ => ?_)
      have eb := alone b some_
      subst eb
      rw [out some_] at z
      cases z
    obtain ⟨ml, l1, l2⟩ := lim
    have mod : Mod K mg (hidT s.heap H) := ⟨inB, names gl, ⟨mb, names bl, boot⟩, ⟨ml, names l1, l2⟩⟩
    have env : Env0 P w K mg (hidT s.heap H) callerA [] s H := { frames := rfl, mod := mod, bs := fun b o z => of_hidT z, bsz := Nat.le_of_eq (hidT_size _ _), funs := trivial, frf := (fun b hb => by cases (show b ∈ ([] : List Addr) from hb)), hok := ok, bare := .of_eq ng }
    refine codeAny_mono ((F _ inB (names gl)).go callerA rfl room [] s H _ [.ref a] [.ref a] _ _ env (bound s (.ref a)) (.cons rfl .nil) (told H only list)) fun r s2 z => ?_
    match r, z with
    | .error e, z => exact (noX H e s2 z).elim
    | .ok .next, z => exact z.elim
    | .ok .brk, z => exact z.elim
    | .ok .cont, z => exact z.elim
    | .ok (.ret u), ⟨v, H2, os, bare, un, ok2, rel, q⟩ =>
      cases (show v = V.bl true from q)
      cases (show u = Value.bool true from rel)
      refine ⟨rfl, OldK.of_keep fun b o z => ?_, os, bare⟩
      by_cases hb : H b = none
      · exact un.keep b o z hb (fun m => by cases (show b ∈ ([] : List Addr) from m)) (fun m => by cases m)
      · rcases only b with n | ⟨ob, xs, f⟩
        · exact absurd n hb
        · have o1 := (ok b _ f).1
          have o2 := (ok2 b _ (un.frzs b ob _ f)).1
          rw [z] at o1
          rw [Option.some.inj o1]
          exact o2
  have rel := vals_ints are
  cases hk : K.lookup a with
  | some o =>
    have z := inK a o hk
    rw [at_] at z
    cases z
    exact main (fun _ => none) (fun _ => .inl rfl) (.inr ⟨_, vs.toArray, _, hk, rfl, rfl, rfl, by rw [List.size_toArray, are.length]; exact small, by simpa using rel⟩) (fun b u z => by cases z) (fun b z => absurd rfl z) fun z => absurd rfl z
  | none =>
    have on : ∀ b : Addr, b = a → (if b = a then some (HO.frz { cls := .type "list", data := .seq vs.toArray } (.lst (ns.map V.int))) else none) = some (HO.frz { cls := .type "list", data := .seq vs.toArray } (.lst (ns.map V.int))) := fun b e => if_pos e
    refine main (fun b => if b = a then some (.frz { cls := .type "list", data := .seq vs.toArray } (.lst (ns.map V.int))) else none) (fun b => ?_) (.inl (.inr ⟨_, on a rfl⟩)) (fun b u z => ?_) (fun b z => ?_) fun _ => hk
    · rcases Classical.em (b = a) with e | e
      · exact .inr ⟨_, _, on b e⟩
      · exact .inl (if_neg e)
    · rcases Classical.em (b = a) with e | e
      · have := (on b e).symm.trans z
        cases this
        subst e
        exact ⟨at_, by rw [List.length_map]; exact small, vs, _, rel, at_⟩
      · have := (if_neg e).symm.trans z
        cases this
    · exact Classical.byContradiction fun e => z (if_neg e)
theorem walk_G {l : PySem.W.OpenLaw} {n k : Nat} {q : Program} {loose : List Str} {XP : (Str → Option Value) → Heap → Prop} {YP : World → Heap → Prop} {d : DefRec} {K : Params → PySem.W.Frag} {CX : World → CXT} {sp : World → Sp} {x : Str}
    (most : l.most = some n) (small : n ≤ sizeLine) (nodef : d.params.defaults = []) (room : Room k callerA) (inK : ∀ (w : World) (h : Heap), YP w h → (K w.params).In h)
    (F : ∀ (w : World) (mg : Str → Option Value) (fa : Addr) (h : Heap), (K w.params).In h → h.Ns mainGlobals mg → mg d.name = some (.ref fa) →
      ∃ fd : FuncData, (∀ (s : Shared) (u : Value), BindsTo s fd ⟨[u], []⟩ [(x, u)]) ∧ ∀ bs : Heap, (K w.params).In bs → bs.Ns mainGlobals mg → FnG l.prog w (K w.params) mg bs (CX w) k fa fd [x] (sp w))
    (told : ∀ (w : World) (H : Hp) (a : Addr) (ns : List Int), ns.length ≤ n → Only H → SqL (K w.params) H a (ns.map V.int) → sp w [.ref a] H (fun v _ => v = .bl true) fun _ _ _ => False)
    (noX : ∀ (w : World) (H : Hp) (s : Shared) (e : Value) (s' : Shared), CX w [] H s (fun _ _ _ => False) e s' → False) :
    PySem.W.WalkO q loose XP YP l.row.toRowW d [] (fun f vs => PySem.call f vs) := by
  refine Att.attach_call most nodef fun w s₀ s₁ mg mb fa o pm cd doc a vs ns G Y ho hd hcd hmg hobj hints hlen hg => ?_
  obtain ⟨fd, bound, FG⟩ := F w mg fa _ (inK w _ Y) G.T.g hmg
  exact law_G (inK w _ Y) G.T.g G.T.b G.T.builtins G.T.nolimit hg hobj hints (Nat.le_trans hlen small) room FG bound (fun H only list => told w H a ns hlen only list) fun H e s2 => noX w H s₁ e s2

/-! ### the end of a law whose defs are called where nothing is being shown, with tables of code objects -/
def LawAtG (l : PySem.W.OpenLaw) (w : World) (K : PySem.W.Frag) (CX : CXT) (k n : Nat) (x : Str) (mg : Str → Option Value) (f : Addr) (top : Heap) : Prop :=
  ∃ (fd : FuncData) (ts : List (Addr × Addr)) (sp : Sp), (∀ t ∈ ts, top.get? t.2 = some { cls := .none, data := .fields #[] }) ∧ (∀ t ∈ ts, K.lookup t.2 = none) ∧ (∀ t ∈ ts, PySem.W.CodeHd top t.1 t.2) ∧ (∀ (st : Shared) (v : Value), BindsTo st fd ⟨[v], []⟩ [(x, v)]) ∧
    (∀ (H : Hp) (p : Addr) (zs : List Int), zs.length ≤ n → (∀ z ∈ zs, Builtin.Int.intBits z ≤ 1048576) → (∀ t ∈ ts, H t.2 = some (.tbl #[])) → SqL K H p (zs.map V.int) → sp [.ref p] H (fun v _ => v = .bl true) fun _ _ _ => False) ∧
    ∀ under : Heap, K.In under → under.Ns mainGlobals mg → (∀ t ∈ ts, LamX.TabB under mg t.1 t.2) → FnG l.prog w K mg under CX k f fd [x] sp
theorem law_GT {P : Program} {w : World} {K : PySem.W.Frag} {mg mb : Str → Option Value} {CX : CXT} {k : Nat} {f p : Addr} {ts : List (Addr × Addr)} {fd : FuncData} {x : Str} {sp : Sp} {s : Shared} {us : List Value} {zs : List Int}
    (inK : K.In s.heap) (gl : s.heap.Ns mainGlobals mg) (bl : s.heap.Ns builtinsNs mb) (boot : ∀ y : Str, y ≠ "__name__" → mb y = bootBuiltins y) (lim : s.heap.NoLimit) (ng : s.gens = #[])
    (bare : ∀ t ∈ ts, s.heap.get? t.2 = some { cls := .none, data := .fields #[] }) (out : ∀ t ∈ ts, K.lookup t.2 = none) (code : ∀ t ∈ ts, PySem.W.CodeHd s.heap t.1 t.2)
    (bmod : ∃ (m : Addr) (o : Obj), mg "__builtins__" = some (.ref m) ∧ m ≠ builtinsNs ∧ s.heap.get? m = some o ∧ o.cls = .type "module" ∧ o.dict = some builtinsNs ∧ o.data = .plain)
    (script : s.heap.get? p = some { cls := .type "list", data := .seq us.toArray }) (are : IntsAre us zs) (small : zs.length ≤ sizeLine) (room : Room k callerA)
    (F : ∀ under : Heap, K.In under → under.Ns mainGlobals mg → (∀ t ∈ ts, LamX.TabB under mg t.1 t.2) → FnG P w K mg under CX k f fd [x] sp) (bound : ∀ (st : Shared) (v : Value), BindsTo st fd ⟨[v], []⟩ [(x, v)])
    (told : ∀ H : Hp, (∀ t ∈ ts, H t.2 = some (.tbl #[])) → SqL K H p (zs.map V.int) → sp [.ref p] H (fun v _ => v = .bl true) fun _ _ _ => False)
    (noX : ∀ H e st, CX [] H s (fun _ _ _ => False) e st → False) :
    codeAny (model P w) callerA (.call (.ref f) ⟨[.ref p], []⟩) (fun r st => r = .ok (.ret (.bool true)) ∧ OldK s.heap st.heap ∧ st.os = s.os ∧ AllBare st.gens) s := by
  have tabAt : ∀ c ∈ ts.map Prod.snd, s.heap.get? c = some { cls := .none, data := .fields #[] } := by
    intro c hc
    obtain ⟨t, ht, rfl⟩ := List.mem_map.mp hc
    exact bare t ht
  have inTs : ∀ {t : Addr × Addr}, t ∈ ts → t.2 ∈ ts.map Prod.snd := fun ht => List.mem_map_of_mem ht
  have pNo : ¬ p ∈ ts.map Prod.snd := by
    intro hp
    have both := (tabAt p hp).symm.trans script
    have kinds := congrArg (fun o : Option Obj => o.map Obj.cls) both
    simp at kinds
  have main : ∀ H : Hp, (∀ t ∈ ts, H t.2 = some (.tbl #[])) → (∀ c, H c = none ∨ c ∈ ts.map Prod.snd ∨ ∃ o ys, H c = some (.frz o (.lst ys))) → SqL K H p (zs.map V.int) → HOk P w H s.heap → (∀ c, H c ≠ none → c = p ∨ c ∈ ts.map Prod.snd) → (H p ≠ none → K.lookup p = none) →
      codeAny (model P w) callerA (.call (.ref f) ⟨[.ref p], []⟩) (fun r st => r = .ok (.ret (.bool true)) ∧ OldK s.heap st.heap ∧ st.os = s.os ∧ AllBare st.gens) s := by
    intro H tabs kinds list ok alone off
    have free : ∀ {c : Addr} {o : Obj}, s.heap.get? c = some o → (∀ ys m, ¬ o.data = .seq ys m) → ¬ o.data = .fields #[] → H c = none := by
      intro c o ho n1 n2
      refine Classical.byContradiction fun some_ => ?_
      rcases alone c some_ with rfl | hc
      · cases Option.some.inj (ho.symm.trans script)
        exact n1 _ _ rfl
      · cases Option.some.inj (ho.symm.trans (tabAt c hc))
        exact n2 rfl
    have names : ∀ {c : Addr} {m : Str → Option Value}, s.heap.Ns c m → (hidT s.heap H).Ns c m := by
      rintro c m ⟨o, es, ep, ho, dz, more⟩
      refine ⟨o, es, ep, hidT_get ho (free ho (fun ys j z => ?_) fun z => ?_), dz, more⟩ <;> exact Data.noConfusion (dz.symm.trans z)
    have inB : K.In (hidT s.heap H) := by
      intro c o ho
      refine hidT_get (inK c o ho) (Classical.byContradiction fun some_ => ?_)
      rcases alone c some_ with rfl | hc
      · exact absurd (ho.symm.trans (off some_)) (by simp)
      · obtain ⟨t, ht, rfl⟩ := List.mem_map.mp hc
        exact absurd (ho.symm.trans (out t ht)) (by simp)
    obtain ⟨ml, l1, l2⟩ := lim
    have mod : L2.Mod K mg (hidT s.heap H) := ⟨inB, names gl, ⟨mb, names bl, boot⟩, ⟨ml, names l1, l2⟩⟩
    have tables : ∀ t ∈ ts, LamX.TabB (hidT s.heap H) mg t.1 t.2 := by
      intro t ht
      constructor
      · obtain ⟨o, ys, file, tf, flags, tg, inF, text, tt, c1, c2, c3, c4, c5, c6, c7, c8, c9, c10⟩ := code t ht
        refine ⟨o, ys, file, tf, flags, tg, inF, text, tt, hidT_get c1 (free c1 (fun us j z => Data.noConfusion (c3.symm.trans z)) fun z => ?_), c2, c3, c4, c5, c6, c7, c8, c9, c10⟩
        have z2 := c3.symm.trans z
        cases z2
        simp at c4
      · obtain ⟨m, o, b1, b2, b3, b4, b5, b6⟩ := bmod
        refine ⟨m, o, b1, b2, fun z => ?_, fun z => ?_, hidT_get b3 (free b3 (fun us j z => Data.noConfusion (b6.symm.trans z)) fun z => Data.noConfusion (b6.symm.trans z)), b4, b5, b6⟩
        · obtain ⟨o', es, ep, ho, dz, _⟩ := gl
          subst z
          cases Option.some.inj (b3.symm.trans ho)
          exact Data.noConfusion (b6.symm.trans dz)
        · subst z
          cases Option.some.inj (b3.symm.trans (bare t ht))
          exact Data.noConfusion b6
      · intro z
        obtain ⟨o', es, ep, ho, dz, _⟩ := gl
        rw [z] at ho
        cases Option.some.inj (ho.symm.trans (bare t ht))
        exact Data.noConfusion dz
    have env : Env0 P w K mg (hidT s.heap H) callerA [] s H := { frames := rfl, mod := mod, bs := fun c o z => of_hidT z, bsz := Nat.le_of_eq (hidT_size _ _), funs := trivial, frf := (fun c hc => by cases (show c ∈ ([] : List Addr) from hc)), hok := ok, bare := .of_eq ng }
    refine codeAny_mono ((F _ inB (names gl) tables).go callerA rfl room [] s H _ [.ref p] [.ref p] _ _ env (bound s (.ref p)) (.cons rfl .nil) (told H tabs list)) fun r st z => ?_
    match r, z with
    | .error e, z => exact (noX H e st z).elim
    | .ok .next, z => exact z.elim
    | .ok .brk, z => exact z.elim
    | .ok .cont, z => exact z.elim
    | .ok (.ret u), ⟨v, H2, os, bg, un, ok2, rel, q⟩ =>
      cases (show v = V.bl true from q)
      cases (show u = Value.bool true from rel)
      have old : ∀ c o, ¬ c ∈ ts.map Prod.snd → s.heap.get? c = some o → st.heap.get? c = some o := by
        intro c o nc ho
        by_cases hc : H c = none
        · exact un.keep c o ho hc (fun m => by cases (show c ∈ ([] : List Addr) from m)) (fun m => by cases m)
        · rcases kinds c with n | n | ⟨ob, ys, fz⟩
          · exact absurd n hc
          · exact absurd n nc
          · have o1 := (ok c _ fz).1
            have o2 := (ok2 c _ (un.frzs c ob _ fz)).1
            rw [ho] at o1
            rw [Option.some.inj o1]
            exact o2
      have grown : ∀ c ∈ ts.map Prod.snd, ∃ more : Array Value, st.heap.get? c = some { cls := .none, data := .fields more } := by
        intro c hc
        obtain ⟨t, ht, rfl⟩ := List.mem_map.mp hc
        obtain ⟨more, hm⟩ := un.tbls t.2 #[] (tabs t ht)
        exact ⟨_, ok2 t.2 _ hm⟩
      refine ⟨rfl, ⟨fun c o ho => ?_, fun c o ho => ?_⟩, os, bg⟩
      · by_cases hc : c ∈ ts.map Prod.snd
        · obtain ⟨more, hm⟩ := grown c hc
          obtain ⟨t, ht, rfl⟩ := List.mem_map.mp hc
          cases Option.some.inj (ho.symm.trans (bare t ht))
          exact .inr (.inl ⟨((code t ht).tab (bare t ht)).isCodeTable, rfl, #[], more, rfl, by rw [Array.empty_append]; exact hm⟩)
        · exact .inl (old c o hc ho)
      · by_cases hc : c ∈ ts.map Prod.snd
        · obtain ⟨more, hm⟩ := grown c hc
          exact ⟨_, hm⟩
        · exact ⟨o, old c o hc ho⟩
  have rel := vals_ints are
  let base : Hp := fun c => if c ∈ ts.map Prod.snd then some (.tbl #[]) else none
  have onT : ∀ {c : Addr}, c ∈ ts.map Prod.snd → base c = some (.tbl #[]) := fun hc => if_pos hc
  have offT : ∀ {c : Addr}, ¬ c ∈ ts.map Prod.snd → base c = none := fun hc => if_neg hc
  cases hk : K.lookup p with
  | some o =>
    cases Option.some.inj ((inK p o hk).symm.trans script)
    refine main base (fun t ht => onT (inTs ht)) (fun c => ?_) (.inr ⟨_, us.toArray, _, hk, rfl, rfl, rfl, by rw [List.size_toArray, are.length]; exact small, by simpa using rel⟩) (fun c u z => ?_) (fun c z => ?_) fun z => absurd (offT pNo) z
    · rcases Classical.em (c ∈ ts.map Prod.snd) with hc | hc
      · exact .inr (.inl hc)
      · exact .inl (offT hc)
    · rcases Classical.em (c ∈ ts.map Prod.snd) with hc | hc
      · cases Option.some.inj ((onT hc).symm.trans z)
        exact tabAt c hc
      · exact absurd ((offT hc).symm.trans z) (by simp)
    · exact .inr (Classical.byContradiction fun hc => z (offT hc))
  | none =>
    let frz : HO := .frz { cls := .type "list", data := .seq us.toArray } (.lst (zs.map V.int))
    have onP : (fun c => if c = p then some frz else base c) p = some frz := if_pos rfl
    have offP : ∀ {c : Addr}, ¬ c = p → (fun c => if c = p then some frz else base c) c = base c := fun hc => if_neg hc
    refine main (fun c => if c = p then some frz else base c) (fun t ht => ?_) (fun c => ?_) (.inl (.inr ⟨_, onP⟩)) (fun c u z => ?_) (fun c z => ?_) fun _ => hk
    · refine (offP fun e => pNo ?_).trans (onT (inTs ht))
      rw [← e]
      exact inTs ht
    · rcases Classical.em (c = p) with rfl | e
      · exact .inr (.inr ⟨_, _, onP⟩)
      · rcases Classical.em (c ∈ ts.map Prod.snd) with hc | hc
        · exact .inr (.inl hc)
        · exact .inl ((offP e).trans (offT hc))
    · rcases Classical.em (c = p) with rfl | e
      · cases Option.some.inj (onP.symm.trans z)
        exact ⟨script, by rw [List.length_map]; exact small, us, _, rel, script⟩
      · have z := (offP e).symm.trans z
        rcases Classical.em (c ∈ ts.map Prod.snd) with hc | hc
        · cases Option.some.inj ((onT hc).symm.trans z)
          exact tabAt c hc
        · exact absurd ((offT hc).symm.trans z) (by simp)
    · rcases Classical.em (c = p) with e | e
      · exact .inl e
      · exact .inr (Classical.byContradiction fun hc => z ((offP e).trans (offT hc)))
theorem walk_GT {l : PySem.W.OpenLaw} {n k : Nat} {q : Program} {loose : List Str} {XP : (Str → Option Value) → Heap → Prop} {YP : World → Heap → Prop} {d : DefRec} {CX : World → CXT} {x : Str}
    (most : l.most = some n) (small : n ≤ sizeLine) (nodef : d.params.defaults = []) (room : Room k callerA)
    (F : ∀ (w : World) (mg : Str → Option Value) (f : Addr) (top : Heap), YP w top → top.Ns mainGlobals mg → mg d.name = some (.ref f) → ∃ K : PySem.W.Frag, K.In top ∧ LawAtG l w K (CX w) k n x mg f top)
    (noX : ∀ (w : World) (H : Hp) (s : Shared) (e : Value) (st : Shared), CX w [] H s (fun _ _ _ => False) e st → False) :
    PySem.W.WalkO q loose XP YP l.row.toRowW d [] (fun f vs => PySem.call f vs) := by
  refine Att.attach_callB most nodef fun w s0 s mg mb f o pm cd doc p us zs G Y ho hd hcd named script are few bits ng => ?_
  obtain ⟨K, inK, fd, ts, sp, bare, out, code, bound, told, FG⟩ := F w mg f _ Y G.T.g named
  exact law_GT inK G.T.g G.T.b G.T.builtins G.T.nolimit ng bare out code G.T.bmain script are (Nat.le_trans few small) room FG bound (fun H tabs list => told H p zs few bits tabs list) fun H e st => noX w H s e st

/-! ### data made by the law or the program: numbers, truths, texts, lists and tuples of these -/
mutual
inductive Tk (H : Hp) : V → PyData → Prop
  | bl (b : Bool) : Tk H (.bl b) (.bool b)
  | int (i : Int) : Tk H (.int i) (.int i)
  | str (x : Str) : Tk H (.str x) (.str x)
  | lst {a : Addr} {xs : List V} {ds : List PyData} : H a = some (.lst xs) → TkAll H xs ds → Tk H (.ref a) (.list ds)
  | tup {a : Addr} {xs : List V} {ds : List PyData} : H a = some (.tup xs) → TkAll H xs ds → Tk H (.ref a) (.tuple ds)
inductive TkAll (H : Hp) : List V → List PyData → Prop
  | nil : TkAll H [] []
  | cons {v : V} {vs : List V} {d : PyData} {ds : List PyData} : Tk H v d → TkAll H vs ds → TkAll H (v :: vs) (d :: ds)
end
theorem TkAll.length {H : Hp} : ∀ {vs : List V} {ds : List PyData}, TkAll H vs ds → vs.length = ds.length
  | _, _, .nil => rfl
  | _, _, .cons _ t => by rw [List.length_cons, List.length_cons, t.length]
mutual
theorem Tk.same {H H' : Hp} (s : Same H H') : ∀ {v : V} {d : PyData}, Tk H v d → Tk H' v d
  | _, _, .bl b => .bl b
  | _, _, .int i => .int i
  | _, _, .str x => .str x
  | _, _, .lst h t => .lst (s _ _ h) (t.same s)
  | _, _, .tup h t => .tup (s _ _ h) (t.same s)
theorem TkAll.same {H H' : Hp} (s : Same H H') : ∀ {vs : List V} {ds : List PyData}, TkAll H vs ds → TkAll H' vs ds
  | _, _, .nil => .nil
  | _, _, .cons h t => .cons (h.same s) (t.same s)
end
theorem TkAll.get {H : Hp} : ∀ {xs : List V} {ds : List PyData} {j : Nat} {x : V}, TkAll H xs ds → xs[j]? = some x → ∃ d, ds[j]? = some d ∧ Tk H x d
  | _, _, _, _, .nil, h => by simp at h
  | _, _, 0, _, .cons (d := d) a _, h => by
    cases (Option.some.inj h)
    exact ⟨d, rfl, a⟩
  | _, _, j + 1, _, .cons _ t, h => t.get h
theorem TkAll.append {H : Hp} : ∀ {xs ys : List V} {ds es : List PyData}, TkAll H xs ds → TkAll H ys es → TkAll H (xs ++ ys) (ds ++ es)
  | _, _, _, _, .nil, t => t
  | _, _, _, _, .cons a r, t => .cons a (r.append t)
theorem TkAll.ints {H : Hp} : ∀ ns : List Int, TkAll H (ns.map V.int) (ns.map PyData.int)
  | [] => .nil
  | n :: r => .cons (.int n) (TkAll.ints r)
theorem Tk.int_inv {H : Hp} {v : V} {i : Int} (h : Tk H v (.int i)) : v = .int i := by cases h; rfl
theorem Tk.tup_inv {H : Hp} {v : V} {ds : List PyData} (h : Tk H v (.tuple ds)) : ∃ a xs, v = .ref a ∧ H a = some (.tup xs) ∧ TkAll H xs ds := by
  cases h with
  | tup h t => exact ⟨_, _, rfl, h, t⟩
theorem Tk.lst_inv {H : Hp} {v : V} {ds : List PyData} (h : Tk H v (.list ds)) : ∃ a xs, v = .ref a ∧ H a = some (.lst xs) ∧ TkAll H xs ds := by
  cases h with
  | lst h t => exact ⟨_, _, rfl, h, t⟩
theorem TkAll.int_inv {H : Hp} : ∀ {vs : List V} {ns : List Int}, TkAll H vs (ns.map PyData.int) → vs = ns.map V.int
  | _, [], .nil => rfl
  | _, n :: r, .cons h t => by rw [List.map_cons, h.int_inv, t.int_inv]
/-- heaps without one place -/
def hd1 (p : Addr) (H : Hp) : Hp := fun b => if b = p then none else H b
theorem hd1_le {p : Addr} {H : Hp} : Same (hd1 p H) H := fun b o e => by
  unfold hd1 at e
  by_cases h : b = p
  · rw [if_pos h] at e; cases e
  · rw [if_neg h] at e; exact e
theorem hd1_same {p : Addr} {H H' : Hp} (s : Same H H') : Same (hd1 p H) (hd1 p H') := fun b o e => by
  unfold hd1 at e ⊢
  by_cases h : b = p
  · rw [if_pos h] at e; cases e
  · rw [if_neg h] at e ⊢; exact s _ _ e
theorem hd1_upd {p : Addr} {H : Hp} {o : HO} : Same (hd1 p H) (hd1 p (upd H p o)) := fun b x e => by
  unfold hd1 at e ⊢
  by_cases h : b = p
  · rw [if_pos h] at e; cases e
  · rw [if_neg h] at e ⊢; rw [upd_ne h]; exact e
theorem hd1_at {p b : Addr} {H : Hp} (h : b ≠ p) : hd1 p H b = H b := if_neg h
theorem hd1_of {p : Addr} {H H' : Hp} (s : Same H H') (n : H p = none) : Same H (hd1 p H') := fun b o e => by
  rw [hd1_at (ne_of_none e n)]
  exact s _ _ e
theorem same_of_hd1 {p : Addr} {H H' : Hp} {o : HO} (s : Same H (hd1 p H')) : Same H (upd H' p o) := fun b x e => by
  have z := s b x e
  unfold hd1 at z
  by_cases h : b = p
  · rw [if_pos h] at z; cases z
  · rw [if_neg h] at z; rw [upd_ne h]; exact z

/-! ### tables and gates -/
def tabOf (bs : List Bool) : Str := ⟨(bs.map fun b => if b = true then 49 else 48).toArray⟩
def plc (ws : List Int) : Int := ws.foldl (fun p w => 2 * p + w) 0
def gateM (bs : List Bool) (ws : List Int) : Int := if bs.getD (plc ws).toNat false = true then 1 else 0
theorem plc_snoc (ws : List Int) (w : Int) : plc (ws ++ [w]) = 2 * plc ws + w := by
  unfold plc
  rw [List.foldl_append]
  rfl
theorem plc_take {ws : List Int} {i : Nat} {u : Int} (h : ws[i]? = some u) : plc (ws.take (i + 1)) = 2 * plc (ws.take i) + u := by
  rw [List.take_add_one, h]
  exact plc_snoc _ _
theorem plc_bd : ∀ (n : Nat) (ws : List Int), ws.length = n → (∀ w ∈ ws, w = 0 ∨ w = 1) → 0 ≤ plc ws ∧ plc ws < 2 ^ n := by
  intro n
  induction n with
  | zero =>
    intro ws h _
    cases List.eq_nil_of_length_eq_zero h
    decide
  | succ n ih =>
    intro ws h hw
    have hne : ws ≠ [] := fun z => by rw [z] at h; cases h
    obtain ⟨r, x, rfl⟩ : ∃ r x, ws = r ++ [x] := ⟨ws.dropLast, ws.getLast hne, (List.dropLast_concat_getLast hne).symm⟩
    have hr := ih r (by rw [List.length_append] at h; simpa using h) fun w h' => hw w (List.mem_append_left _ h')
    have hx := hw x (by simp)
    rw [plc_snoc, Int.pow_succ]
    omega
theorem gate01 (bs : List Bool) (ws : List Int) : gateM bs ws = 0 ∨ gateM bs ws = 1 := by
  unfold gateM
  split
  · exact .inr rfl
  · exact .inl rfl
theorem int_sign (b : Bool) : PySem.intText? ⟨#[if b = true then 49 else 48]⟩ = some (if b = true then 1 else 0) := by
  cases b <;> decide +kernel
def spGate (K : PySem.W.Frag) : Sp := fun vs H Q _ => ∃ (bs : List Bool) (la : Addr) (ws : List Int), vs = [.str (tabOf bs), .ref la] ∧ SqL K H la (ws.map V.int) ∧ (∀ w ∈ ws, w = 0 ∨ w = 1) ∧ bs.length = 2 ^ ws.length ∧ ws.length ≤ 3 ∧ Q (.int (gateM bs ws)) H
theorem gate_read {bs : List Bool} {ws : List Int} (hw : ∀ w ∈ ws, w = 0 ∨ w = 1) (hb : bs.length = 2 ^ ws.length) (h3 : ws.length ≤ 3) : ∃ b : Bool, 0 ≤ plc ws ∧ plc ws < 2 ^ 63 ∧ plc ws < (tabOf bs).length ∧ (tabOf bs).cps[(plc ws).toNat]? = some (if b = true then 49 else 48) ∧ gateM bs ws = if b = true then 1 else 0 := by
  obtain ⟨p0, p1⟩ := plc_bd _ ws rfl hw
  have p8 : plc ws < 8 := by
    have : (2 : Int) ^ ws.length ≤ 8 := by
      have : ws.length = 0 ∨ ws.length = 1 ∨ ws.length = 2 ∨ ws.length = 3 := by omega
      rcases this with h | h | h | h <;> rw [h] <;> decide
    omega
  have hlt : (plc ws).toNat < bs.length := by
    have : ((2 ^ ws.length : Nat) : Int) = (2 : Int) ^ ws.length := by simp
    omega
  refine ⟨bs[(plc ws).toNat], p0, by omega, ?_, ?_, ?_⟩
  · have : (tabOf bs).length = bs.length := by simp [tabOf, Str.length]
    rw [this]
    omega
  · simp [tabOf, List.getElem?_eq_getElem hlt]
  · unfold gateM
    rw [List.getD_eq_getElem?_getD, List.getElem?_eq_getElem hlt]
    rfl

/-! ### walks -/
theorem gx_tup {α : Type} {K : PySem.W.Frag} {a : Addr} {xs : List V} {g : TG} {tt : TT} {te : TE} {vs : List Nat} {σ0 : L2.St} {End : α → Hp → Prop} {Yd : α → V → Hp → (α → Hp → Prop) → Prop} {a0 : α} {H0 : Hp} (Pv : Nat → α → Hp → Prop) (h0 : Pv 0 a0 H0)
    (hl : ∀ i c H, i ≤ xs.length → Pv i c H → SqT K H a xs)
    (hs : ∀ i x c H, xs[i]? = some x → Pv i c H → g x σ0 H fun σ2 H2 => wipe σ2 vs = σ0 ∧ tt σ2 H2 fun b H3 => if b = true then te σ2 H3 fun y H4 => Yd c y H4 (Pv (i + 1)) else Pv (i + 1) c H3) (hd : ∀ c H, Pv xs.length c H → End c H) :
    ∃ W : Nat → Nat → α → Hp → Prop, (∃ m, W 0 m a0 H0) ∧ tGx (Itt K a) g tt te σ0 vs End Yd W := by
  refine ⟨fun i m c H => m = xs.length - i ∧ i ≤ xs.length ∧ Pv i c H, ⟨xs.length, rfl, Nat.zero_le _, h0⟩, ?_⟩
  rintro i m c H ⟨rfl, hi, p⟩
  by_cases hlt : i < xs.length
  · have hx : xs[i]? = some xs[i] := List.getElem?_eq_getElem hlt
    refine .inr ⟨⟨xs, xs[i], hl i c H hi p, hx⟩, Pv (i + 1), fun c' H' p' => ⟨xs.length - (i + 1), by omega, rfl, hlt, p'⟩, fun x H' y => ?_⟩
    obtain ⟨rfl, y⟩ := y
    exact hs i x c _ (y xs (hl i c _ hi p)) p
  · have e : i = xs.length := by omega
    subst e
    exact .inl ⟨⟨xs, hl _ c H hi p, Nat.le_refl _⟩, hd c H p⟩
theorem lc_zipT {K : PySem.W.Frag} {a b : Addr} {xs ys : List V} {g : TG} {tt : TT} {te : TE} {vs : List Nat} {σ : L2.St} {H1 : Hp} {D : Addr} {Qd : Hp → Prop} (el : xs.length = ys.length) (Pv : Nat → Hp → Prop) (h0 : Pv 0 (upd H1 D (.lst []))) (hl : ∀ i H, i ≤ xs.length → Pv i H → SqT K H a xs ∧ SqT K H b ys)
    (hs : ∀ i x y T H, xs[i]? = some x → ys[i]? = some y → H T = none → Pv i H → g (.ref T) (wipe σ vs) (upd H T (.tup [x, y])) fun σ2 H2 => wipe σ2 vs = wipe σ vs ∧ tt σ2 H2 fun b H3 =>
      if b = true then te σ2 H3 fun y H4 => ∃ acc, H4 D = some (.lst acc) ∧ acc.length < sizeLine ∧ Pv (i + 1) (upd H4 D (.lst (acc ++ [y]))) else Pv (i + 1) H3) (hd : ∀ H, Pv xs.length H → Qd H) :
    ∃ W : Nat → Nat → Hp → Prop, (∃ m, W 0 m (upd H1 D (.lst []))) ∧ ∀ i m H, W i m H →
      ((RZ.ItzT K a b).stop i H ∧ Qd H) ∨ ((RZ.ItzT K a b).go i H ∧ ∃ Nx : Hp → Prop, (∀ H', Nx H' → ∃ m', m' < m ∧ W (i + 1) m' H') ∧ ∀ x H', (RZ.ItzT K a b).yld i H x H' → g x (wipe σ vs) H' fun σ2 H2 => wipe σ2 vs = wipe σ vs ∧ tt σ2 H2 fun b H3 =>
        if b = true then te σ2 H3 fun y H4 => ∃ acc, H4 D = some (.lst acc) ∧ acc.length < sizeLine ∧ Nx (upd H4 D (.lst (acc ++ [y]))) else Nx H3) := by
  refine ⟨fun i m H => m = xs.length - i ∧ i ≤ xs.length ∧ Pv i H, ⟨xs.length, by simp, Nat.zero_le _, h0⟩, ?_⟩
  rintro i m H ⟨rfl, hi, p⟩
  obtain ⟨qx, qy⟩ := hl i H hi p
  by_cases hlt : i < xs.length
  · have hx : xs[i]? = some xs[i] := List.getElem?_eq_getElem hlt
    have hy : ys[i]? = some (ys[i]'(by omega)) := List.getElem?_eq_getElem _
    refine .inr ⟨⟨xs, ys, _, _, qx, qy, hx, hy⟩, Pv (i + 1), fun H' p' => ⟨xs.length - (i + 1), by omega, rfl, hlt, p'⟩, fun x H' y => ?_⟩
    obtain ⟨T, x1, y1, rfl, nT, rfl, e1, e2⟩ := y
    exact hs i x1 y1 T H (e1 xs qx) (e2 ys qy) nT p
  · have e : i = xs.length := by omega
    subst e
    exact .inl ⟨⟨xs, ys, qx, qy, .inl (Nat.le_refl _)⟩, hd H p⟩

/-! ### nets, and the words of nets -/
abbrev Gt := List Bool × List Nat
def gD (g : Gt) : PyData := .tuple [.str (tabOf g.1), .tuple ((g.2.map Int.ofNat).map PyData.int)]
def netD (many : Int) (gs : List Gt) : PyData := .tuple [.int many, .tuple (gs.map gD)]
def rowD (r : List Int) : PyData := .tuple (r.map PyData.int)
def chD (a b : List Int) : PyData := .tuple [rowD a, rowD b]
def GtOk (n : Nat) (g : Gt) : Prop := g.1.length = 2 ^ g.2.length ∧ 1 ≤ g.2.length ∧ g.2.length ≤ 3 ∧ ∀ i ∈ g.2, i < n
def NetOk (n : Nat) (gs : List Gt) : Prop := ∀ k g, gs[k]? = some g → GtOk (n + k) g
def Row01 (r : List Int) : Prop := ∀ x ∈ r, x = 0 ∨ x = 1
mutual
theorem Tk.gr {H H' : Hp} (s : Gr H H') : ∀ {v : V} {d : PyData}, Tk H v d → Tk H' v d
  | _, _, .bl b => .bl b
  | _, _, .int i => .int i
  | _, _, .str x => .str x
  | _, _, .lst h t => .lst (s.lst h) (t.gr s)
  | _, _, .tup h t => .tup (s.tup h) (t.gr s)
theorem TkAll.gr {H H' : Hp} (s : Gr H H') : ∀ {vs : List V} {ds : List PyData}, TkAll H vs ds → TkAll H' vs ds
  | _, _, .nil => .nil
  | _, _, .cons h t => .cons (h.gr s) (t.gr s)
end
theorem Tk.row_inv {H : Hp} {v : V} {r : List Int} (h : Tk H v (rowD r)) : ∃ a, v = .ref a ∧ H a = some (.tup (r.map V.int)) := by
  obtain ⟨a, xs, rfl, ha, t⟩ := h.tup_inv
  rw [t.int_inv] at ha
  exact ⟨a, rfl, ha⟩
theorem Tk.ch_inv {H : Hp} {v : V} {a b : List Int} (h : Tk H v (chD a b)) : ∃ c ra rb, v = .ref c ∧ H c = some (.tup [.ref ra, .ref rb]) ∧ H ra = some (.tup (a.map V.int)) ∧ H rb = some (.tup (b.map V.int)) := by
  obtain ⟨c, xs, rfl, hc, t⟩ := h.tup_inv
  cases t with
  | cons h1 t => cases t with
    | cons h2 t =>
      cases t
      obtain ⟨ra, rfl, ha⟩ := h1.row_inv
      obtain ⟨rb, rfl, hb⟩ := h2.row_inv
      exact ⟨c, ra, rb, rfl, hc, ha, hb⟩
theorem Tk.net_inv {H : Hp} {v : V} {m : Int} {gs : List Gt} (h : Tk H v (netD m gs)) : ∃ n g xs, v = .ref n ∧ H n = some (.tup [.int m, .ref g]) ∧ H g = some (.tup xs) ∧ TkAll H xs (gs.map gD) := by
  obtain ⟨n, xs, rfl, hn, t⟩ := h.tup_inv
  cases t with
  | cons h1 t => cases t with
    | cons h2 t =>
      cases t
      cases h1
      obtain ⟨g, ys, rfl, hg, t2⟩ := h2.tup_inv
      exact ⟨n, g, ys, rfl, hn, hg, t2⟩
theorem Tk.gt_inv {H : Hp} {v : V} {g : Gt} (h : Tk H v (gD g)) : ∃ a i, v = .ref a ∧ H a = some (.tup [.str (tabOf g.1), .ref i]) ∧ H i = some (.tup ((g.2.map Int.ofNat).map V.int)) := by
  obtain ⟨a, xs, rfl, ha, t⟩ := h.tup_inv
  cases t with
  | cons h1 t => cases t with
    | cons h2 t =>
      cases t
      cases h1
      obtain ⟨i, rfl, hi⟩ := (show Tk H _ (rowD (g.2.map Int.ofNat)) from h2).row_inv
      exact ⟨a, i, rfl, ha, hi⟩
theorem TkAll.at {H : Hp} {α : Type} {f : α → PyData} {xs : List V} {ds : List α} (t : TkAll H xs (ds.map f)) {j : Nat} {v : V} (h : xs[j]? = some v) : ∃ x, ds[j]? = some x ∧ Tk H v (f x) := by
  obtain ⟨dx, hdx, tx⟩ := t.get h
  rw [List.getElem?_map] at hdx
  cases hz : ds[j]? with
  | none => rw [hz] at hdx; cases hdx
  | some x =>
    rw [hz] at hdx
    cases Option.some.inj hdx
    exact ⟨x, rfl, tx⟩
theorem TkAll.at' {H : Hp} {α : Type} {f : α → PyData} {xs : List V} {ds : List α} (t : TkAll H xs (ds.map f)) {j : Nat} {x : α} (h : ds[j]? = some x) : ∃ v, xs[j]? = some v ∧ Tk H v (f x) := by
  have hl := t.length
  rw [List.length_map] at hl
  have hj := (List.getElem?_eq_some_iff.mp h).1
  obtain ⟨y, hy, ty⟩ := t.at (List.getElem?_eq_getElem (l := xs) (i := j) (by omega))
  cases Option.some.inj (h.symm.trans hy)
  exact ⟨_, List.getElem?_eq_getElem _, ty⟩
theorem grow_upd {H H' : Hp} {p : Addr} {o : HO} (g : Gr H H') (n : H' p = none) : Gr H (upd H' p o) := g.trans (Gr.none n)
/-- no table, no older list: only the list at D is written -/
def GrD (D : Addr) (H H' : Hp) : Prop := Gr H (hd1 D H')
theorem GrD.gr {D : Addr} {H H' : Hp} (g : GrD D H H') : Gr H H' := g.trans (Gr.of hd1_le)
theorem TabG_hd1 {D P : Addr} {H : Hp} (h : GxR.TabG H P) (n : D ≠ P) : GxR.TabG (hd1 D H) P := by
  obtain ⟨ps, e, t⟩ := h
  exact ⟨ps, by rw [hd1_at (Ne.symm n)]; exact e, t⟩
theorem GrD.new {D : Addr} {H : Hp} {o : HO} (n : H D = none) : GrD D H (upd H D o) := Gr.of (hd1_of (same_upd n) n)
theorem hd1_gr {D : Addr} {H H' : Hp} (g : Gr H H') (hD : ∀ P, GxR.TabG H P → D ≠ P) : Gr (hd1 D H) (hd1 D H') := by
  refine ⟨fun b o n e => ?_, fun b t => ?_⟩
  · have hb : b ≠ D := fun z => by
      unfold hd1 at e
      rw [if_pos z] at e; cases e
    rw [hd1_at hb] at e ⊢
    exact g.1 b o n e
  · obtain ⟨ps, e, t⟩ := t
    have e' := hd1_le _ _ e
    exact TabG_hd1 (g.2 b ⟨ps, e', t⟩) (hD b ⟨ps, e', t⟩)
theorem GrD.then {D : Addr} {H H1 H2 : Hp} {xs : List V} (a : GrD D H H1) (hD : H1 D = some (.lst xs)) (b : Gr H1 H2) : GrD D H H2 := a.trans (hd1_gr b fun P ⟨ps, e, _⟩ z => by
  rw [← z, hD] at e
  cases e)
theorem GrD.set {D : Addr} {H H1 : Hp} {o : HO} (a : GrD D H H1) : GrD D H (upd H1 D o) := a.trans (Gr.of hd1_upd)

end Gk

set_option Elab.async false
set_option linter.all false
set_option maxRecDepth 100000
set_option maxHeartbeats 1000000
set_option pp.maxSteps 1500
set_option pp.deepTerms false
namespace Gk
open PySem PySem.Spec PyProof.Rows L2
section
variable {P : Program} {w : World} {K : PySem.W.Frag} {mg : Str → Option Value} {base : Heap}
/-! ### a generator expression with two fors: the inner iterator lies among the things known while the asker goes on -/
section
variable {X : Cx} {pins : List (Addr × Obj)} {σ : L2.St} {H : Hp} {s : Shared}
theorem inv_around {A2 : Around} (I : Inv X pins σ H s) (h1 : A2.handled = none) (h2 : A2.frames = some X.stack) : Inv { X with A := A2 } pins σ H s :=
  ⟨⟨I.ok.mod, I.ok.kind, I.ok.glob, I.ok.blt, I.ok.above, I.ok.inj, I.ok.has, I.ok.cab, fun _ => h1, h2, I.ok.stk, I.ok.exf, I.ok.bs, I.ok.bsz, I.ok.noex, I.ok.exfs, I.ok.funs, I.ok.frf⟩, I.os, I.bare, I.base, I.loc, I.cell, I.free, I.freeC, I.pin, I.hok, I.len⟩
def layAt (fp : List Addr) (h0 : Heap) (H : Hp) : Hp := fun b => if b ∈ fp then some (.ext fun h => ∃ o, h0.get? b = some o ∧ h.get? b = some o) else H b
theorem layAt_in {fp : List Addr} {h0 : Heap} {b : Addr} (h : b ∈ fp) : layAt fp h0 H b = some (.ext fun h => ∃ o, h0.get? b = some o ∧ h.get? b = some o) := if_pos h
theorem layAt_out {fp : List Addr} {h0 : Heap} {b : Addr} (h : b ∉ fp) : layAt fp h0 H b = H b := if_neg h
theorem layAt_same {fp : List Addr} {h0 : Heap} (hn : ∀ b ∈ fp, H b = none) : ∀ b o, H b = some o → layAt fp h0 H b = some o := fun b o e => by
  rw [layAt_out fun z => by rw [hn b z] at e; cases e]
  exact e
theorem inv_lay {fp : List Addr} (I : Inv X pins σ H s) (hf : ∀ b ∈ fp, FpOk X pins H b) (ho : ∀ b ∈ fp, ∃ o, s.heap.get? b = some o ∧ ∀ v, o.data ≠ .cell v) : Inv X pins σ (layAt fp s.heap H) s := by
  have neH : ∀ {b o}, H b = some o → b ∉ fp := fun e z => by rw [(hf _ z).1] at e; cases e
  refine ⟨I.ok, I.os, I.bare, ⟨I.base.keep, I.base.slot, fun b o q n hx => ?_, I.base.there, fun b xs q => ?_, fun b o u q => ?_, fun b ps q => ?_⟩, I.loc, I.cell, ?_, fun x c hx => ?_, fun p hp => ?_, fun b u q => ?_, I.len⟩
  · rw [layAt_out fun z => ?_]
    · exact I.base.free b o q n hx
    · rcases (hf b z).2.2.2.1 with r | r
      · exact hx r
      · exact absurd (Nat.lt_of_lt_of_le (Heap.lt_size q) r) (Nat.lt_irrefl _)
  · have w := I.base.tups b xs q
    rw [layAt_out (neH w)]
    exact w
  · have w := I.base.frzs b o u q
    rw [layAt_out (neH w)]
    exact w
  · obtain ⟨m, w⟩ := I.base.tbls b ps q
    exact ⟨m, by rw [layAt_out (neH w)]; exact w⟩
  · rw [layAt_out fun z => (hf _ z).2.1 rfl]
    exact I.free
  · rw [layAt_out fun z => (hf _ z).2.2.2.2.1 x c hx rfl]
    exact I.freeC x c hx
  · obtain ⟨p1, p2, p3⟩ := I.pin p hp
    exact ⟨p1, by rw [layAt_out fun z => (hf _ z).2.2.2.2.2 p hp rfl]; exact p2, p3⟩
  · by_cases hb : b ∈ fp
    · rw [layAt_in hb] at q
      cases q
      obtain ⟨o, e, _⟩ := ho b hb
      exact ⟨⟨o, e, e⟩, ⟨o, e⟩, fun _ _ ⟨o, a1, a2⟩ k => ⟨o, a1, k o a2⟩⟩
    · rw [layAt_out hb] at q
      exact (I.hok b u q).stay (fun c v _ w => w) (fun c w => by rw [layAt_out (neH w)]; exact w) fun c xs w => by rw [layAt_out (neH w)]; exact w
theorem inv_unlay {fp : List Addr} {h0 : Heap} (I : Inv X pins σ (layAt fp h0 H) s) (hn : ∀ b ∈ fp, H b = none) (h0o : ∀ b ∈ fp, ∃ o, h0.get? b = some o) :
    Inv X pins σ H s ∧ (∀ b ∈ fp, ∀ o, h0.get? b = some o → s.heap.get? b = some o) ∧ ∀ b ∈ fp, ∀ p ∈ X.pn ++ pins, p.1 ≠ b := by
  have to : ∀ {b}, layAt fp h0 H b = none → H b = none := fun {b} e => by
    by_cases hb : b ∈ fp
    · exact hn b hb
    · rw [layAt_out hb] at e; exact e
  have tos : ∀ {b o}, layAt fp h0 H b = some o → (∀ φ, o ≠ .ext φ) → H b = some o := fun {b o} e ne => by
    by_cases hb : b ∈ fp
    · rw [layAt_in hb] at e
      exact absurd (Option.some.inj e).symm (ne _)
    · rw [layAt_out hb] at e; exact e
  refine ⟨⟨I.ok, I.os, I.bare, ⟨I.base.keep, I.base.slot, fun b o q n hx => to (I.base.free b o q n hx), I.base.there, fun b xs q => tos (I.base.tups b xs q) (fun _ z => by cases z), fun b o u q => tos (I.base.frzs b o u q) (fun _ z => by cases z), fun b ps q => ?_⟩, I.loc, I.cell, to I.free, fun x c hx => to (I.freeC x c hx), fun p hp => ?_, fun b u q => ?_, I.len⟩, fun b hb o e => ?_, fun b hb p hp z => ?_⟩
  · obtain ⟨m, w⟩ := I.base.tbls b ps q
    exact ⟨m, tos w (fun _ z => by cases z)⟩
  · obtain ⟨p1, p2, p3⟩ := I.pin p hp
    exact ⟨p1, to p2, p3⟩
  · have hb : b ∉ fp := fun z => by rw [hn b z] at q; cases q
    exact (I.hok b u (by rw [layAt_out hb]; exact q)).stay (fun c v _ w => w) (fun c w => tos w (fun _ z => by cases z)) fun c xs w => tos w (fun _ z => by cases z)
  · obtain ⟨⟨o', e1, e2⟩, _⟩ := I.hok b _ (layAt_in hb)
    rw [e] at e1
    cases e1
    exact e2
  · have q := (I.pin p hp).2.1
    rw [z, layAt_in hb] at q
    cases q
end
theorem compTurn_gen2_out (elt t1 it1 t2 it2 : Expr) (scope : Scope) (pos : Pos) (it acc : Value) (env : Env) :
    compTurn (.GeneratorExp elt [⟨t1, it1, [], 0⟩, ⟨t2, it2, [], 0⟩] scope pos) 0 it acc env = (do
      standAt it1.pos
      match ← pyNext it with
      | none => pure (.done .next)
      | some v =>
        letOwnedTupleGo t1 it v
        assign t1 env v
        let x ← eval it2 env
        standAt it2.pos
        let x ← foldedSetIterable it2 env x
        let y ← holding [x] (pyIter x)
        let _ ← runOwn (.compStart (.GeneratorExp elt [⟨t1, it1, [], 0⟩, ⟨t2, it2, [], 0⟩] scope pos) 1 y acc env) env
        again (.compLoop (.GeneratorExp elt [⟨t1, it1, [], 0⟩, ⟨t2, it2, [], 0⟩] scope pos) 0 it acc env)) := by rfl
theorem compTurn_gen2_in (elt t1 it1 t2 it2 : Expr) (scope : Scope) (pos : Pos) (it acc : Value) (env : Env) :
    compTurn (.GeneratorExp elt [⟨t1, it1, [], 0⟩, ⟨t2, it2, [], 0⟩] scope pos) 1 it acc env = (do
      standAt it2.pos
      match ← pyNext it with
      | none => pure (.done .next)
      | some v =>
        letOwnedTupleGo t2 it v
        assign t2 env v
        (do let v ← eval elt env; standAt elt.pos; let _ ← yieldOut env v)
        again (.compLoop (.GeneratorExp elt [⟨t1, it1, [], 0⟩, ⟨t2, it2, [], 0⟩] scope pos) 1 it acc env)) := by rfl
section
variable {α : Type}
/-- the turns of two fors: W ahead of an outer one, V ahead of an inner one; the numbers fall -/
def tGx2 (J : It) (g1 : TG) (wi2 : TI) (g2 : TG) (te : TE) (σ0 : L2.St) (vs vs2 : List Nat) (End : α → Hp → Prop) (Yd : α → V → Hp → (α → Hp → Prop) → Prop) (W : Nat → Nat → α → Hp → Prop) : Prop :=
  ∀ i m a H, W i m a H → (J.stop i H ∧ End a H) ∨ (J.go i H ∧ ∀ x H', J.yld i H x H' → g1 x σ0 H' fun σ2 H2 => wipe σ2 vs = σ0 ∧ wi2 σ2 H2 fun J2 H3 => ∃ V : Nat → Nat → α → Hp → Prop, (∃ m2, m2 < m ∧ V 0 m2 a H3) ∧
    ∀ k m2 a H, V k m2 a H → (J2.stop k H ∧ ∃ m', m' < m2 ∧ W (i + 1) m' a H) ∨ (J2.go k H ∧ ∀ x H', J2.yld k H x H' → g2 x σ2 H' fun σ4 H4 => wipe σ4 vs2 = σ2 ∧ te σ4 H4 fun y H5 => ∀ H6, (∀ b o, H5 b = some o → H6 b = some o) → Yd a y H6 fun a' _ => ∃ m', m' < m2 ∧ V (k + 1) m' a' H5))
end

section
variable {α : Type}
/-- what a frame that waits hands back to the loop behind it -/
theorem seg_gx2_in {X : Cx} {A A' A2 : Around} {s_0 : Shared} {H_0 : Hp} {elt t1 it1 t2 it2 : Expr} {scope : Scope} {pos : Pos} {M : Nat} {I2 : Addr} {fp fp2 : List Addr} {tn tn2 : Nat → Heap → Prop} {J2 : It} {cenv : Env} {g2 : TG} {te : TE} {σ0 σ2 : L2.St} {vs vs2 : List Nat} {i : Nat} {F : Frame}
    {AC : α → List (Addr × Obj) → Prop} {End : α → Hp → Prop} {Yd : α → V → Hp → (α → Hp → Prop) → Prop} {W : Nat → α → Hp → Prop} {V' : Nat → Nat → α → Hp → Prop}
    (hA2 : A.over (.compLoop (.GeneratorExp elt [⟨t1, it1, [], 0⟩, ⟨t2, it2, [], 0⟩] scope pos) 1 (.ref I2) .none cenv) [F] = A2) (h2 : A2.handled = none) (hfr2 : A2.frames = some (cenv :: X.stack)) (h1 : A'.handled = none) (hfr1 : A'.frames = some (cenv :: X.stack)) (hF1 : splitAtGen [F] = none) (hF2 : [F].any Frame.guarded = false) (hc : X.calm = true) (hco : cenv.scope.isCoroutine = false)
    (obj : ∀ i h, tn i h → ∀ b ∈ fp, ∃ o, h.get? b = some o ∧ ∀ v, o.data ≠ .cell v) (keep : ∀ i h h', tn i h → (∀ b ∈ fp, ∀ o, h.get? b = some o → h'.get? b = some o) → tn i h')
    (T2 : Turn X.prog X.w X.K t2 J2 fp2 I2 tn2) (pg : PG (gblk X A2 s_0 H_0 cenv fp) t2 g2) (pe : PE (gblk X A2 s_0 H_0 cenv fp) elt te)
    (hAC : ∀ a cp, AC a cp → ∀ p ∈ cp, ∀ b ∈ fp, p.1 ≠ b) (st2 : ∀ b ∈ fp2, b ≠ cenv.locals ∧ b ∉ (gblk X A2 s_0 H_0 cenv fp).fs ∧ (b ∈ fp ∨ s_0.heap.objs.size ≤ b) ∧ (∀ x c, cenv.cells.lookup x = some c → c ≠ b)) (dis : ∀ b ∈ fp2, b ∉ fp) (hl : σ0.length = σ2.length) (hw : wipe σ2 vs = σ0)
    (outer : ∀ (m n : Nat) (a : α) (H : Hp) (s₀ s : Shared) (cp : List (Addr × Obj)), m < M → m < n → W m a H → AC a cp → (∀ p ∈ cp, s₀.heap.get? p.1 = some p.2) → Inv (gblk X A' s_0 H_0 cenv fp) cp σ0 H s → tn (i + 1) s.heap → (∀ b ∈ fp, H b = none) →
      Seg (model X.prog X.w) A (RG (gblk X A' s_0 H_0 cenv fp) AC End) (YG (gblk X A' s_0 H_0 cenv fp) fp tn AC Yd) n s₀
        (.compLoop (.GeneratorExp elt [⟨t1, it1, [], 0⟩, ⟨t2, it2, [], 0⟩] scope pos) 1 (.ref I2) .none cenv) (leafOf (.ok .next)) [F] s)
    (turn : ∀ k m2 a H, V' k m2 a H → (J2.stop k H ∧ ∃ m', m' < m2 ∧ W m' a H) ∨ (J2.go k H ∧ ∀ x H', J2.yld k H x H' → g2 x σ2 H' fun σ4 H4 => wipe σ4 vs2 = σ2 ∧ te σ4 H4 fun y H5 => ∀ H6, (∀ b o, H5 b = some o → H6 b = some o) → Yd a y H6 fun a' _ => ∃ m', m' < m2 ∧ V' (k + 1) m' a' H5)) :
    ∀ (m n k : Nat) (a : α) (H : Hp) (s₀ s : Shared) (cp : List (Addr × Obj)), m < M → m < n → V' k m a H → AC a cp → (∀ p ∈ cp, s₀.heap.get? p.1 = some p.2) → Inv (gblk X A2 s_0 H_0 cenv fp) cp σ2 H s → tn (i + 1) s.heap → (∀ b ∈ fp, H b = none) → tn2 k s.heap → (∀ b ∈ fp2, H b = none ∧ ∀ p ∈ cp, p.1 ≠ b) →
      Seg (model X.prog X.w) A (RG (gblk X A' s_0 H_0 cenv fp) AC End) (YG (gblk X A' s_0 H_0 cenv fp) fp tn AC Yd) n s₀
        (.compLoop (.GeneratorExp elt [⟨t1, it1, [], 0⟩, ⟨t2, it2, [], 0⟩] scope pos) 1 (.ref I2) .none cenv)
        ((model X.prog X.w).den (.compLoop (.GeneratorExp elt [⟨t1, it1, [], 0⟩, ⟨t2, it2, [], 0⟩] scope pos) 1 (.ref I2) .none cenv)) [F] s := by
  have stat : ∀ {a : α} {cp : List (Addr × Obj)} {σ' : L2.St} {H' : Hp} {s' : Shared}, AC a cp → Inv (gblk X A2 s_0 H_0 cenv fp) cp σ' H' s' → (∀ b ∈ fp, H' b = none) → ∀ b ∈ fp, FpOk (gblk X A2 s_0 H_0 cenv fp) cp H' b := fun {a cp σ' H' s'} hac I' hn b hb =>
    ⟨hn b hb, (I'.ok.exf b hb).1, I'.ok.exfs b hb, .inl hb, fun x c e => (I'.ok.exf b hb).2 x c e, fun p hp => hAC a cp hac p (by simpa using hp) b hb⟩
  intro m
  induction m using Nat.strongRecOn with
  | ind m ih =>
    intro n k a H s₀ s cp hM hmn w hac tie I st nf stI nI
    show Seg _ A _ _ _ s₀ _ ((compTurn (.GeneratorExp elt [⟨t1, it1, [], 0⟩, ⟨t2, it2, [], 0⟩] scope pos) 1 (.ref I2) .none cenv).onRaise (fun x => do noteFrame x cenv; theTreesLotGoes x)) [F] s
    rw [compTurn_gen2_in, Sem.onRaise_eq_wrap]
    refine seg_bind_wrap (wpAny_standAt ?_)
    -- the outer iterator's objects stand among the pins
    have Ip := I.pinned (stat hac I nf) (obj _ _ st)
    have f2 : ∀ b ∈ fp2, FpOk (gblk X A2 s_0 H_0 cenv fp) (cp ++ pinsAt fp s.heap) H b := fun b hb => by
      obtain ⟨q1, q2, q3, q4⟩ := st2 b hb
      refine ⟨(nI b hb).1, q1, q2, q3, q4, fun p hp z => ?_⟩
      rcases List.mem_append.mp hp with r | r
      · cases r
      · rcases List.mem_append.mp r with r | r
        · exact (nI b hb).2 p r z
        · exact dis b hb (by rw [← z]; exact (of_pinsAt r).1)
    have fin1 : ∀ {pl : List (Addr × Obj)} {σ' : L2.St} {s' : Shared} {H' : Hp}, Inv (gblk X A2 s_0 H_0 cenv fp) ((cp ++ pinsAt fp s.heap) ++ pl) σ' H' s' → tn (i + 1) s'.heap ∧ ∀ b ∈ fp, H' b = none := fun {pl σ' s' H'} I' => by
      have pin' : ∀ b ∈ fp, ∀ o, s.heap.get? b = some o → s'.heap.get? b = some o ∧ H' b = none := fun b hb o e =>
        let z := I'.pin (b, o) (List.mem_append_right _ (List.mem_append_left _ (List.mem_append_right _ (mem_pinsAt hb e))))
        ⟨z.1, z.2.1⟩
      refine ⟨keep _ _ _ st fun b hb o e => (pin' b hb o e).1, fun b hb => ?_⟩
      obtain ⟨o, e, _⟩ := obj _ _ st b hb
      exact (pin' b hb o e).2
    rcases turn k m a H w with ⟨stop, m', hm', w'⟩ | ⟨go, step⟩
    · refine seg_bind_wrap ?_
      rw [hA2]
      refine thnF (T2.done (gblk X A2 s_0 H_0 cenv fp) rfl rfl rfl hc k _ s σ2 H (fun _ _ => False) Ip f2 stI stop) fun r s1 ⟨hr, I1⟩ => ?_
      subst hr
      have I1' : Inv (gblk X A2 s_0 H_0 cenv fp) ((cp ++ pinsAt fp s.heap) ++ []) σ2 H s1 := by rw [List.append_nil]; exact I1
      obtain ⟨o1, o2⟩ := fin1 I1'
      exact outer m' n a H s₀ s1 cp (by omega) (by omega) w' hac tie (inv_around (A2 := A') ((I1.unpinned (pins := cp)).weak hl (wipe_wipe_some hw)) h1 hfr1) o1 o2
    · refine seg_bind_wrap ?_
      rw [hA2]
      refine thnF (T2.item (gblk X A2 s_0 H_0 cenv fp) rfl rfl rfl hc k _ s σ2 H (fun _ _ => False) Ip f2 stI go) fun r s1 ⟨u, hr, hl1⟩ => ?_
      subst hr
      refine seg_bind_wrap ?_
      rw [hA2]
      refine thnF hl1 fun _ s2 ⟨x, H2, J2', r2, y2, stn, n2⟩ => ?_
      have J3 := J2'.pinned (fun b hb => ⟨n2 b hb, (f2 b hb).2⟩) (T2.obj _ _ stn)
      refine seg_bind_wrap ?_
      rw [hA2]
      refine thnF (pg.run _ s2 _ H2 x u _ J3 r2 (step x H2 y2)) fun _ s3 ⟨σ4, H3, I3, hw4, q3⟩ => ?_
      have hy : ∀ v, yieldOut cenv v = yieldValue v := fun v => by simp only [yieldOut, hco, Bool.false_eq_true, if_false]
      simp only [hy]
      rw [Sem.bind_eq_wrap', Sem.bind_eq_wrap', Sem.wrap_wrap, Sem.wrap_wrap]
      refine seg_wrap ?_
      rw [hA2]
      refine thnF (pe.run _ s3 σ4 H3 _ I3 q3) fun yv s5 ⟨y, H5, I5, r5, q5⟩ => ?_
      obtain ⟨o1, o2⟩ := fin1 I5
      have pin2 : ∀ b ∈ fp2, ∀ o, s2.heap.get? b = some o → s5.heap.get? b = some o ∧ H5 b = none := fun b hb o e =>
        let z := I5.pin (b, o) (List.mem_append_right _ (List.mem_append_right _ (mem_pinsAt hb e)))
        ⟨z.1, z.2.1⟩
      have hl4 : σ2.length = σ4.length := by rw [← hw4, wipe_length]
      have K5 : Inv (gblk X A2 s_0 H_0 cenv fp) cp σ2 H5 s5 := ((I5.unpinned).unpinned (pins := cp)).weak hl4 (wipe_wipe_some hw4)
      have tn5 : tn2 (k + 1) s5.heap := T2.keep _ _ _ stn fun b hb o e => (pin2 b hb o e).1
      have n5 : ∀ b ∈ fp2, H5 b = none := fun b hb => by
        obtain ⟨o, e, _⟩ := T2.obj _ _ stn b hb
        exact (pin2 b hb o e).2
      have f5 : ∀ b ∈ fp2, FpOk (gblk X A2 s_0 H_0 cenv fp) cp H5 b := fun b hb => by
        obtain ⟨q1, q2, q3, q4⟩ := st2 b hb
        exact ⟨n5 b hb, q1, q2, q3, q4, fun p hp => (nI b hb).2 p (by simpa using hp)⟩
      have L5 := inv_lay K5 f5 (T2.obj _ _ tn5)
      have M5 : Inv (gblk X A' s_0 H_0 cenv fp) cp σ2 (layAt fp2 s5.heap H5) s5 := inv_around (A2 := A') L5 h1 hfr1
      cases n with
      | zero => exact absurd hmn (Nat.not_lt_zero _)
      | succ n =>
        refine seg_at (seg_yield hF1 rfl hF2 ⟨a, y, σ2, _, i + 1, cp, _, r5, hac, tie, M5, o1, fun b hb => ?_, q5 _ (layAt_same n5), fun a' cp' s' nx hac' I' st' => ?_⟩)
        · rw [layAt_out fun z => dis b z hb]
          exact o2 b hb
        · obtain ⟨m', hm, w'⟩ := nx
          obtain ⟨U1, U2, U3⟩ := inv_unlay (inv_around (A2 := A2) I' h2 hfr2) n5 fun b hb => let ⟨o, e, _⟩ := T2.obj _ _ tn5 b hb; ⟨o, e⟩
          exact seg_again rfl (ih m' hm n (k + 1) a' H5 s' s' cp' (by omega) (by omega) w' hac' (fun p hp => (I'.pin p (List.mem_append_right _ hp)).1) U1 st' o2 (T2.keep _ _ _ tn5 U2) fun b hb => ⟨n5 b hb, fun p hp => U3 b hb p (List.mem_append_right _ hp)⟩)
end
section
variable {α : Type}
theorem seg_gx2 {X : Cx} {A A' : Around} {k : Nat} {s_0 : Shared} {H_0 : Hp} {elt t1 it1 t2 it2 : Expr} {scope : Scope} {pos : Pos} {it : Addr} {fp : List Addr} {tn : Nat → Heap → Prop} {J : It} {cenv : Env} {g1 g2 : TG} {wi2 : TI} {te : TE} {σ0 : L2.St} {vs vs2 : List Nat}
    {AC : α → List (Addr × Obj) → Prop} {End : α → Hp → Prop} {Yd : α → V → Hp → (α → Hp → Prop) → Prop} {W : Nat → Nat → α → Hp → Prop}
    (hA : A.over (.compLoop (.GeneratorExp elt [⟨t1, it1, [], 0⟩, ⟨t2, it2, [], 0⟩] scope pos) 0 (.ref it) .none cenv) [] = A') (rm : Room k A') (hg0 : A'.guards = X.A.guards) (hfr1 : A'.frames = some (cenv :: X.stack)) (hc : X.calm = true) (hco : cenv.scope.isCoroutine = false) (hfr : cenv.frame = some cenv.locals)
    (T : Turn X.prog X.w X.K t1 J fp it tn)
    (pg : ∀ A1 : Around, Room k A1 → A1.guards = X.A.guards → PG (gblk X A1 s_0 H_0 cenv fp) t1 g1) (pi : ∀ A1 : Around, Room k A1 → A1.guards = X.A.guards → PI (gblk X A1 s_0 H_0 cenv fp) t2 it2 wi2)
    (pg2 : ∀ A1 : Around, Room k A1 → A1.guards = X.A.guards → PG (gblk X A1 s_0 H_0 cenv fp) t2 g2) (pe : ∀ A1 : Around, Room k A1 → A1.guards = X.A.guards → PE (gblk X A1 s_0 H_0 cenv fp) elt te)
    (hs2 : ∀ x, foldedSetIterable it2 cenv x = pure x)
    (hAC : ∀ a cp, AC a cp → ∀ p ∈ cp, ∀ b ∈ fp, p.1 ≠ b) (turn : tGx2 J g1 wi2 g2 te σ0 vs vs2 End Yd W) :
    ∀ (m n i : Nat) (a : α) (H : Hp) (s₀ s : Shared) (cp : List (Addr × Obj)), m < n → W i m a H → AC a cp → (∀ p ∈ cp, s₀.heap.get? p.1 = some p.2) → Inv (gblk X A' s_0 H_0 cenv fp) cp σ0 H s → tn i s.heap → (∀ b ∈ fp, H b = none) →
      Seg (model X.prog X.w) A (RG (gblk X A' s_0 H_0 cenv fp) AC End) (YG (gblk X A' s_0 H_0 cenv fp) fp tn AC Yd) n s₀
        (.compLoop (.GeneratorExp elt [⟨t1, it1, [], 0⟩, ⟨t2, it2, [], 0⟩] scope pos) 0 (.ref it) .none cenv)
        ((model X.prog X.w).den (.compLoop (.GeneratorExp elt [⟨t1, it1, [], 0⟩, ⟨t2, it2, [], 0⟩] scope pos) 0 (.ref it) .none cenv)) [] s := by
  have stat : ∀ {a : α} {cp : List (Addr × Obj)} {σ' : L2.St} {H' : Hp} {s' : Shared}, AC a cp → Inv (gblk X A' s_0 H_0 cenv fp) cp σ' H' s' → (∀ b ∈ fp, H' b = none) → ∀ b ∈ fp, FpOk (gblk X A' s_0 H_0 cenv fp) cp H' b := fun {a cp σ' H' s'} hac I' hn b hb =>
    ⟨hn b hb, (I'.ok.exf b hb).1, I'.ok.exfs b hb, .inl hb, fun x c e => (I'.ok.exf b hb).2 x c e, fun p hp => hAC a cp hac p (by simpa using hp) b hb⟩
  intro m
  induction m using Nat.strongRecOn with
  | ind m ih =>
    intro n i a H s₀ s cp hmn w hac tie I st nf
    show Seg _ A _ _ _ s₀ _ ((compTurn (.GeneratorExp elt [⟨t1, it1, [], 0⟩, ⟨t2, it2, [], 0⟩] scope pos) 0 (.ref it) .none cenv).onRaise (leaving cenv)) [] s
    rw [compTurn_gen2_out, Sem.onRaise_eq_wrap]
    refine seg_bind_wrap (wpAny_standAt ?_)
    rcases turn i m a H w with ⟨stop, hend⟩ | ⟨go, step⟩
    · refine seg_bind_wrap ?_
      rw [hA]
      refine thnF (T.done (gblk X A' s_0 H_0 cenv fp) rfl rfl rfl hc i cp s σ0 H (fun _ _ => False) I (stat hac I nf) st stop) fun r s1 ⟨hr, I1⟩ => ?_
      subst hr
      exact seg_end (.ok .next) (.inl ⟨.inr rfl, a, _, H, cp, hac, tie, I1, hend⟩)
    · refine seg_bind_wrap ?_
      rw [hA]
      refine thnF (T.item (gblk X A' s_0 H_0 cenv fp) rfl rfl rfl hc i cp s σ0 H (fun _ _ => False) I (stat hac I nf) st go) fun r s1 ⟨u, hr, h1⟩ => ?_
      subst hr
      refine seg_bind_wrap ?_
      rw [hA]
      refine thnF h1 fun _ s2 ⟨x, H2, I2, r2, y2, st2, n2⟩ => ?_
      have I2' := I2.pinned (stat hac I2 n2) (T.obj _ _ st2)
      refine seg_bind_wrap ?_
      rw [hA]
      refine thnF ((pg A' rm hg0).run _ s2 _ H2 x u _ I2' r2 (step x H2 y2)) fun _ s3 ⟨σ3, H3, I3, hw3, q3⟩ => ?_
      have hl : σ0.length = σ3.length := by rw [← hw3, wipe_length]
      refine seg_bind_wrap ?_
      rw [hA]
      refine thnF ((pi A' rm hg0).run _ s3 σ3 H3 _ I3 q3) fun xv s4 h4 => ?_
      refine seg_bind_wrap (wpAny_standAt ?_)
      refine seg_bind_wrap (wpAny_of_eq (hs2 xv) ?_)
      refine seg_bind_wrap (wpAny_holding ?_)
      rw [hA]
      refine thnF h4 fun yv s5 h5 => ?_
      obtain ⟨I_2, fp2, tn2, J2, H5, rfl, I5, T2, st5, f5, V', ⟨m2, hm2, w2⟩, turn2⟩ := h5
      have pin' : ∀ {H' : Hp} {s' : Shared} {σ' : L2.St}, Inv (gblk X A' s_0 H_0 cenv fp) (cp ++ pinsAt fp s2.heap) σ' H' s' → tn (i + 1) s'.heap ∧ ∀ b ∈ fp, H' b = none := fun {H' s' σ'} I' => by
        have pin' : ∀ b ∈ fp, ∀ o, s2.heap.get? b = some o → s'.heap.get? b = some o ∧ H' b = none := fun b hb o e =>
          let z := I'.pin (b, o) (List.mem_append_right _ (List.mem_append_right _ (mem_pinsAt hb e)))
          ⟨z.1, z.2.1⟩
        refine ⟨T.keep _ _ _ st2 fun b hb o e => (pin' b hb o e).1, fun b hb => ?_⟩
        obtain ⟨o, e, _⟩ := T.obj _ _ st2 b hb
        exact (pin' b hb o e).2
      obtain ⟨o1, o2⟩ := pin' I5
      have hd1 : A'.handled = none := rm.hd
      refine seg_call (c' := .compStart (.GeneratorExp elt [⟨t1, it1, [], 0⟩, ⟨t2, it2, [], 0⟩] scope pos) 1 (.ref I_2) .none cenv) fun p => ?_
      generalize hF : Frame.ret _ _ _ _ _ p [] = F
      have w0 : F.where_ = (.compLoop (.GeneratorExp elt [⟨t1, it1, [], 0⟩, ⟨t2, it2, [], 0⟩] scope pos) 0 (.ref it) .none cenv, p) := by rw [← hF]; rfl
      have sp0 : splitAtGen [F] = none := by rw [← hF]; rfl
      have gd0 : [F].any Frame.guarded = false := by rw [← hF]; rfl
      have mk0 : ∀ x, (marksOver [F] x).1 = x.1 := fun x => by rw [← hF]; rfl
      have fin2 : ∀ (n : Nat) (s₀ s' : Shared), Seg (model X.prog X.w) A (RG (gblk X A' s_0 H_0 cenv fp) AC End) (YG (gblk X A' s_0 H_0 cenv fp) fp tn AC Yd) n s₀
          (.compLoop (.GeneratorExp elt [⟨t1, it1, [], 0⟩, ⟨t2, it2, [], 0⟩] scope pos) 0 (.ref it) .none cenv)
          ((model X.prog X.w).den (.compLoop (.GeneratorExp elt [⟨t1, it1, [], 0⟩, ⟨t2, it2, [], 0⟩] scope pos) 0 (.ref it) .none cenv)) [] s' →
          Seg (model X.prog X.w) A (RG (gblk X A' s_0 H_0 cenv fp) AC End) (YG (gblk X A' s_0 H_0 cenv fp) fp tn AC Yd) n s₀
            (.compLoop (.GeneratorExp elt [⟨t1, it1, [], 0⟩, ⟨t2, it2, [], 0⟩] scope pos) 1 (.ref I_2) .none cenv) (leafOf (.ok .next)) [F] s' := fun n s₀ s' h => by
        rw [← hF]
        exact seg_leaf (.ok .next) (seg_again rfl h)
      generalize hA2 : A.over (.compLoop (.GeneratorExp elt [⟨t1, it1, [], 0⟩, ⟨t2, it2, [], 0⟩] scope pos) 1 (.ref I_2) .none cenv) [F] = A2
      have e0 : A'.handled = A.handled := by rw [← hA]; rfl
      have h20 : A2.handled = none := by
        rw [← hA2]
        show (marksOver [F] (A.handled, A.handled)).1 = none
        rw [mk0]
        exact e0.symm.trans hd1
      have fr20 : A2.frames = some (cenv :: X.stack) := by
        rw [← hfr1, ← hA2, ← hA]
        show pushEnvs [] (pushEnvs (envsOf [F.where_]) A.frames) = pushEnvs [cenv] (pushEnvs [] A.frames)
        rw [w0]
        rfl
      have gd20 : A2.guards = X.A.guards := by
        rw [← hg0, ← hA2, ← hA]
        show pushGuards [] (pushGuards (guardsOf [F.where_]) A.guards) = pushGuards [] (pushGuards [] A.guards)
        rw [w0]
        rfl
      have dp20 : A2.depth = A'.depth := by
        rw [← hA2, ← hA]
        show A.depth + frameCount [F.where_] + 0 = A.depth + 0 + 1
        rw [w0]
        rfl
      have un20 : A2.units = A'.units := by
        rw [← hA2, ← hA]
        show A.units + unitsOf [F.where_] + 0 = A.units + 0 + 3
        rw [w0]
        rfl
      have rm2 : Room k A2 := ⟨h20, by rw [dp20]; exact rm.dp, by rw [un20]; exact rm.un⟩
      have dis : ∀ b ∈ fp2, b ∉ fp := fun b hb z => by
        obtain ⟨o, e, _⟩ := T.obj _ _ st2 b z
        exact (f5 b hb).2.2.2.2.2 (b, o) (List.mem_append_right _ (List.mem_append_right _ (mem_pinsAt z e))) rfl
      have K5 : Inv (gblk X A' s_0 H_0 cenv fp) cp σ3 H5 s5 := I5.unpinned
      have loop := seg_gx2_in (M := m) (X := X) (A := A) (A' := A') (A2 := A2) (s_0 := s_0) (H_0 := H_0) (elt := elt) (it1 := it1) (it2 := it2) (scope := scope) (pos := pos) (cenv := cenv) (fp := fp) (tn := tn) (σ0 := σ0) (vs := vs) (vs2 := vs2) (i := i) (F := F) (AC := AC) (End := End) (Yd := Yd) (W := W (i + 1))
        hA2 h20 fr20 hd1 hfr1 sp0 gd0 hc hco T.obj T.keep T2 (pg2 A2 rm2 gd20) (pe A2 rm2 gd20) hAC (fun b hb => ⟨(f5 b hb).2.1, (f5 b hb).2.2.1, (f5 b hb).2.2.2.1, (f5 b hb).2.2.2.2.1⟩) dis hl hw3
        (fun m' n a H s₀ s cp hM hm w' hac tie I' st' nf' => fin2 n s₀ s (ih m' hM n (i + 1) a H s₀ s cp hm w' hac tie I' st' nf'))
        turn2 m2 n 0 a H5 s₀ s5 cp hm2 (by omega) w2 hac tie (inv_around (A2 := A2) K5 h20 fr20) o1 o2 st5 fun b hb => ⟨(f5 b hb).1, fun p hp => (f5 b hb).2.2.2.2.2 p (List.mem_append_right _ (List.mem_append_left _ hp))⟩
      show Seg _ A _ _ _ s₀ _ ((compStart (.GeneratorExp elt [⟨t1, it1, [], 0⟩, ⟨t2, it2, [], 0⟩] scope pos) 1 (.ref I_2) .none cenv).onRaise (fun x => do noteFrame x cenv; standAt theWindowsPlace)) [F] s5
      unfold compStart
      rw [Sem.onRaise_eq_wrap]
      show Seg _ A _ _ _ s₀ _ ((ask >>= _).wrap _ _ _ _) [F] s5
      refine seg_bind_wrap (wpAny_askSetting ?_)
      split
      · exact seg_again rfl loop
      · first
          | exact seg_bind_wrap (wpAny_rule (seg_bind_wrap (wpAny_standAt (seg_bind_wrap (T2.self _ 0 s5 _ _ st5 (seg_again rfl loop))))))
          | (refine seg_bind_wrap (wpAny_rule ?_); show Seg _ A _ _ _ s₀ _ ((standAt it2.pos >>= _).wrap _ _ _ _) [F] s5; exact seg_bind_wrap (wpAny_standAt (seg_bind_wrap (T2.self _ 0 s5 _ _ st5 (seg_again rfl loop)))))
end

end
end Gk

set_option Elab.async false
set_option linter.all false
set_option maxRecDepth 100000
set_option maxHeartbeats 1000000
set_option pp.maxSteps 1500
set_option pp.deepTerms false
namespace Gk
open PySem PySem.Spec PyProof.Rows L2
section
variable {P : Program} {w : World} {K : PySem.W.Frag} {mg : Str → Option Value} {base : Heap}
section
variable {M : Model} {A : Around} {E : Value → Shared → Prop} {s : Shared}
theorem eval_gen2 (elt t1 it1 t2 it2 : Expr) (scope : Scope) (pos : Pos) (env : Env) (nc : scope.isCoroutine = false) :
    eval (.GeneratorExp elt [⟨t1, it1, [], 0⟩, ⟨t2, it2, [], 0⟩] scope pos) env = (eval it1 env >>= fun x => standAt it1.pos >>= fun _ => genFold it1 env x >>= fun x => holding [x] (pyIter x) >>= fun it => enterFrame >>= fun _ => closureFor scope env >>= fun cl =>
      genexprCode env pos (env.qual ++ "<genexpr>") scope >>= fun code => builtinsFor env.globals env.builtins >>= fun bi => newFunctionEnv scope env.globals cl [(".0", it)] (env.qual ++ "<genexpr>.") none code none bi >>= fun cenv =>
      newGenerator (.compStart (.GeneratorExp elt [⟨t1, it1, [], 0⟩, ⟨t2, it2, [], 0⟩] scope pos) 0 it .none cenv) "<genexpr>" (env.qual ++ "<genexpr>")) := by
  rw [arm_eval_GeneratorExp, nc]
  simp only [Bool.false_eq_true, if_false]
  cases it1 <;> rfl
theorem make_gen2 {env : Env} {elt t1 it1 t2 it2 : Expr} {scope : Scope} {cl : List (Str × Addr)} {pos : Pos} {Q : Value → Shared → Prop}
    (nc : scope.isCoroutine = false) (ecl : closureFor scope env = pure cl) (ncell : ∀ y ∈ scope.names, y.2 ≠ .cell) (dot : scope.names.lookup (".0" : Str) = some NameKind.local) (kd : scope.kind = .function) (room : A.depth < recursionLimit)
    (h : wpAny M A (eval it1 env) (fun a1 s1 => wpAny M A (pyIter a1) (fun a2 s2 => s2.heap.NoLimit ∧ wpAny M A (genexprCode env pos (env.qual ++ "<genexpr>") scope) (fun a3 s3 => wpAny M A (builtinsFor env.globals env.builtins) (fun a4 s4 =>
        ∀ h5, h5.Ns s4.heap.objs.size (fun y => if y = ".0" then some a2 else none) → Heap.SameBut s4.heap.objs.size (s4.heap.push { cls := .type "frame", data := .dict #[] }) h5 →
          Q (.ref h5.objs.size) { s4 with
            gens := s4.gens.push (.fresh (.compStart (.GeneratorExp elt [⟨t1, it1, [], 0⟩, ⟨t2, it2, [], 0⟩] scope pos) 0 a2 .none (genEnv scope cl s4.heap.objs.size a3 a4 env))),
            toks := s4.toks + 1 + 1 + 1, heap := h5.push { cls := .type "generator", data := .fields #[.int s4.gens.size 0, .str "<genexpr>" (s4.toks + 1), .str (env.qual ++ "<genexpr>") (s4.toks + 1 + 1)] } }) E s3) E s2) E s1) E s)
    (fold : ∀ x, genFold it1 env x = pure x) : wpAny M A (eval (.GeneratorExp elt [⟨t1, it1, [], 0⟩, ⟨t2, it2, [], 0⟩] scope pos) env) Q E s := by
  rw [eval_gen2 _ _ _ _ _ _ _ _ nc, ecl]
  refine wpAny_bind (thn h fun a1 s1 q1 => wpAny_bind (wpAny_standAt (wpAny_bind (wpAny_of_eq (fold a1) (wpAny_bind (wpAny_holding (thn q1 fun a2 s2 q2 => ?_)))))))
  refine wpAny_bind (wpAny_enterFrame q2.1 room (wpAny_bind (wpAny_pure (wpAny_bind (thn q2.2 fun a3 s3 q3 => wpAny_bind (thn q3 fun a4 s4 q4 => ?_))))))
  have bd : ∀ y ∈ ([((".0" : Str), a2)] : List (Str × Value)), scope.names.lookup y.1 = some NameKind.local := fun y hy => by
    rw [List.mem_singleton.mp hy]
    exact dot
  refine wpAny_bind (wpAny_newFunctionEnv ncell bd (fun h5 n5 b5 => ?_) kd)
  have same : (fun y : Str => ([((".0" : Str), a2)] : List (Str × Value)).reverse.lookup y) = fun y : Str => if y = (".0" : Str) then some a2 else none := funext fun y => by
    rcases Decidable.em (y = ".0") with z | z
    · rw [z]; simp
    · have q : (y == (".0" : Str)) = false := by simpa using z
      simp [List.lookup, q, z]
  simp only [newGenerator, newFields]
  refine wpAny_bind (wpAny_newGen (wpAny_bind (wpAny_mkText (wpAny_bind (wpAny_mkText (wpAny_newObj_type (q4 h5 (same ▸ n5) b5) (by size_fits)))))))
end
section
variable {X : Cx} {pins : List (Addr × Obj)} {σ : L2.St} {H : Hp} {s : Shared}
/-- the generator u, made and not begun, in the state s5 -/
def Gx2 (X : Cx) (pins : List (Addr × Obj)) (σ : L2.St) (A : Around) (J : It) (g1 : TG) (wi2 : TI) (g2 : TG) (te : TE) (vs vs2 : List Nat) (H4 : Hp) (u : Value) (s5 : Shared) : Prop :=
  ∃ (A' : Around) (s_0 : Shared) (H_0 : Hp) (cenv : Env) (fp : List Addr) (ga : Addr) (gn : Nat) (go : Obj) (tn : Nat → Heap → Prop) (gs : GenState),
    u = .ref ga ∧ GenObj go gn ∧ s5.gens[gn]? = some gs ∧ gs.bare = true ∧ Inv (gblk X A' s_0 H_0 cenv fp) [(ga, go)] (wipe σ vs) H4 s5 ∧ tn 0 s5.heap ∧ (∀ b ∈ fp, H4 b = none) ∧ (∀ b ∈ fp, b < ga) ∧
    (∀ i h h', tn i h → (∀ b ∈ fp, ∀ o, h.get? b = some o → h'.get? b = some o) → tn i h') ∧ (∀ cp σ' H' s', Inv (gblk X A' s_0 H_0 cenv fp) cp σ' H' s' → Inv X pins σ H' s') ∧
    ∀ (α : Type) (AC : α → List (Addr × Obj) → Prop) (End : α → Hp → Prop) (Yd : α → V → Hp → (α → Hp → Prop) → Prop) (W : Nat → Nat → α → Hp → Prop) (m n : Nat) (a : α) (cp : List (Addr × Obj)) (s' : Shared),
      tGx2 J g1 wi2 g2 te (wipe σ vs) vs vs2 End Yd W → W 0 m a H4 → m < n → (∀ a cp, AC a cp → ∀ p ∈ cp, ∀ b ∈ fp, p.1 ≠ b) → AC a cp → Inv (gblk X A' s_0 H_0 cenv fp) cp (wipe σ vs) H4 s' → tn 0 s'.heap →
      gs.Goes (model X.prog X.w) A (RG (gblk X A' s_0 H_0 cenv fp) AC End) (YG (gblk X A' s_0 H_0 cenv fp) fp tn AC Yd) n (.send .none) s'
theorem gx_make2 {c P : Addr} {elt tg iter t2 it2 : Expr} {gpos : Pos} {scope : Scope} {own : List (Str × Nat)} {wi : TI} {g1 g2 : TG} {wi2 : TI} {vs2 : List Nat} {te : TE} {k : Nat} {Q' : Value → Shared → Prop} {R : It → Hp → Prop} {A : Around}
    (hr : Room (k + 1) X.A) (near : Near X.A A) (hc : X.calm = true) (hN : X.N.Nodup) (TB : GxR.TabB X.base X.mg c P) (hcode : X.env.code = .ref c) (hco : scope.isCoroutine = false) (hdot : scope.names.lookup (".0" : Str) = some NameKind.local)
    (nocell : ∀ y ∈ scope.names, y.2 ≠ .cell) (ok : BlkOk X.N X.env.scope scope own) (hi : PI X tg iter wi)
    (hg : ∀ (A' : Around) (s : Shared) (H : Hp) (C : Addr) (cl : List (Str × Addr)) (code : Value) (fp : List Addr), Room k A' → A'.guards = X.A.guards → PG (gblk X A' s H (genEnv scope cl C code builtinsNs X.env) fp) tg g1)
    (hi2 : ∀ (A' : Around) (s : Shared) (H : Hp) (C : Addr) (cl : List (Str × Addr)) (code : Value) (fp : List Addr), Room k A' → A'.guards = X.A.guards → PI (gblk X A' s H (genEnv scope cl C code builtinsNs X.env) fp) t2 it2 wi2)
    (hg2 : ∀ (A' : Around) (s : Shared) (H : Hp) (C : Addr) (cl : List (Str × Addr)) (code : Value) (fp : List Addr), Room k A' → A'.guards = X.A.guards → PG (gblk X A' s H (genEnv scope cl C code builtinsNs X.env) fp) t2 g2)
    (he : ∀ (A' : Around) (s : Shared) (H : Hp) (C : Addr) (cl : List (Str × Addr)) (code : Value) (fp : List Addr), Room k A' → A'.guards = X.A.guards → PE (gblk X A' s H (genEnv scope cl C code builtinsNs X.env) fp) elt te)
    (hs : ∀ v, genFold iter X.env v = pure v) (hs2 : ∀ (e : Env) x, foldedSetIterable it2 e x = pure x) (I : Inv X pins σ H s) (h : wi σ H fun J H1 => GxR.TabG H1 P ∧ R J H1)
    (hQ : ∀ J H1 H2 u s5, R J H1 → GxR.Tabbed P H1 H2 → Gx2 X pins σ A J g1 wi2 g2 te (own.map (·.2)) vs2 H2 u s5 → Q' u s5) :
    wpAny (model X.prog X.w) X.A (eval (.GeneratorExp elt [⟨tg, iter, [], 0⟩, ⟨t2, it2, [], 0⟩] scope gpos) X.env) Q' X.xe s := by
  have hfree : ∀ y ∈ scope.names, y.2 = .free → ∃ c, X.env.cells.lookup y.1 = some c := fun y hy e => by
    rcases ok.free y hy e with k | k
    · exact I.ok.has _ (.inl k)
    · exact I.ok.has _ (.inr k)
  refine make_gen2 hco (closure_ok hfree) nocell hdot ok.kind (by have := hr.dp; omega) ?_ hs
  refine thn (hi.run pins s σ H _ I h) fun xv s1 hx => thn hx fun itv s2 h2 => ?_
  obtain ⟨it, fp, tn, J, H2, rfl, I2, T, st2, f2, ⟨ps, hP, ht3⟩, q⟩ := h2
  refine ⟨I2.nolimit, ?_⟩
  have hPs : s2.heap.get? P = some { cls := .none, data := .fields ps } := I2.hok P _ hP
  have cd : PySem.W.CodeHd s2.heap c P := TB.code.keeps fun b u e => I2.bk b u e
  have nP : ∀ b, H2 b = none → b ≠ P := fun b e z => by
    rw [z, hP] at e
    cases e
  have cont : ∀ (code : Value) (h3 : Heap) (tk : Nat) (ps' : Array Value), Heap.ExtBut P s2.heap h3 → s2.heap.objs.size ≤ h3.objs.size → h3.get? P = some { cls := .none, data := .fields ps' } → (∃ more, ps' = ps ++ more) → TriplesOk ps'.toList →
      wpAny (model X.prog X.w) X.A (builtinsFor X.env.globals X.env.builtins) (fun bi s₄ =>
        ∀ h', h'.Ns s₄.heap.objs.size (fun y => if y = ".0" then some (Value.ref it) else none) → Heap.SameBut s₄.heap.objs.size (s₄.heap.push { cls := .type "frame", data := .dict #[] }) h' →
          Q' (.ref h'.objs.size) { s₄ with
            gens := s₄.gens.push (.fresh (.compStart (.GeneratorExp elt [⟨tg, iter, [], 0⟩, ⟨t2, it2, [], 0⟩] scope gpos) 0 (.ref it) .none (genEnv scope (cloFrom X.env.cells scope.names []) s₄.heap.objs.size code bi X.env))),
            toks := s₄.toks + 1 + 1 + 1,
            heap := h'.push { cls := .type "generator", data := .fields #[.int s₄.gens.size 0, .str "<genexpr>" (s₄.toks + 1), .str (X.env.qual ++ "<genexpr>") (s₄.toks + 1 + 1)] } }) X.xe { s2 with heap := h3, toks := tk } := by
    rintro code h3 tk ps' hx hsz hP3 ⟨more, rfl⟩ ht4
    obtain ⟨bm, ob, e1, e2, e3, e4, e5, e6, e7, e8⟩ := TB.bm
    refine wpAny_builtinsFor (m := X.mg) (by rw [I2.ok.glob]; exact (I2.mod.glob.keeps I2.bk).extBut hx TB.gP) e1 e2 (hx _ _ e4 (I2.bk _ _ e5)) e6 e7 e8 ?_
    intro h' hns hsb
    have I3 : Inv X pins σ (upd H2 P (.tbl (ps ++ more))) { s2 with heap := h3, toks := tk } := GxR.inv_tab (g' := s2.gens) (d' := s2.drawn) I2 hP (fun b o hb e => hx b o hb e) hP3 I2.bare
    have lt2 : ∀ b ∈ fp, b < s2.heap.objs.size := fun b hb => by
      obtain ⟨o, e, _⟩ := T.obj _ _ st2 b hb
      exact Heap.lt_size e
    have f3 : ∀ b ∈ fp, FpOk X pins (upd H2 P (.tbl (ps ++ more))) b ∧ b < ({ s2 with heap := h3, toks := tk } : Shared).heap.objs.size := fun b hb => by
      refine ⟨⟨?_, (f2 b hb).2⟩, Nat.lt_of_lt_of_le (lt2 b hb) hsz⟩
      rw [upd_ne (nP b (f2 b hb).1)]
      exact (f2 b hb).1
    have st3 : tn 0 h3 := T.keep _ _ _ st2 fun b hb o e => hx b o (nP b (f2 b hb).1) e
    generalize hs4 : ({ s2 with heap := h3, toks := tk } : Shared) = s4 at I3 f3 hns hsb ⊢
    have h4 : s4.heap = h3 := by rw [← hs4]
    have hsz4 : h'.objs.size = s4.heap.objs.size + 1 := by rw [hsb.1, Heap.size_push]
    have keep' : ∀ b o, s4.heap.get? b = some o → h'.get? b = some o := fun b o e => hsb.extBut b o (Nat.ne_of_lt (Heap.lt_size e)) (Heap.get?_push_of_some _ e)
    generalize hgo : ({ cls := .type "generator", data := .fields #[.int s4.gens.size 0, .str "<genexpr>" (s4.toks + 1), .str (X.env.qual ++ "<genexpr>") (s4.toks + 1 + 1)] } : Obj) = go
    have hGO : GenObj go s4.gens.size := by rw [← hgo]; exact ⟨_, _, rfl, rfl, rfl⟩
    have k5 : ∀ b o, s4.heap.get? b = some o → (h'.push go).get? b = some o := fun b o e => Heap.get?_push_of_some _ (keep' b o e)
    have pg := fun A' => hg A' s4 (upd H2 P (.tbl (ps ++ more))) s4.heap.objs.size (cloFrom X.env.cells scope.names []) code fp
    have pi := fun A' => hi2 A' s4 (upd H2 P (.tbl (ps ++ more))) s4.heap.objs.size (cloFrom X.env.cells scope.names []) code fp
    have pg2 := fun A' => hg2 A' s4 (upd H2 P (.tbl (ps ++ more))) s4.heap.objs.size (cloFrom X.env.cells scope.names []) code fp
    have pe := fun A' => he A' s4 (upd H2 P (.tbl (ps ++ more))) s4.heap.objs.size (cloFrom X.env.cells scope.names []) code fp
    generalize hce : genEnv scope (cloFrom X.env.cells scope.names []) s4.heap.objs.size code builtinsNs X.env = cenv at pg pi pg2 pe ⊢
    have hscn : cenv.scope = scope := by rw [← hce]; rfl
    have hframe : cenv.frame = some cenv.locals := by rw [← hce]; rfl
    generalize hA' : A.over (.compLoop (.GeneratorExp elt [⟨tg, iter, [], 0⟩, ⟨t2, it2, [], 0⟩] scope gpos) 0 (.ref it) .none cenv) [] = A'
    have hfrA : A'.frames = some (cenv :: X.stack) := by
      rw [← hA']
      show pushEnvs [cenv] A.frames = _
      rw [near.fr, I2.ok.frames]
      rfl
    have hhd : A'.handled = none := by
      rw [← hA']
      show A.handled = none
      rw [near.hd]
      exact hr.hd
    have rm : Room k A' := by
      refine ⟨hhd, ?_, ?_⟩
      · have := hr.dp
        have := near.dp
        rw [← hA']
        show A.depth + 0 + 1 + 3 * k + 5 < _
        omega
      · have := hr.un
        have := near.un
        rw [← hA']
        show A.units + 0 + 3 + 16 * k + 200 < _
        omega
    have gdA : A'.guards = X.A.guards := by
      rw [← hA']
      show pushGuards [] A.guards = _
      rw [near.gd]
      rfl
    have I5 : Inv (gblk X A' s4 (upd H2 P (.tbl (ps ++ more))) cenv fp) [(h'.objs.size, go)] (wipe σ (own.map (·.2))) (upd H2 P (.tbl (ps ++ more)))
        { s4 with gens := s4.gens.push (.fresh (.compStart (.GeneratorExp elt [⟨tg, iter, [], 0⟩, ⟨t2, it2, [], 0⟩] scope gpos) 0 (.ref it) .none cenv)), toks := s4.toks + 1 + 1 + 1, heap := h'.push go } := by
      subst hce
      refine gen_start (it := .ref it) I3 ok nocell hN f3 hhd hfrA rfl (I3.bare.push rfl) k5 (hns.push _) fun p hp => ?_
      have e : p = (h'.objs.size, go) := by simpa using hp
      subst e
      refine ⟨by show s4.heap.objs.size < h'.objs.size; omega, Heap.get?_push_size _ (by rw [← hgo]; rfl), fun v z => ?_⟩
      rw [← hgo] at z
      cases z
    refine hQ J H2 _ _ _ q ⟨⟨_, upd_same, ht4⟩, fun b hb => upd_ne hb⟩ ⟨A', s4, _, cenv, fp, h'.objs.size, s4.gens.size, go, tn, _, rfl, hGO, Array.getElem?_push_size .., rfl, I5, ?_, fun b hb => (f3 b hb).1.1, fun b hb => ?_, T.keep, fun cp σ' H' s' I' => ?_, ?_⟩
    · exact T.keep _ _ _ st3 fun b _ o e => k5 b o (by rw [h4]; exact e)
    · have := (f3 b hb).2
      rw [hsz4]
      exact Nat.lt_succ_of_lt this
    · exact I3.call' (ch := fp) I'.os I'.base I'.hok I'.bare fun b hb => ⟨(f3 b hb).1.2.2.2.1, (f3 b hb).1.2.1, (f3 b hb).1.2.2.2.2.1, (f3 b hb).1.2.2.2.2.2⟩
    · intro α AC End Yd W m n a cp s' turn w hmn hAC hac I' st'
      refine ⟨rfl, ?_⟩
      have loop := seg_gx2 (A := A) (pos := gpos) (it1 := iter) (scope := scope) hA' rm gdA hfrA hc (by rw [hscn]; exact hco) hframe T pg pi pg2 pe (fun x => hs2 cenv x) hAC turn m n 0 a _ s' s' cp hmn w hac (fun p hp => (I'.pin p (List.mem_append_right _ hp)).1) I' st' fun b hb => (f3 b hb).1.1
      show Seg _ A _ _ _ s' _ ((compStart (.GeneratorExp elt [⟨tg, iter, [], 0⟩, ⟨t2, it2, [], 0⟩] scope gpos) 0 (.ref it) .none cenv).onRaise (leaving cenv)) [] s'
      unfold compStart
      rw [Sem.onRaise_eq_wrap]
      show Seg _ A _ _ _ s' _ ((ask >>= _).wrap _ _ _ _) [] s'
      refine seg_bind_wrap (wpAny_askSetting ?_)
      split
      · exact seg_again rfl loop
      · first
          | exact seg_bind_wrap (wpAny_rule (seg_bind_wrap (wpAny_standAt (seg_bind_wrap (T.self _ 0 s' _ _ st' (seg_again rfl loop))))))
          | (refine seg_bind_wrap (wpAny_rule ?_); show Seg _ A _ _ _ s' _ ((standAt iter.pos >>= _).wrap _ _ _ _) [] s'; exact seg_bind_wrap (wpAny_standAt (seg_bind_wrap (T.self _ 0 s' _ _ st' (seg_again rfl loop)))))
  cases hf : codeAmong gpos ps.toList with
  | none =>
    refine wpAny_genexprCodeX hcode (cd.code hPs ht3) (cd.tab hPs) hf fun c' h' tk hx hge hlt hco' _ htab' _ => ?_
    obtain ⟨o1, vs, f1, tf, fl, tg, inF, tx, tt, op, _, _, _, _, _, _, _, _, _, htr, _⟩ := hco'
    exact cont _ h' tk _ hx (Nat.le_trans hge (Nat.le_of_lt hlt)) htab'.2 ⟨_, rfl⟩ htr
  | some cv =>
    refine wpAny_genexprCode_hit hcode (cd.code hPs ht3) hf ?_
    exact cont cv s2.heap s2.toks ps (Heap.ExtBut.refl _ _) (Nat.le_refl _) hPs ⟨#[], by simp⟩ ht3
end
section
variable {X : Cx} {pins : List (Addr × Obj)} {σ : L2.St} {s5 : Shared} {J : It} {g1 g2 : TG} {wi2 : TI} {te : TE} {vs vs2 : List Nat} {H4 : Hp} {u : Value}
/-- all that a generator hands out, in a list of the asker's own -/
theorem collect_gx2 {A : Around} {E : Value → Shared → Prop} {Q : List Value → Shared → Prop} {End : List V → Hp → Prop} {W : Nat → Nat → List V → Hp → Prop} {m : Nat} (hh : A.handled = none) (hroom : A.depth < recursionLimit) (G : Gx2 X pins σ A.in1.in1 J g1 wi2 g2 te vs vs2 H4 u s5)
    (w0 : W 0 m [] H4) (turn : tGx2 J g1 wi2 g2 te (wipe σ vs) vs vs2 End YdL W)
    (hQ : ∀ (s' : Shared) (acc : Array Value) (ys : List V) (H' : Hp), Inv X pins σ H' s' → Vals ys acc.toList → End ys H' → Q acc.toList s') : wpAny (model X.prog X.w) A (collect u) Q E s5 := by
  obtain ⟨A', s_0, H_0, cenv, fp, ga, gn, go, tn, gs, rfl, hGO, hgs, hbare, I5, st5, nf, hlt, keep, back, goes⟩ := G
  have pin5 := I5.pin (ga, go) (List.mem_append_right _ List.mem_cons_self)
  have glt : ga < s5.heap.objs.size := Heap.lt_size pin5.1
  have hSI : s5.heap.objs.size ≠ ga := Nat.ne_of_gt glt
  unfold collect
  refine wpAny_bind (wpAny_runValue (codeAny_builtin F.entry_proto_collect ?_))
  rw [Around.under_plainId F.plain_proto_collect _]
  show wpAny _ A.in1 (newList [] >>= fun l => again (.builtin "list.__iadd__" ⟨[l, .ref ga], []⟩)) _ _ s5
  refine wpAny_bind (wpAny_newObj_type ?_)
  refine wpAny_pure ⟨plainId_quiet F.plain_list_iadd _, codeAny_builtin F.entry_list_iadd ?_⟩
  rw [Around.under_plainId F.plain_list_iadd _]
  show wpAny _ A.in1 (Builtin.List.listExtendWith (.ref s5.heap.objs.size) (.ref ga) (.ref s5.heap.objs.size)) _ _ _
  unfold Builtin.List.listExtendWith
  have k1 : ∀ b o, s5.heap.get? b = some o → (s5.heap.push { cls := .type "list", data := .seq ([] : List Value).toArray }).get? b = some o := fun b o e => Heap.get?_push_of_some _ e
  have hT : Shared.TypeIs { s5 with heap := s5.heap.push { cls := .type "list", data := .seq ([] : List Value).toArray } } (.ref ga) "generator" := Heap.IsGen.typeIs (s := { s5 with heap := _ }) (hGO.isGen (k1 _ _ pin5.1))
  refine wpAny_bind (wpAny_typeOf hT ?_)
  have h1 : Builtin.List.listSameRef (.ref s5.heap.objs.size) (.ref ga) = false := by simp [Builtin.List.listSameRef, hSI]
  have h2 : (Value.type "generator" == Value.type "list") = false := by decide
  have h3 : (Value.type "generator" == Value.type "tuple") = false := by decide
  simp only [h1, h2, h3, Bool.or_false, Bool.false_eq_true, if_false]
  refine wpAny_bind (wpAny_pyIter_gen (s := { s5 with heap := _ }) (hGO.isGen (k1 _ _ pin5.1)) ?_)
  refine wpAny_bind (wpAny_holding ?_)
  unfold Builtin.List.listLengthHint
  refine wpAny_bind (wpAny_specialOf hT F.gen_no_len ?_)
  show wpAny _ A.in1 (specialOf (Value.ref ga) (Str.ofString "__length_hint__") >>= _) _ _ _
  refine wpAny_bind (wpAny_specialOf hT F.gen_no_hint ?_)
  refine wpAny_pure ?_
  show wpAny _ A.in1 (rule "list.extend.makes-room" >>= fun _ => Builtin.List.listTouch (.ref s5.heap.objs.size) >>= fun _ =>
    again (.builtin "list.extend.loop" ⟨[.ref s5.heap.objs.size, .ref ga, .ref s5.heap.objs.size], []⟩)) _ _ _
  refine wpAny_bind (wpAny_rule ?_)
  have hS₁ : (s5.heap.push { cls := .type "list", data := .seq ([] : List Value).toArray }).get? s5.heap.objs.size = some { cls := .type "list", data := .seq ([] : List Value).toArray } := Heap.get?_push_size _ rfl
  refine wpAny_bind ?_
  show wpAny _ A.in1 (updateSeq s5.heap.objs.size (·.push .none) >>= fun _ => updateSeq s5.heap.objs.size (·.pop)) _ _ _
  refine wpAny_bind (wpAny_updateSeq hS₁ rfl ?_)
  have hS₂ := Heap.get?_update_self (Obj.mapSeq (·.push Value.none)) hS₁ rfl
  refine wpAny_updateSeq hS₂ rfl ?_
  have hS₃ := Heap.get?_update_self (Obj.mapSeq (·.pop)) hS₂ rfl
  obtain ⟨c3, hS₄⟩ : ∃ c, (((s5.heap.push { cls := .type "list", data := .seq ([] : List Value).toArray }).update s5.heap.objs.size (Obj.mapSeq (·.push Value.none))).update s5.heap.objs.size (Obj.mapSeq (·.pop))).get? s5.heap.objs.size = some (lstObj #[] c) := ⟨_, hS₃⟩
  have k3 : ∀ b o, s5.heap.get? b = some o → (((s5.heap.push { cls := .type "list", data := .seq ([] : List Value).toArray }).update s5.heap.objs.size (Obj.mapSeq (·.push Value.none))).update s5.heap.objs.size (Obj.mapSeq (·.pop))).get? b = some o :=
    fun b o e => (Heap.get?_update_other _ _ (Ne.symm (Nat.ne_of_lt (Heap.lt_size e)))).trans ((Heap.get?_update_other _ _ (Ne.symm (Nat.ne_of_lt (Heap.lt_size e)))).trans (k1 b o e))
  have fS : FpOk (gblk X A' s_0 H_0 cenv fp) [(ga, go)] H4 s5.heap.objs.size := I5.fpOk (Nat.le_refl _) (I5.hok.fresh (Nat.le_refl _))
  have hfS : ∀ b ∈ fp, b ≠ s5.heap.objs.size := fun b hb => Nat.ne_of_lt (Nat.lt_trans (hlt b hb) glt)
  have I6 := inv_moved (s' := { s5 with heap := ((s5.heap.push { cls := .type "list", data := .seq ([] : List Value).toArray }).update s5.heap.objs.size (Obj.mapSeq (·.push Value.none))).update s5.heap.objs.size (Obj.mapSeq (·.pop)) }) I5 rfl I5.bare k3
  refine wpAny_pure ⟨plainId_quiet F.plain_extend_loop _, ext_gx (A := A) (A' := A') (s_0 := s_0) (H_0 := H_0) (cenv := cenv) (fp := fp) (tn := tn) (go := go) (gn := gn) (End := End) hh hroom hGO hSI ?_ fS.2.2.2.2.1 keep hfS
    (fun σ' H' ys acc c s1 I1 rv q => ?_) (m + 1) _ I6.nolimit (k3 _ _ pin5.1) ⟨gs, hgs, ?_⟩⟩
  · exact Nat.le_trans I5.sz (Nat.le_refl _)
  · show wpAny _ A (load s5.heap.objs.size >>= _) _ _ s1
    have pS := (I1.pin (s5.heap.objs.size, lstObj acc c) (List.mem_append_right _ (List.mem_cons_of_mem _ List.mem_cons_self))).1
    refine wpAny_bind (wpAny_load pS ?_)
    exact wpAny_pure (hQ s1 acc ys H' (back _ _ _ _ I1) rv q)
  · refine goes (List V) (ACl ga go s5.heap.objs.size) End YdL W m (m + 1) [] [(ga, go), (s5.heap.objs.size, lstObj #[] c3)] _ turn w0 (Nat.lt_succ_self _) (fun ys cp hac p hp b hb z => ?_) ⟨#[], c3, rfl, .nil⟩
      (inv_moved (I6.pins_of fun p hp => ?_) rfl (allBare_setGen (s := { s5 with heap := _ }) I5.bare rfl) fun _ _ q => q) (keep _ _ _ st5 fun b hb o q => k3 b o q)
    · obtain ⟨acc, c, rfl, _⟩ := hac
      rcases List.mem_cons.mp hp with e | e
      · rw [e] at z
        exact absurd (hlt b hb) (by rw [← z]; exact Nat.lt_irrefl _)
      · rw [List.mem_singleton.mp e] at z
        exact hfS b hb z.symm
    · rcases List.mem_cons.mp hp with e | e
      · rw [e]
        exact I6.pin (ga, go) (List.mem_append_right _ List.mem_cons_self)
      · rw [List.mem_singleton.mp e]
        exact ⟨hS₄, fS.1, fS.2.1, fS.2.2.1, fun v q => by cases q⟩
end
section
variable {X : Cx}
/-- tuple(elt for tg in iter for t2 in it2) -/
def tTupX2 (P : Addr) (wi : TI) (g1 : TG) (wi2 : TI) (g2 : TG) (te : TE) (vs vs2 : List Nat) : TE := fun σ H Q => wi σ H fun J H1 => GxR.TabG H1 P ∧ ∀ H2, GxR.Tabbed P H1 H2 → ∃ W : Nat → Nat → List V → Hp → Prop, (∃ m, W 0 m [] H2) ∧
  tGx2 J g1 wi2 g2 te (wipe σ vs) vs vs2 (fun ys H => ys.length ≤ sizeLine ∧ ∀ p, H p = none → Q (.ref p) (upd H p (.tup ys))) YdL W
theorem pe_tupX2 {c P : Addr} {elt tg iter t2 it2 : Expr} {p pos gpos : Pos} {scope : Scope} {own : List (Str × Nat)} {wi : TI} {g1 g2 : TG} {wi2 : TI} {vs2 : List Nat} {te : TE} {k : Nat}
    (hr : Room (k + 1) X.A) (hc : X.calm = true) (hN : X.N.Nodup) (hgl : Gl X "tuple") (hm : X.mg "tuple" = none) (hb : bootBuiltins "tuple" = some (.type "tuple")) (TB : GxR.TabB X.base X.mg c P) (hcode : X.env.code = .ref c)
    (hco : scope.isCoroutine = false) (hdot : scope.names.lookup (".0" : Str) = some NameKind.local) (nocell : ∀ y ∈ scope.names, y.2 ≠ .cell) (ok : BlkOk X.N X.env.scope scope own) (hi : PI X tg iter wi)
    (hg : ∀ (A' : Around) (s : Shared) (H : Hp) (C : Addr) (cl : List (Str × Addr)) (code : Value) (fp : List Addr), Room k A' → A'.guards = X.A.guards → PG (gblk X A' s H (genEnv scope cl C code builtinsNs X.env) fp) tg g1)
    (hi2 : ∀ (A' : Around) (s : Shared) (H : Hp) (C : Addr) (cl : List (Str × Addr)) (code : Value) (fp : List Addr), Room k A' → A'.guards = X.A.guards → PI (gblk X A' s H (genEnv scope cl C code builtinsNs X.env) fp) t2 it2 wi2)
    (hg2 : ∀ (A' : Around) (s : Shared) (H : Hp) (C : Addr) (cl : List (Str × Addr)) (code : Value) (fp : List Addr), Room k A' → A'.guards = X.A.guards → PG (gblk X A' s H (genEnv scope cl C code builtinsNs X.env) fp) t2 g2)
    (he : ∀ (A' : Around) (s : Shared) (H : Hp) (C : Addr) (cl : List (Str × Addr)) (code : Value) (fp : List Addr), Room k A' → A'.guards = X.A.guards → PE (gblk X A' s H (genEnv scope cl C code builtinsNs X.env) fp) elt te)
    (hs : ∀ v, genFold iter X.env v = pure v) (hs2 : ∀ (e : Env) x, foldedSetIterable it2 e x = pure x)
    (hst : starEach [.GeneratorExp elt [⟨tg, iter, [], 0⟩, ⟨t2, it2, [], 0⟩] scope gpos] X.env = (false, eval (.GeneratorExp elt [⟨tg, iter, [], 0⟩, ⟨t2, it2, [], 0⟩] scope gpos) X.env) :: starEach [] X.env := by rfl) :
    PE X (.Call (.Name "tuple" p) [.GeneratorExp elt [⟨tg, iter, [], 0⟩, ⟨t2, it2, [], 0⟩] scope gpos] [] pos) (tTupX2 P wi g1 wi2 g2 te (own.map (·.2)) vs2) := by
  refine ⟨fun pins s σ H Q I h => ?_⟩
  refine wpAny_Call_Name_kw (ld_blt I hgl hm hb ?_)
  refine PyProof.Rows.callWith_type1 ?_ hst (by rfl)
  rw [hst]
  show wpAny _ _ (spliced ((false, eval (.GeneratorExp elt [⟨tg, iter, [], 0⟩, ⟨t2, it2, [], 0⟩] scope gpos) X.env) :: backTo pos (starEach [] X.env))) _ _ s
  refine Calls.spliced_cons (gx_make2 (vs2 := vs2) (A := X.A.in1.in1.in1.in1) hr ⟨rfl, rfl, rfl, rfl, (by show X.A.units + 1 + 1 + 1 + 1 ≤ _; omega)⟩ hc hN TB hcode hco hdot nocell ok hi hg hi2 hg2 he hs hs2 I h fun J H1 H2 u s5 hR hT hG => ?_)
  obtain ⟨W, ⟨m, w0⟩, turn⟩ := hR H2 hT
  refine Calls.spliced_nil ?_
  have ⟨A', s_0, H_0, cenv, fp, ga, gn, go, tn, gs, eu, hGO, hgs, hbare, I5, st5, nf, hlt, keep, back, goes⟩ := hG
  have pin5 := (I5.pin (ga, go) (List.mem_append_right _ List.mem_cons_self)).1
  rw [eu] at hG ⊢
  refine callType_codes (Q₁ := fun obj s₁ => s₁.TypeIs obj "tuple" ∧ EP X pins σ Q obj s₁) F.called_tuple (F.typeCall_tuple_1 _) F.entry_object_init ?_ fun obj s₁ h₁ =>
    ⟨h₁.1, F.args_object_init_2 obj _, object_init_meets F.called_tuple.init.lookup F.called_tuple.made (by decide) X.prog X.w X.A.in1 _ s₁ ⟨h₁.1, rfl, h₁.2⟩⟩
  refine codeAny_of_tree ?_
  show wpAny _ X.A.in1.in1 (do checkBuiltinCall "tuple.__new__" ⟨[.type "tuple", .ref ga], []⟩; again (.builtin "tuple.__new__" ⟨[.type "tuple", .ref ga], []⟩)) _ _ s5
  refine wpAny_bind (wpAny_of_eq (F.newCall_tuple_1 _) (wpAny_pure ⟨plainId_quiet F.plain_tuple_new _, codeAny_builtin F.entry_tuple_new ?_⟩))
  rw [Around.under_plainId F.plain_tuple_new _]
  have hsub := sub_tuple_self
  have hinit := init_tuple_lookup
  have hmh := madeHere_tuple
  have hTI : s5.TypeIs (.ref ga) "generator" := (hGO.isGen pin5).typeIs
  have col : ∀ {Q0 : List Value → Shared → Prop} {E0 : Value → Shared → Prop}, (∀ (s' : Shared) (acc : Array Value), (∃ (ys : List V) (H' : Hp), Inv X pins σ H' s' ∧ Vals ys acc.toList ∧ ys.length ≤ sizeLine ∧ ∀ p, H' p = none → Q (.ref p) (upd H' p (.tup ys))) → Q0 acc.toList s') →
      wpAny (model X.prog X.w) X.A.in1.in1 (collect (.ref ga)) Q0 E0 s5 := fun hq => collect_gx2 hr.hd hr.depth hG w0 turn (fun s' acc ys H' I' rv q => hq s' acc ⟨ys, H', I', rv, q.1, q.2⟩)
  wp_walk using wpAny_typeOf hTI, col
  rintro s' acc ⟨ys, H', I', rv, small, q⟩
  show wpAny _ _ (Builtin.Tuple.tupleExact acc.toList.toArray >>= fun v => ret v) _ _ _
  unfold Builtin.Tuple.tupleExact
  refine wpAny_bind (wpAny_newObj_type ?_ (by show acc.toList.toArray.size ≤ sizeLine; rw [List.size_toArray, ← rv.length]; exact small))
  refine wpAny_pure ?_
  have free : H' s'.heap.objs.size = none := I'.hok.fresh (Nat.le_refl _)
  refine ⟨⟨_, Heap.get?_push_size _ rfl, rfl⟩, .ref s'.heap.objs.size, upd H' s'.heap.objs.size (.tup ys), I'.laid (t' := s'.toks) (fun b u z => Heap.get?_push_of_some _ z) (Nat.le_refl _) ⟨small, acc.toList, rv, ?_⟩, rfl, q _ free⟩
  exact ⟨_, Heap.get?_push_size _ rfl, rfl, 0, rfl⟩
end

end
end Gk

set_option Elab.async false
set_option linter.all false
set_option maxRecDepth 100000
set_option maxHeartbeats 1000000
set_option pp.maxSteps 1500
set_option pp.deepTerms false
namespace Gk
open PySem PySem.Spec PyProof.Rows L2
section
variable {P : Program} {w : World} {K : PySem.W.Frag} {mg : Str → Option Value} {base : Heap}
/-! ### data of tuples alone: no list that is written can harm it -/
mutual
def noL : PyData → Bool
  | .list _ => false
  | .tuple ds => noLs ds
  | _ => true
def noLs : List PyData → Bool
  | [] => true
  | d :: r => noL d && noLs r
end
def Ts (H H' : Hp) : Prop := ∀ b xs, H b = some (HO.tup xs) → H' b = some (.tup xs)
theorem Ts.refl {H : Hp} : Ts H H := fun _ _ e => e
theorem Ts.trans {H H1 H2 : Hp} (a : Ts H H1) (b : Ts H1 H2) : Ts H H2 := fun c xs e => b c xs (a c xs e)
theorem Ts.same {H H' : Hp} (s : Same H H') : Ts H H' := fun b xs e => s _ _ e
theorem Ts.gr {H H' : Hp} (s : Gr H H') : Ts H H' := fun b xs e => s.tup e
theorem Ts.new {H : Hp} {p : Addr} {o : HO} (h : H p = none) : Ts H (upd H p o) := Ts.same (same_upd h)
theorem Ts.set {H : Hp} {p : Addr} {xs ys : List V} (h : H p = some (.lst xs)) : Ts H (upd H p (.lst ys)) := fun b zs e => by
  rw [upd_ne (ne_of e h (by intro z; cases z))]
  exact e
mutual
theorem Tk.ts {H H' : Hp} (s : Ts H H') : ∀ {v : V} {d : PyData}, Tk H v d → noL d = true → Tk H' v d
  | _, _, .bl b, _ => .bl b
  | _, _, .int i, _ => .int i
  | _, _, .str x, _ => .str x
  | _, _, .lst h t, n => by cases n
  | _, _, .tup h t, n => .tup (s _ _ h) (t.ts s n)
theorem TkAll.ts {H H' : Hp} (s : Ts H H') : ∀ {vs : List V} {ds : List PyData}, TkAll H vs ds → noLs ds = true → TkAll H' vs ds
  | _, _, .nil, _ => .nil
  | _, _, .cons (d := d) (ds := ds) h t, n => by
    have n' : noL d = true ∧ noLs ds = true := Bool.and_eq_true_iff.mp n
    exact .cons (h.ts s n'.1) (t.ts s n'.2)
end
theorem noLs_map {α : Type} {f : α → PyData} (h : ∀ x, noL (f x) = true) : ∀ l : List α, noLs (l.map f) = true
  | [] => rfl
  | x :: r => by
    show (noL (f x) && noLs (r.map f)) = true
    rw [h x, noLs_map h r]
    rfl
theorem noL_row (r : List Int) : noL (rowD r) = true := noLs_map (fun _ => rfl) r
theorem noL_gate (g : Gt) : noL (gD g) = true := by
  show (true && (noLs ((g.2.map Int.ofNat).map PyData.int) && true)) = true
  rw [noLs_map (fun _ => rfl)]
  rfl
theorem noL_gates (gs : List Gt) : noLs (gs.map gD) = true := noLs_map noL_gate gs
theorem noL_net (m : Int) (gs : List Gt) : noL (netD m gs) = true := by
  show (true && (noLs (gs.map gD) && true)) = true
  rw [noL_gates]
  rfl
theorem noL_ch (a b : List Int) : noL (chD a b) = true := by
  show (noL (rowD a) && (noL (rowD b) && true)) = true
  rw [noL_row, noL_row]
  rfl

/-! ### slices and sums of tuples: what is told stands in a heap that has grown -/
theorem cut_all {xs : List V} {lo hi : Option Int} (h : HT.sIx xs.length 0 lo = 0 ∧ HT.sIx xs.length xs.length hi = xs.length) : cutV xs lo hi = xs := by
  unfold cutV
  rw [h.1, h.2, List.drop_zero, Nat.sub_zero, List.take_length]
theorem same_refl {H : Hp} : Same H H := fun _ _ e => e
theorem slA {K : PySem.W.Frag} {a : Addr} {xs : List V} {lo hi : Option Int} {H : Hp} {Q : VK} (h : H a = some (.tup xs)) (q : ∀ p H', Same H H' → H' p = some (.tup (cutV xs lo hi)) → Q (.ref p) H') : rSlA K (.ref a) lo hi H Q :=
  ⟨a, xs, rfl, SqT.of h, fun w => q a H same_refl (by rw [cut_all w]; exact h), fun _ p np => q p _ (same_upd np) upd_same⟩
theorem slAn {K : PySem.W.Frag} {a : Addr} {xs : List V} {lo : Option Int} {H : Hp} {Q : VK} {σ : L2.St} (h : H a = some (.tup xs)) (q : ∀ p H', Same H H' → H' p = some (.tup (cutV xs lo none)) → Q (.ref p) H') : tNoPart σ H (fun u H3 => rSlA K (.ref a) lo u H3 Q) := slA h q
theorem catA {K : PySem.W.Frag} {a b : Addr} {xs ys : List V} {H : Hp} {Q : VK} (ha : H a = some (.tup xs)) (hb : H b = some (.tup ys)) (hl : xs.length + ys.length ≤ sizeLine) (q : ∀ p H', Same H H' → H' p = some (.tup (xs ++ ys)) → Q (.ref p) H') : rCatA K (.ref a) (.ref b) H Q :=
  ⟨a, b, xs, ys, rfl, rfl, SqT.of ha, SqT.of hb, hl, fun e => q b H same_refl (by rw [e]; exact hb), fun _ e => q a H same_refl (by rw [e, List.append_nil]; exact ha), fun _ _ p np => q p _ (same_upd np) upd_same⟩
theorem cut_to {xs : List V} {k : Nat} : cutV xs none (some (k : Int)) = xs.take k := by
  unfold cutV
  rw [HT.sIx_none, HT.sIx_nat, List.drop_zero, Nat.sub_zero]
  apply List.ext_getElem?
  intro i
  rw [List.getElem?_take, List.getElem?_take]
  by_cases h : i < k
  · rw [if_pos h]
    by_cases h2 : i < xs.length
    · rw [if_pos (by omega)]
    · rw [List.getElem?_eq_none (by omega)]
      split <;> rfl
  · rw [if_neg h, if_neg (by omega)]
theorem cut_from {xs : List V} {k : Nat} : cutV xs (some (k : Int)) none = xs.drop k := by
  unfold cutV
  rw [HT.sIx_none, HT.sIx_nat]
  by_cases h : k ≤ xs.length
  · rw [Nat.min_eq_left h]
    exact List.take_of_length_le (by rw [List.length_drop]; exact Nat.le_refl _)
  · rw [Nat.min_eq_right (by omega), Nat.sub_self, List.take_zero, List.drop_eq_nil_of_le (by omega)]
theorem TkAll.take {H : Hp} : ∀ {xs : List V} {ds : List PyData} (k : Nat), TkAll H xs ds → TkAll H (xs.take k) (ds.take k)
  | _, _, 0, _ => by rw [List.take_zero, List.take_zero]; exact .nil
  | _, _, _ + 1, .nil => .nil
  | _, _, k + 1, .cons a t => .cons a (t.take k)
theorem TkAll.drop {H : Hp} : ∀ {xs : List V} {ds : List PyData} (k : Nat), TkAll H xs ds → TkAll H (xs.drop k) (ds.drop k)
  | _, _, 0, t => t
  | _, _, _ + 1, .nil => .nil
  | _, _, k + 1, .cons _ t => t.drop k
theorem set_put {α : Type} {l : List α} {i : Nat} {x : α} (h : i < l.length) : (l.take i ++ [x]) ++ l.drop (i + 1) = l.set i x := by
  rw [List.set_eq_take_append_cons_drop, if_pos h, List.append_assoc]
  rfl
def rJoinK (K : PySem.W.Frag) : V → List V → Hp → VK → Prop := fun x xs H Q => ∃ a p, ∃ ys : List Str, x = .str a ∧ xs = [.ref p] ∧ (SqL K H p (ys.map V.str) ∨ SqT K H p (ys.map V.str)) ∧ (ys.map (·.length)).sum + ys.length * a.length ≤ 16777216 ∧ Q (.str (Txt.join a ys)) H

/-! ### the deck of k07 to k13: a dict with cells from behind, a seed, a count -/
theorem mix_mul (x : Int) (h : 0 ≤ x) (h1 : x < 2147483648) : -2 ^ 64 < x ∧ x < 2 ^ 64 := by omega
def sp_mixed (K : PySem.W.Frag) : Sp := fun vs H Q _ => ∃ i : Int, vs = [.int i] ∧ ∀ v : Int, 0 ≤ v → v < 2147483587 → Q (.int v) H
theorem ok_mixed (T : Tx K mg) : FnOk P w K mg base CX0 1 T.f_mixed T.fd_mixed ["_law_number"] (sp_mixed K) := by
  refine T.F_mixed.ok sc_mixed (fun vs H Q E h => ?_) (fun cdv A outer s H vs Q E hr h => ?_)
  · obtain ⟨i, rfl, _⟩ := h
    rfl
  · obtain ⟨i, rfl, q⟩ := h
    refine ⟨_, (pss_cons (ps_set (i := 0) sc_mixed.nd rfl (by first | exact .inl rfl | exact .inr rfl) (pe_op op_mod (pe_op op_add (pe_op op_mul (pe_op op_mod (pv 0) pe_int) pe_int) pe_int) pe_int)) (pss_cons (ps_set (i := 0) sc_mixed.nd rfl (by first | exact .inl rfl | exact .inr rfl) (pe_op op_mod (pe_op op_add (pe_op op_add (pe_op op_mul (pv 0) (pv 0)) (pe_op op_mul pe_int (pv 0))) pe_int) pe_int)) (pss_one (ps_ret (pe_op op_mod (pe_op op_add (pe_op op_mul (pv 0) pe_int) pe_int) pe_int))))), ?_⟩
    have p1 : (0 : Int) < 2147483629 := by decide
    have p2 : (0 : Int) < 2147483647 := by decide
    have p3 : (0 : Int) < 2147483587 := by decide
    have small : ∀ x y : Int, 0 < y → y < 2147483648 → (-2 ^ 64 < x % y ∧ x % y < 2 ^ 64) := fun x y h0 h1 => by
      have a := Int.emod_nonneg x (show y ≠ 0 by omega)
      have b := Int.emod_lt_of_pos x h0
      omega
    refine ⟨.int i, rfl, _, _, rfl, rfl, p1, _, _, rfl, rfl, .inr ⟨by decide, by decide⟩, _, _, rfl, rfl, _, _, rfl, rfl, p2, ?_⟩
    refine ⟨_, rfl, _, rfl, _, _, rfl, rfl, .inl (small _ _ p2 (by decide)), _, rfl, _, _, rfl, rfl, .inl ⟨by decide, by decide⟩, _, _, rfl, rfl, _, _, rfl, rfl, _, _, rfl, rfl, p1, ?_⟩
    refine ⟨_, rfl, _, _, rfl, rfl, .inr ⟨by decide, by decide⟩, _, _, rfl, rfl, _, _, rfl, rfl, p3, ?_⟩
    exact q _ (Int.emod_nonneg _ (by decide)) (Int.emod_lt_of_pos _ p3)
def kC : Key := .inr (Str.ofString "cells")
def kS : Key := .inr (Str.ofString "seed")
def kA : Key := .inr (Str.ofString "at")
def DeckF (H : Hp) (d l : Addr) (n : Int) : Prop := d ≠ l ∧ ∃ (cs : List Int) (y z : Int), H d = some (.dK [(kC, .ref l), (kS, .int y), (kA, .int z)]) ∧ H l = some (.lst (cs.map V.int)) ∧ cs.length ≤ 63 ∧ 0 ≤ z ∧ z ≤ n
theorem cut63 {ns : List Int} (h : ns.length ≤ 63) : cutV (ns.map V.int) none (some 63) = ns.map V.int := by
  unfold cutV
  have e : HT.sIx (ns.map V.int).length (ns.map V.int).length (some 63) = min 63 (ns.map V.int).length := HT.sIx_nat _ _ 63
  rw [HT.sIx_none, e, List.length_map, List.drop_zero]
  apply List.take_of_length_le
  rw [List.length_map]
  omega
def sp_deck (K : PySem.W.Frag) : Sp := fun vs H Q _ => ∃ (a : Addr) (ns : List Int), vs = [.ref a] ∧ SqL K H a (ns.map V.int) ∧ ns.length ≤ 63 ∧ ∀ H' d l, Same H H' → DeckF H' d l 0 → Q (.ref d) H'
theorem ok_deck (T : Tx K mg) : FnOk P w K mg base CX0 1 T.f_deck T.fd_deck ["_law_script"] (sp_deck K) := by
  refine T.F_deck.ok sc_deck (fun vs H Q E h => ?_) (fun cdv A outer s H vs Q E hr h => ?_)
  · obtain ⟨a, ns, rfl, _⟩ := h
    rfl
  · obtain ⟨a, ns, rfl, hS, hlen, q⟩ := h
    refine ⟨_, (pss_cons (ps_set (i := 1) sc_deck.nd rfl (by first | exact .inl rfl | exact .inr rfl) (pe_callTy call_list_of (by rfl) T.m_list (by decide +kernel) (pa_cons (pe_slice sl_list (pv 0) po_none (po_some pe_int)) pa_nil))) (pss_one (ps_ret (pe_disp (pps_cons pe_str (pe_revL (pv 1)) (pps_cons pe_str (pe_op op_add pe_int (pe_op op_mod (pe_callB (cr_sum rfl) (by rfl) T.m_sum (by decide +kernel) (pa_cons (pv 1) pa_nil)) pe_int)) (pps_cons pe_str pe_int pps_nil))) (by rfl) (by rfl) (fun z => by cases z) (by decide))))), ?_⟩
    refine ⟨.ref a, rfl, 63, rfl, a, _, rfl, hS, fun c1 n1 => ?_⟩
    rw [cut63 hlen]
    have s1 := same_upd (o := (HO.lst (ns.map V.int))) n1
    have h1 : upd H c1 (HO.lst (ns.map V.int)) c1 = some (HO.lst (ns.map V.int)) := upd_same
    generalize upd H c1 (HO.lst (ns.map V.int)) = H1 at s1 h1 ⊢
    refine ⟨c1, _, rfl, .inl (SqL.of h1), fun c2 n2 => ?_⟩
    have s2 := same_upd (o := (HO.lst (ns.map V.int))) n2
    have h2 : upd H1 c2 (HO.lst (ns.map V.int)) c2 = some (HO.lst (ns.map V.int)) := upd_same
    generalize upd H1 c2 (HO.lst (ns.map V.int)) = H2 at s2 h2 ⊢
    refine fun d nd => ?_
    have s3 := same_upd (o := (HO.dK [])) nd
    have h3 : upd H2 d (HO.dK []) d = some (HO.dK []) := upd_same
    generalize upd H2 d (HO.dK []) = H3 at s3 h3 ⊢
    refine ⟨.ref c2, rfl, c2, _, rfl, SqL.of (s3 _ _ h2), fun l nl => ?_⟩
    have s4 := same_upd (o := (HO.lst (ns.map V.int).reverse)) nl
    have h4 : upd H3 l (HO.lst (ns.map V.int).reverse) l = some (HO.lst (ns.map V.int).reverse) := upd_same
    generalize upd H3 l (HO.lst (ns.map V.int).reverse) = H4 at s4 h4 ⊢
    have s24 := s3.trans s4
    refine ⟨.ref c2, rfl, c2, ns, rfl, SqL.of (s24 _ _ h2), _, _, rfl, rfl, (show (0 : Int) < 2147483647 by decide), _, _, rfl, rfl, ?_⟩
    refine ⟨s4 _ _ h3, [(kC, .ref l), (kS, _), (kA, .int 0)], rfl, (show 3 ≤ 15 by decide), ?_⟩
    have nH : H d = none := by
      cases e : H d with
      | none => rfl
      | some o =>
        have := (s1.trans s2) _ _ e
        rw [nd] at this
        cases this
    have em : ∀ v1 v2 v3 : V, mergeK [] [(kC, v1), (kS, v2), (kA, v3)] = [(kC, v1), (kS, v2), (kA, v3)] := fun v1 v2 v3 => rfl
    rw [em]
    have ndl : l ≠ d := (ne_of_none h3 nl).symm
    have hl' : upd H4 d (.dK [(kC, .ref l), (kS, V.int (48271 + ns.sum % 2147483647)), (kA, .int 0)]) l = some (.lst ((ns.reverse).map V.int)) := by
      rw [upd_ne ndl, h4, List.map_reverse]
    refine q _ d l (fun b o e => ?_) ⟨ndl.symm, ns.reverse, _, 0, upd_same, hl', by rw [List.length_reverse]; exact hlen, Int.le_refl _, Int.le_refl _⟩
    rw [upd_ne (ne_of_none e nH)]
    exact (((s1.trans s2).trans s3).trans s4) _ _ e
/-! ### a draw -/
theorem DeckF.mono {H : Hp} {d l : Addr} {n m : Int} (D : DeckF H d l n) (h : n ≤ m) : DeckF H d l m := by
  obtain ⟨ne, cs, y, z, h1, h2, h3, h4, h5⟩ := D
  exact ⟨ne, cs, y, z, h1, h2, h3, h4, Int.le_trans h5 h⟩
theorem DeckF.same {H H' : Hp} {d l : Addr} {n : Int} (D : DeckF H d l n) (s : Same H H') : DeckF H' d l n := by
  obtain ⟨ne, cs, y, z, hd, hl, r⟩ := D
  exact ⟨ne, cs, y, z, s _ _ hd, s _ _ hl, r⟩
theorem DeckF.gr {H H' : Hp} {d l : Addr} {n : Int} (D : DeckF H d l n) (s : Gr H H') : DeckF H' d l n := by
  obtain ⟨ne, cs, y, z, hd, hl, r⟩ := D
  exact ⟨ne, cs, y, z, s.1 d _ (fun _ z => by cases z) hd, s.lst hl, r⟩
theorem DeckF.upd {H : Hp} {d l p : Addr} {n : Int} {o : HO} (D : DeckF H d l n) (h1 : p ≠ d) (h2 : p ≠ l) : DeckF (upd H p o) d l n := by
  obtain ⟨ne, cs, y, z, hd, hl, r⟩ := D
  exact ⟨ne, cs, y, z, by rw [upd_ne h1.symm]; exact hd, by rw [upd_ne h2.symm]; exact hl, r⟩
theorem DeckF.off {H : Hp} {d l p : Addr} {n : Int} (D : DeckF H d l n) (h : H p = none) : p ≠ d ∧ p ≠ l := by
  obtain ⟨ne, cs, y, z, hd, hl, r⟩ := D
  exact ⟨(ne_of_none hd h).symm, (ne_of_none hl h).symm⟩
theorem dgC {H : Hp} {d l : Addr} {y z : Int} (h : H d = some (.dK [(kC, .ref l), (kS, .int y), (kA, .int z)])) : DGet H d (.str (Str.ofString "cells")) (some (.ref l)) := DGet.k (k := kC) h
theorem dgS {H : Hp} {d l : Addr} {y z : Int} (h : H d = some (.dK [(kC, .ref l), (kS, .int y), (kA, .int z)])) : DGet H d (.str (Str.ofString "seed")) (some (.int y)) := DGet.k (k := kS) h
theorem dgA {H : Hp} {d l : Addr} {y z : Int} (h : H d = some (.dK [(kC, .ref l), (kS, .int y), (kA, .int z)])) : DGet H d (.str (Str.ofString "at")) (some (.int z)) := DGet.k (k := kA) h
theorem dpS {H : Hp} {d l : Addr} {y z : Int} (v : Int) (h : H d = some (.dK [(kC, .ref l), (kS, .int y), (kA, .int z)])) : DPut H d (.str (Str.ofString "seed")) (.int v) (upd H d (.dK [(kC, .ref l), (kS, .int v), (kA, .int z)])) := DPut.k (k := kS) h (by show 3 < sizeLine; decide)
theorem dpA {H : Hp} {d l : Addr} {y z : Int} (v : Int) (h : H d = some (.dK [(kC, .ref l), (kS, .int y), (kA, .int z)])) : DPut H d (.str (Str.ofString "at")) (.int v) (upd H d (.dK [(kC, .ref l), (kS, .int y), (kA, .int v)])) := DPut.k (k := kA) h (by show 3 < sizeLine; decide)
theorem never_ok {f : Addr} {fd : FuncData} {ps : List Str} : FnOk P w K mg base CX0 0 f fd ps (fun _ _ _ _ => False) := ⟨fun _ _ _ _ h => h.elim, fun _ _ _ _ _ _ _ _ _ _ _ _ _ h => h.elim⟩
def sp_drawN (K : PySem.W.Frag) (B c : Int) : Sp := fun vs H Q _ => ∃ (d l : Addr) (m n : Int), vs = [.ref d, .int m] ∧ DeckF H d l n ∧ n + c < 1000000000 ∧ 0 < m ∧ m ≤ B ∧ ∀ H' v, DeckF H' d l (n + c) → Fr d l H H' → 0 ≤ v → v < m → Q (.int v) H'
theorem ok_draw0 (T : Tx K mg) : FnOk P w K mg base CX0 2 T.f_draw T.fd_draw ["_law_deck_here", "_law_most"] (sp_drawN K 1000000 1) := by
  refine T.F_draw.ok sc_draw (fun vs H Q E h => ?_) (fun cdv A outer s H vs Q E hr h => ?_)
  · obtain ⟨d, l, m, n, rfl, _⟩ := h
    rfl
  · obtain ⟨d, l, m, n, rfl, D, hn, hm0, hm1, q⟩ := h
    refine ⟨_, (pss_cons (ps_if (pt_cmpR op_gt (pv 1) (pe_op op_pow pe_int pe_int) (nomark _)) (pss_cons (ps_set (i := 2) sc_draw.nd rfl (by first | exact .inl rfl | exact .inr rfl) (pe_call (never_ok) (hr.mono (by decide)) (by rfl) T.g_draw T.F_draw.kp T.b_draw .nil pass0 (pa_cons (pv 0) (pa_cons (pe_op op_pow pe_int pe_int) pa_nil)))) (pss_one (ps_ret (pe_op op_mod (pe_op op_add (pv 2) (pe_op op_mul (pe_op op_pow pe_int pe_int) (pe_call (never_ok) (hr.mono (by decide)) (by rfl) T.g_draw T.F_draw.kp T.b_draw .nil pass0 (pa_cons (pv 0) (pa_cons (pe_op op_add (pe_op op_fdiv (pe_op op_sub (pv 1) pe_int) (pe_op op_pow pe_int pe_int)) pe_int) pa_nil))))) (pv 1))))) pss_nil) (pss_cons (ps_dput (hu_of hr) (pv 0) pe_str (pe_op op_add (pe_dget (hu_of hr) (pv 0) pe_str (fun _ _ => rfl)) pe_int) rfl) (pss_cons (ps_if (pt_cmpR (op_eqD hr.units) (pe_dget (hu_of hr) (pv 0) pe_str (fun _ _ => rfl)) (pe_lst pa_nil) (nomark _)) (pss_cons (ps_dput (hu_of hr) (pv 0) pe_str (pe_call (ok_mixed T) (hr.mono (by decide)) (by rfl) T.g_mixed T.F_mixed.kp T.b_mixed .nil pass0 (pa_cons (pe_op op_add (pe_dget (hu_of hr) (pv 0) pe_str (fun _ _ => rfl)) (pe_dget (hu_of hr) (pv 0) pe_str (fun _ _ => rfl))) pa_nil)) rfl) (pss_one (ps_ret (pe_op op_mod (pe_op op_fdiv (pe_dget (hu_of hr) (pv 0) pe_str (fun _ _ => rfl)) pe_int) (pv 1))))) pss_nil) (pss_cons (ps_set (i := 3) sc_draw.nd rfl (by first | exact .inl rfl | exact .inr rfl) (pe_bm0 PySem.F.plainAttrs_list PySem.F.slot_list_pop PySem.F.type_list_pop mt_pop (pe_dget (hu_of hr) (pv 0) pe_str (fun _ _ => rfl)))) (pss_cons (ps_if (pt_cmpR op_ge (pv 3) (pe_op op_pow pe_int pe_int) (nomark _)) (pss_cons (ps_expr (pe_bm PySem.F.plainAttrs_list PySem.F.slot_list_append PySem.F.type_list_append mt_append (pe_dget (hu_of hr) (pv 0) pe_str (fun _ _ => rfl)) (pa_cons (pe_op op_fdiv (pv 3) (pv 1)) pa_nil))) (pss_one (ps_ret (pe_op op_mod (pv 3) (pv 1))))) pss_nil) (pss_one (ps_ret (pe_op op_mod (pe_op op_fdiv (pe_call (ok_mixed T) (hr.mono (by decide)) (by rfl) T.g_mixed T.F_mixed.kp T.b_mixed .nil pass0 (pa_cons (pe_op op_add (pv 3) (pe_dget (hu_of hr) (pv 0) pe_str (fun _ _ => rfl))) pa_nil)) pe_int) (pv 1))))))))), ?_⟩
    refine ⟨.int m, rfl, _, _, rfl, rfl, ⟨by decide, by decide, by decide⟩, _, _, rfl, rfl, _, rfl, ite2 (fun z => ?_) (fun small => ?_)⟩
    · have z' : (10 : Int) ^ (6 : Int).toNat < m := of_decide_eq_true z
      have e6 : (10 : Int) ^ (6 : Int).toNat = 1000000 := by decide
      omega
    obtain ⟨ne, cs, y, z, hd, hl, hcs, hz0, hz1⟩ := D
    refine ⟨.ref d, rfl, d, .int z, rfl, dgA hd, _, _, rfl, rfl, .ref d, rfl, d, _, rfl, dpA (z + 1) hd, ?_⟩
    have hd1 : upd H d (.dK [(kC, .ref l), (kS, .int y), (kA, .int (z + 1))]) d = some (.dK [(kC, .ref l), (kS, .int y), (kA, .int (z + 1))]) := upd_same
    have hl1 : upd H d (.dK [(kC, .ref l), (kS, .int y), (kA, .int (z + 1))]) l = some (.lst (cs.map V.int)) := by rw [upd_ne ne.symm]; exact hl
    have fr1 : Fr d l H (upd H d (.dK [(kC, .ref l), (kS, .int y), (kA, .int (z + 1))])) := Fr.d
    generalize upd H d (.dK [(kC, .ref l), (kS, .int y), (kA, .int (z + 1))]) = H1 at hd1 hl1 fr1 ⊢
    refine ⟨.ref d, rfl, d, .ref l, rfl, dgC hd1, Nat.zero_le _, fun p np => ?_⟩
    have s2 := same_upd (o := (HO.lst [])) np
    have h2 : upd H1 p (HO.lst []) p = some (HO.lst []) := upd_same
    generalize upd H1 p (HO.lst []) = H2 at s2 h2 ⊢
    have hd2 := s2 _ _ hd1
    have hl2 := s2 _ _ hl1
    refine ⟨.list (cs.map .int), .list [], .lst (SqL.of hl2) (dpInts cs), .lst (SqL.of h2) .nil, shInts cs, rfl, _, rfl, ?_⟩
    have fr2 : Fr d l H H2 := fr1.trans (Fr.of s2)
    cases cs with
    | nil =>
      refine iteT ?_
      refine ⟨.ref d, rfl, d, .int y, rfl, dgS hd2, .ref d, rfl, d, .int (z + 1), rfl, dgA hd2, _, _, rfl, rfl, _, rfl, fun v v0 v1 => ?_⟩
      refine ⟨.ref d, rfl, d, _, rfl, dpS v hd2, ?_⟩
      refine ⟨.ref d, rfl, d, .int v, rfl, dgS upd_same, _, _, rfl, rfl, (⟨by decide, by decide⟩ : (0 : Int) < 8 ∧ (8 : Int) < 1073741824), .int m, rfl, _, _, rfl, rfl, hm0, ?_⟩
      exact q _ _ ⟨ne, [], v, z + 1, upd_same, by rw [upd_ne ne.symm]; exact hl2, Nat.zero_le _, by omega, by omega⟩ (fr2.trans Fr.d) (Int.emod_nonneg _ (by omega)) (Int.emod_lt_of_pos _ hm0)
    | cons c0 r0 =>
      refine iteF ?_
      obtain ⟨r, c, hrc⟩ : ∃ r c, c0 :: r0 = r ++ [c] := ⟨(c0 :: r0).dropLast, (c0 :: r0).getLast (by simp), (List.dropLast_concat_getLast (by simp)).symm⟩
      rw [hrc] at hl2 hcs
      rw [List.map_append] at hl2
      have lr : r.length ≤ 62 := by rw [List.length_append] at hcs; simp at hcs; omega
      refine ⟨.ref d, rfl, d, .ref l, rfl, dgC hd2, .inl ⟨rfl, _, SqL.of hl2⟩, l, _, .int c, rfl, rfl, hl2, by simp, ?_⟩
      have edl : (r.map V.int ++ [c].map V.int).dropLast = r.map V.int := List.dropLast_concat ..
      rw [edl]
      have hl3 : upd H2 l (.lst (r.map V.int)) l = some (.lst (r.map V.int)) := upd_same
      have hd3 : upd H2 l (.lst (r.map V.int)) d = some (.dK [(kC, .ref l), (kS, .int y), (kA, .int (z + 1))]) := by rw [upd_ne ne]; exact hd2
      have fr3 : Fr d l H (upd H2 l (.lst (r.map V.int))) := fr2.trans Fr.l
      show tSeq _ _ _ _ (upd H2 l (.lst (r.map V.int)))
      generalize upd H2 l (.lst (r.map V.int)) = H3 at hl3 hd3 fr3 ⊢
      have m6 : m ≤ 1000000 := by
        have e6 : (10 : Int) ^ (6 : Int).toNat = 1000000 := by decide
        have h6 : ¬ (10 : Int) ^ (6 : Int).toNat < m := fun k => small (decide_eq_true k)
        rw [e6] at h6
        omega
      refine ⟨.int c, rfl, _, _, rfl, rfl, ⟨by decide, by decide, by decide⟩, _, _, rfl, rfl, _, rfl, ite2 (fun _ => ?_) (fun _ => ?_)⟩
      · refine ⟨.ref d, rfl, d, .ref l, rfl, dgC hd3, .inl ⟨rfl, _, SqL.of hl3⟩, .int c, rfl, .int m, rfl, _, _, rfl, rfl, (⟨hm0, by omega⟩ : 0 < m ∧ m < 1073741824), l, _, _, rfl, rfl, hl3, ?_, ?_⟩
        · rw [List.length_map]
          exact Nat.lt_of_lt_of_le (show r.length < 128 by omega) (by decide)
        refine ⟨.int c, rfl, .int m, rfl, _, _, rfl, rfl, hm0, ?_⟩
        exact q _ _ ⟨ne, r ++ [c / m], y, z + 1, by rw [upd_ne ne]; exact hd3, by rw [upd_same, List.map_append]; rfl, by rw [List.length_append]; show r.length + 1 ≤ 63; omega, by omega, by omega⟩ (fr3.trans Fr.l) (Int.emod_nonneg _ (by omega)) (Int.emod_lt_of_pos _ hm0)
      · refine ⟨.int c, rfl, .ref d, rfl, d, .int (z + 1), rfl, dgA hd3, _, _, rfl, rfl, _, rfl, fun v v0 v1 => ?_⟩
        refine ⟨_, _, rfl, rfl, (⟨by decide, by decide⟩ : (0 : Int) < 8 ∧ (8 : Int) < 1073741824), .int m, rfl, _, _, rfl, rfl, hm0, ?_⟩
        exact q _ _ ⟨ne, r, y, z + 1, hd3, hl3, by omega, by omega, by omega⟩ fr3 (Int.emod_nonneg _ (by omega)) (Int.emod_lt_of_pos _ hm0)
theorem ok_draw1 (T : Tx K mg) : FnOk P w K mg base CX0 3 T.f_draw T.fd_draw ["_law_deck_here", "_law_most"] (sp_drawN K 1000000000000 2) := by
  refine T.F_draw.ok sc_draw (fun vs H Q E h => ?_) (fun cdv A outer s H vs Q E hr h => ?_)
  · obtain ⟨d, l, m, n, rfl, _⟩ := h
    rfl
  · obtain ⟨d, l, m, n, rfl, D, hn, hm0, hm1, q⟩ := h
    refine ⟨_, (pss_cons (ps_if (pt_cmpR op_gt (pv 1) (pe_op op_pow pe_int pe_int) (nomark _)) (pss_cons (ps_set (i := 2) sc_draw.nd rfl (by first | exact .inl rfl | exact .inr rfl) (pe_call (ok_draw0 T) (hr.mono (by decide)) (by rfl) T.g_draw T.F_draw.kp T.b_draw .nil pass0 (pa_cons (pv 0) (pa_cons (pe_op op_pow pe_int pe_int) pa_nil)))) (pss_one (ps_ret (pe_op op_mod (pe_op op_add (pv 2) (pe_op op_mul (pe_op op_pow pe_int pe_int) (pe_call (ok_draw0 T) (hr.mono (by decide)) (by rfl) T.g_draw T.F_draw.kp T.b_draw .nil pass0 (pa_cons (pv 0) (pa_cons (pe_op op_add (pe_op op_fdiv (pe_op op_sub (pv 1) pe_int) (pe_op op_pow pe_int pe_int)) pe_int) pa_nil))))) (pv 1))))) pss_nil) (pss_cons (ps_dput (hu_of hr) (pv 0) pe_str (pe_op op_add (pe_dget (hu_of hr) (pv 0) pe_str (fun _ _ => rfl)) pe_int) rfl) (pss_cons (ps_if (pt_cmpR (op_eqD hr.units) (pe_dget (hu_of hr) (pv 0) pe_str (fun _ _ => rfl)) (pe_lst pa_nil) (nomark _)) (pss_cons (ps_dput (hu_of hr) (pv 0) pe_str (pe_call (ok_mixed T) (hr.mono (by decide)) (by rfl) T.g_mixed T.F_mixed.kp T.b_mixed .nil pass0 (pa_cons (pe_op op_add (pe_dget (hu_of hr) (pv 0) pe_str (fun _ _ => rfl)) (pe_dget (hu_of hr) (pv 0) pe_str (fun _ _ => rfl))) pa_nil)) rfl) (pss_one (ps_ret (pe_op op_mod (pe_op op_fdiv (pe_dget (hu_of hr) (pv 0) pe_str (fun _ _ => rfl)) pe_int) (pv 1))))) pss_nil) (pss_cons (ps_set (i := 3) sc_draw.nd rfl (by first | exact .inl rfl | exact .inr rfl) (pe_bm0 PySem.F.plainAttrs_list PySem.F.slot_list_pop PySem.F.type_list_pop mt_pop (pe_dget (hu_of hr) (pv 0) pe_str (fun _ _ => rfl)))) (pss_cons (ps_if (pt_cmpR op_ge (pv 3) (pe_op op_pow pe_int pe_int) (nomark _)) (pss_cons (ps_expr (pe_bm PySem.F.plainAttrs_list PySem.F.slot_list_append PySem.F.type_list_append mt_append (pe_dget (hu_of hr) (pv 0) pe_str (fun _ _ => rfl)) (pa_cons (pe_op op_fdiv (pv 3) (pv 1)) pa_nil))) (pss_one (ps_ret (pe_op op_mod (pv 3) (pv 1))))) pss_nil) (pss_one (ps_ret (pe_op op_mod (pe_op op_fdiv (pe_call (ok_mixed T) (hr.mono (by decide)) (by rfl) T.g_mixed T.F_mixed.kp T.b_mixed .nil pass0 (pa_cons (pe_op op_add (pv 3) (pe_dget (hu_of hr) (pv 0) pe_str (fun _ _ => rfl))) pa_nil)) pe_int) (pv 1))))))))), ?_⟩
    refine ⟨.int m, rfl, _, _, rfl, rfl, ⟨by decide, by decide, by decide⟩, _, _, rfl, rfl, _, rfl, ite2 (fun z => ?_) (fun small => ?_)⟩
    · have z' : (10 : Int) ^ (6 : Int).toNat < m := of_decide_eq_true z
      have e6 : (10 : Int) ^ (6 : Int).toNat = 1000000 := by decide
      rw [e6] at z'
      have hq : (m - 1) / (10 : Int) ^ (6 : Int).toNat + 1 ≤ 1000000 ∧ 0 < (m - 1) / (10 : Int) ^ (6 : Int).toNat + 1 := by rw [e6]; omega
      refine ⟨.ref d, rfl, _, _, rfl, rfl, ⟨by decide, by decide, by decide⟩, d, l, _, n, rfl, D, by omega, by decide, by decide, fun H1 low D1 fr1 l0 l1 => ?_⟩
      refine ⟨.int low, rfl, _, _, rfl, rfl, ⟨by decide, by decide, by decide⟩, .ref d, rfl, .int m, rfl, _, _, rfl, rfl, _, _, rfl, rfl, ⟨by decide, by decide, by decide⟩, _, _, rfl, rfl, (⟨by decide, by decide⟩ : (0 : Int) < 10 ^ (6 : Int).toNat ∧ (10 : Int) ^ (6 : Int).toNat < 1073741824), _, _, rfl, rfl, d, l, _, _, rfl, D1, ?_, hq.2, hq.1, fun H2 v D2 fr2 v0 v1 => ⟨_, _, rfl, rfl, .inl ⟨by decide, by decide⟩, _, _, rfl, rfl, .int m, rfl, _, _, rfl, rfl, hm0, ?_⟩⟩
      · omega
      exact q _ _ (D2.mono (by omega)) (fr1.trans fr2) (Int.emod_nonneg _ (by omega)) (Int.emod_lt_of_pos _ hm0)
    obtain ⟨ne, cs, y, z, hd, hl, hcs, hz0, hz1⟩ := D
    refine ⟨.ref d, rfl, d, .int z, rfl, dgA hd, _, _, rfl, rfl, .ref d, rfl, d, _, rfl, dpA (z + 1) hd, ?_⟩
    have hd1 : upd H d (.dK [(kC, .ref l), (kS, .int y), (kA, .int (z + 1))]) d = some (.dK [(kC, .ref l), (kS, .int y), (kA, .int (z + 1))]) := upd_same
    have hl1 : upd H d (.dK [(kC, .ref l), (kS, .int y), (kA, .int (z + 1))]) l = some (.lst (cs.map V.int)) := by rw [upd_ne ne.symm]; exact hl
    have fr1 : Fr d l H (upd H d (.dK [(kC, .ref l), (kS, .int y), (kA, .int (z + 1))])) := Fr.d
    generalize upd H d (.dK [(kC, .ref l), (kS, .int y), (kA, .int (z + 1))]) = H1 at hd1 hl1 fr1 ⊢
    refine ⟨.ref d, rfl, d, .ref l, rfl, dgC hd1, Nat.zero_le _, fun p np => ?_⟩
    have s2 := same_upd (o := (HO.lst [])) np
    have h2 : upd H1 p (HO.lst []) p = some (HO.lst []) := upd_same
    generalize upd H1 p (HO.lst []) = H2 at s2 h2 ⊢
    have hd2 := s2 _ _ hd1
    have hl2 := s2 _ _ hl1
    refine ⟨.list (cs.map .int), .list [], .lst (SqL.of hl2) (dpInts cs), .lst (SqL.of h2) .nil, shInts cs, rfl, _, rfl, ?_⟩
    have fr2 : Fr d l H H2 := fr1.trans (Fr.of s2)
    cases cs with
    | nil =>
      refine iteT ?_
      refine ⟨.ref d, rfl, d, .int y, rfl, dgS hd2, .ref d, rfl, d, .int (z + 1), rfl, dgA hd2, _, _, rfl, rfl, _, rfl, fun v v0 v1 => ?_⟩
      refine ⟨.ref d, rfl, d, _, rfl, dpS v hd2, ?_⟩
      refine ⟨.ref d, rfl, d, .int v, rfl, dgS upd_same, _, _, rfl, rfl, (⟨by decide, by decide⟩ : (0 : Int) < 8 ∧ (8 : Int) < 1073741824), .int m, rfl, _, _, rfl, rfl, hm0, ?_⟩
      exact q _ _ ⟨ne, [], v, z + 1, upd_same, by rw [upd_ne ne.symm]; exact hl2, Nat.zero_le _, by omega, by omega⟩ (fr2.trans Fr.d) (Int.emod_nonneg _ (by omega)) (Int.emod_lt_of_pos _ hm0)
    | cons c0 r0 =>
      refine iteF ?_
      obtain ⟨r, c, hrc⟩ : ∃ r c, c0 :: r0 = r ++ [c] := ⟨(c0 :: r0).dropLast, (c0 :: r0).getLast (by simp), (List.dropLast_concat_getLast (by simp)).symm⟩
      rw [hrc] at hl2 hcs
      rw [List.map_append] at hl2
      have lr : r.length ≤ 62 := by rw [List.length_append] at hcs; simp at hcs; omega
      refine ⟨.ref d, rfl, d, .ref l, rfl, dgC hd2, .inl ⟨rfl, _, SqL.of hl2⟩, l, _, .int c, rfl, rfl, hl2, by simp, ?_⟩
      have edl : (r.map V.int ++ [c].map V.int).dropLast = r.map V.int := List.dropLast_concat ..
      rw [edl]
      have hl3 : upd H2 l (.lst (r.map V.int)) l = some (.lst (r.map V.int)) := upd_same
      have hd3 : upd H2 l (.lst (r.map V.int)) d = some (.dK [(kC, .ref l), (kS, .int y), (kA, .int (z + 1))]) := by rw [upd_ne ne]; exact hd2
      have fr3 : Fr d l H (upd H2 l (.lst (r.map V.int))) := fr2.trans Fr.l
      show tSeq _ _ _ _ (upd H2 l (.lst (r.map V.int)))
      generalize upd H2 l (.lst (r.map V.int)) = H3 at hl3 hd3 fr3 ⊢
      have m6 : m ≤ 1000000 := by
        have e6 : (10 : Int) ^ (6 : Int).toNat = 1000000 := by decide
        have h6 : ¬ (10 : Int) ^ (6 : Int).toNat < m := fun k => small (decide_eq_true k)
        rw [e6] at h6
        omega
      refine ⟨.int c, rfl, _, _, rfl, rfl, ⟨by decide, by decide, by decide⟩, _, _, rfl, rfl, _, rfl, ite2 (fun _ => ?_) (fun _ => ?_)⟩
      · refine ⟨.ref d, rfl, d, .ref l, rfl, dgC hd3, .inl ⟨rfl, _, SqL.of hl3⟩, .int c, rfl, .int m, rfl, _, _, rfl, rfl, (⟨hm0, by omega⟩ : 0 < m ∧ m < 1073741824), l, _, _, rfl, rfl, hl3, ?_, ?_⟩
        · rw [List.length_map]
          exact Nat.lt_of_lt_of_le (show r.length < 128 by omega) (by decide)
        refine ⟨.int c, rfl, .int m, rfl, _, _, rfl, rfl, hm0, ?_⟩
        exact q _ _ ⟨ne, r ++ [c / m], y, z + 1, by rw [upd_ne ne]; exact hd3, by rw [upd_same, List.map_append]; rfl, by rw [List.length_append]; show r.length + 1 ≤ 63; omega, by omega, by omega⟩ (fr3.trans Fr.l) (Int.emod_nonneg _ (by omega)) (Int.emod_lt_of_pos _ hm0)
      · refine ⟨.int c, rfl, .ref d, rfl, d, .int (z + 1), rfl, dgA hd3, _, _, rfl, rfl, _, rfl, fun v v0 v1 => ?_⟩
        refine ⟨_, _, rfl, rfl, (⟨by decide, by decide⟩ : (0 : Int) < 8 ∧ (8 : Int) < 1073741824), .int m, rfl, _, _, rfl, rfl, hm0, ?_⟩
        exact q _ _ ⟨ne, r, y, z + 1, hd3, hl3, by omega, by omega, by omega⟩ fr3 (Int.emod_nonneg _ (by omega)) (Int.emod_lt_of_pos _ hm0)
theorem ok_draw2 (T : Tx K mg) : FnOk P w K mg base CX0 4 T.f_draw T.fd_draw ["_law_deck_here", "_law_most"] (sp_drawN K 1000000000000000000 4) := by
  refine T.F_draw.ok sc_draw (fun vs H Q E h => ?_) (fun cdv A outer s H vs Q E hr h => ?_)
  · obtain ⟨d, l, m, n, rfl, _⟩ := h
    rfl
  · obtain ⟨d, l, m, n, rfl, D, hn, hm0, hm1, q⟩ := h
    refine ⟨_, (pss_cons (ps_if (pt_cmpR op_gt (pv 1) (pe_op op_pow pe_int pe_int) (nomark _)) (pss_cons (ps_set (i := 2) sc_draw.nd rfl (by first | exact .inl rfl | exact .inr rfl) (pe_call (ok_draw1 T) (hr.mono (by decide)) (by rfl) T.g_draw T.F_draw.kp T.b_draw .nil pass0 (pa_cons (pv 0) (pa_cons (pe_op op_pow pe_int pe_int) pa_nil)))) (pss_one (ps_ret (pe_op op_mod (pe_op op_add (pv 2) (pe_op op_mul (pe_op op_pow pe_int pe_int) (pe_call (ok_draw1 T) (hr.mono (by decide)) (by rfl) T.g_draw T.F_draw.kp T.b_draw .nil pass0 (pa_cons (pv 0) (pa_cons (pe_op op_add (pe_op op_fdiv (pe_op op_sub (pv 1) pe_int) (pe_op op_pow pe_int pe_int)) pe_int) pa_nil))))) (pv 1))))) pss_nil) (pss_cons (ps_dput (hu_of hr) (pv 0) pe_str (pe_op op_add (pe_dget (hu_of hr) (pv 0) pe_str (fun _ _ => rfl)) pe_int) rfl) (pss_cons (ps_if (pt_cmpR (op_eqD hr.units) (pe_dget (hu_of hr) (pv 0) pe_str (fun _ _ => rfl)) (pe_lst pa_nil) (nomark _)) (pss_cons (ps_dput (hu_of hr) (pv 0) pe_str (pe_call (ok_mixed T) (hr.mono (by decide)) (by rfl) T.g_mixed T.F_mixed.kp T.b_mixed .nil pass0 (pa_cons (pe_op op_add (pe_dget (hu_of hr) (pv 0) pe_str (fun _ _ => rfl)) (pe_dget (hu_of hr) (pv 0) pe_str (fun _ _ => rfl))) pa_nil)) rfl) (pss_one (ps_ret (pe_op op_mod (pe_op op_fdiv (pe_dget (hu_of hr) (pv 0) pe_str (fun _ _ => rfl)) pe_int) (pv 1))))) pss_nil) (pss_cons (ps_set (i := 3) sc_draw.nd rfl (by first | exact .inl rfl | exact .inr rfl) (pe_bm0 PySem.F.plainAttrs_list PySem.F.slot_list_pop PySem.F.type_list_pop mt_pop (pe_dget (hu_of hr) (pv 0) pe_str (fun _ _ => rfl)))) (pss_cons (ps_if (pt_cmpR op_ge (pv 3) (pe_op op_pow pe_int pe_int) (nomark _)) (pss_cons (ps_expr (pe_bm PySem.F.plainAttrs_list PySem.F.slot_list_append PySem.F.type_list_append mt_append (pe_dget (hu_of hr) (pv 0) pe_str (fun _ _ => rfl)) (pa_cons (pe_op op_fdiv (pv 3) (pv 1)) pa_nil))) (pss_one (ps_ret (pe_op op_mod (pv 3) (pv 1))))) pss_nil) (pss_one (ps_ret (pe_op op_mod (pe_op op_fdiv (pe_call (ok_mixed T) (hr.mono (by decide)) (by rfl) T.g_mixed T.F_mixed.kp T.b_mixed .nil pass0 (pa_cons (pe_op op_add (pv 3) (pe_dget (hu_of hr) (pv 0) pe_str (fun _ _ => rfl))) pa_nil)) pe_int) (pv 1))))))))), ?_⟩
    refine ⟨.int m, rfl, _, _, rfl, rfl, ⟨by decide, by decide, by decide⟩, _, _, rfl, rfl, _, rfl, ite2 (fun z => ?_) (fun small => ?_)⟩
    · have z' : (10 : Int) ^ (6 : Int).toNat < m := of_decide_eq_true z
      have e6 : (10 : Int) ^ (6 : Int).toNat = 1000000 := by decide
      rw [e6] at z'
      have hq : (m - 1) / (10 : Int) ^ (6 : Int).toNat + 1 ≤ 1000000000000 ∧ 0 < (m - 1) / (10 : Int) ^ (6 : Int).toNat + 1 := by rw [e6]; omega
      refine ⟨.ref d, rfl, _, _, rfl, rfl, ⟨by decide, by decide, by decide⟩, d, l, _, n, rfl, D, by omega, by decide, by decide, fun H1 low D1 fr1 l0 l1 => ?_⟩
      refine ⟨.int low, rfl, _, _, rfl, rfl, ⟨by decide, by decide, by decide⟩, .ref d, rfl, .int m, rfl, _, _, rfl, rfl, _, _, rfl, rfl, ⟨by decide, by decide, by decide⟩, _, _, rfl, rfl, (⟨by decide, by decide⟩ : (0 : Int) < 10 ^ (6 : Int).toNat ∧ (10 : Int) ^ (6 : Int).toNat < 1073741824), _, _, rfl, rfl, d, l, _, _, rfl, D1, ?_, hq.2, hq.1, fun H2 v D2 fr2 v0 v1 => ⟨_, _, rfl, rfl, .inl ⟨by decide, by decide⟩, _, _, rfl, rfl, .int m, rfl, _, _, rfl, rfl, hm0, ?_⟩⟩
      · omega
      exact q _ _ (D2.mono (by omega)) (fr1.trans fr2) (Int.emod_nonneg _ (by omega)) (Int.emod_lt_of_pos _ hm0)
    obtain ⟨ne, cs, y, z, hd, hl, hcs, hz0, hz1⟩ := D
    refine ⟨.ref d, rfl, d, .int z, rfl, dgA hd, _, _, rfl, rfl, .ref d, rfl, d, _, rfl, dpA (z + 1) hd, ?_⟩
    have hd1 : upd H d (.dK [(kC, .ref l), (kS, .int y), (kA, .int (z + 1))]) d = some (.dK [(kC, .ref l), (kS, .int y), (kA, .int (z + 1))]) := upd_same
    have hl1 : upd H d (.dK [(kC, .ref l), (kS, .int y), (kA, .int (z + 1))]) l = some (.lst (cs.map V.int)) := by rw [upd_ne ne.symm]; exact hl
    have fr1 : Fr d l H (upd H d (.dK [(kC, .ref l), (kS, .int y), (kA, .int (z + 1))])) := Fr.d
    generalize upd H d (.dK [(kC, .ref l), (kS, .int y), (kA, .int (z + 1))]) = H1 at hd1 hl1 fr1 ⊢
    refine ⟨.ref d, rfl, d, .ref l, rfl, dgC hd1, Nat.zero_le _, fun p np => ?_⟩
    have s2 := same_upd (o := (HO.lst [])) np
    have h2 : upd H1 p (HO.lst []) p = some (HO.lst []) := upd_same
    generalize upd H1 p (HO.lst []) = H2 at s2 h2 ⊢
    have hd2 := s2 _ _ hd1
    have hl2 := s2 _ _ hl1
    refine ⟨.list (cs.map .int), .list [], .lst (SqL.of hl2) (dpInts cs), .lst (SqL.of h2) .nil, shInts cs, rfl, _, rfl, ?_⟩
    have fr2 : Fr d l H H2 := fr1.trans (Fr.of s2)
    cases cs with
    | nil =>
      refine iteT ?_
      refine ⟨.ref d, rfl, d, .int y, rfl, dgS hd2, .ref d, rfl, d, .int (z + 1), rfl, dgA hd2, _, _, rfl, rfl, _, rfl, fun v v0 v1 => ?_⟩
      refine ⟨.ref d, rfl, d, _, rfl, dpS v hd2, ?_⟩
      refine ⟨.ref d, rfl, d, .int v, rfl, dgS upd_same, _, _, rfl, rfl, (⟨by decide, by decide⟩ : (0 : Int) < 8 ∧ (8 : Int) < 1073741824), .int m, rfl, _, _, rfl, rfl, hm0, ?_⟩
      exact q _ _ ⟨ne, [], v, z + 1, upd_same, by rw [upd_ne ne.symm]; exact hl2, Nat.zero_le _, by omega, by omega⟩ (fr2.trans Fr.d) (Int.emod_nonneg _ (by omega)) (Int.emod_lt_of_pos _ hm0)
    | cons c0 r0 =>
      refine iteF ?_
      obtain ⟨r, c, hrc⟩ : ∃ r c, c0 :: r0 = r ++ [c] := ⟨(c0 :: r0).dropLast, (c0 :: r0).getLast (by simp), (List.dropLast_concat_getLast (by simp)).symm⟩
      rw [hrc] at hl2 hcs
      rw [List.map_append] at hl2
      have lr : r.length ≤ 62 := by rw [List.length_append] at hcs; simp at hcs; omega
      refine ⟨.ref d, rfl, d, .ref l, rfl, dgC hd2, .inl ⟨rfl, _, SqL.of hl2⟩, l, _, .int c, rfl, rfl, hl2, by simp, ?_⟩
      have edl : (r.map V.int ++ [c].map V.int).dropLast = r.map V.int := List.dropLast_concat ..
      rw [edl]
      have hl3 : upd H2 l (.lst (r.map V.int)) l = some (.lst (r.map V.int)) := upd_same
      have hd3 : upd H2 l (.lst (r.map V.int)) d = some (.dK [(kC, .ref l), (kS, .int y), (kA, .int (z + 1))]) := by rw [upd_ne ne]; exact hd2
      have fr3 : Fr d l H (upd H2 l (.lst (r.map V.int))) := fr2.trans Fr.l
      show tSeq _ _ _ _ (upd H2 l (.lst (r.map V.int)))
      generalize upd H2 l (.lst (r.map V.int)) = H3 at hl3 hd3 fr3 ⊢
      have m6 : m ≤ 1000000 := by
        have e6 : (10 : Int) ^ (6 : Int).toNat = 1000000 := by decide
        have h6 : ¬ (10 : Int) ^ (6 : Int).toNat < m := fun k => small (decide_eq_true k)
        rw [e6] at h6
        omega
      refine ⟨.int c, rfl, _, _, rfl, rfl, ⟨by decide, by decide, by decide⟩, _, _, rfl, rfl, _, rfl, ite2 (fun _ => ?_) (fun _ => ?_)⟩
      · refine ⟨.ref d, rfl, d, .ref l, rfl, dgC hd3, .inl ⟨rfl, _, SqL.of hl3⟩, .int c, rfl, .int m, rfl, _, _, rfl, rfl, (⟨hm0, by omega⟩ : 0 < m ∧ m < 1073741824), l, _, _, rfl, rfl, hl3, ?_, ?_⟩
        · rw [List.length_map]
          exact Nat.lt_of_lt_of_le (show r.length < 128 by omega) (by decide)
        refine ⟨.int c, rfl, .int m, rfl, _, _, rfl, rfl, hm0, ?_⟩
        exact q _ _ ⟨ne, r ++ [c / m], y, z + 1, by rw [upd_ne ne]; exact hd3, by rw [upd_same, List.map_append]; rfl, by rw [List.length_append]; show r.length + 1 ≤ 63; omega, by omega, by omega⟩ (fr3.trans Fr.l) (Int.emod_nonneg _ (by omega)) (Int.emod_lt_of_pos _ hm0)
      · refine ⟨.int c, rfl, .ref d, rfl, d, .int (z + 1), rfl, dgA hd3, _, _, rfl, rfl, _, rfl, fun v v0 v1 => ?_⟩
        refine ⟨_, _, rfl, rfl, (⟨by decide, by decide⟩ : (0 : Int) < 8 ∧ (8 : Int) < 1073741824), .int m, rfl, _, _, rfl, rfl, hm0, ?_⟩
        exact q _ _ ⟨ne, r, y, z + 1, hd3, hl3, by omega, by omega, by omega⟩ fr3 (Int.emod_nonneg _ (by omega)) (Int.emod_lt_of_pos _ hm0)
theorem ok_draw3 (T : Tx K mg) : FnOk P w K mg base CX0 5 T.f_draw T.fd_draw ["_law_deck_here", "_law_most"] (sp_drawN K 1000000000000000000000000 8) := by
  refine T.F_draw.ok sc_draw (fun vs H Q E h => ?_) (fun cdv A outer s H vs Q E hr h => ?_)
  · obtain ⟨d, l, m, n, rfl, _⟩ := h
    rfl
  · obtain ⟨d, l, m, n, rfl, D, hn, hm0, hm1, q⟩ := h
    refine ⟨_, (pss_cons (ps_if (pt_cmpR op_gt (pv 1) (pe_op op_pow pe_int pe_int) (nomark _)) (pss_cons (ps_set (i := 2) sc_draw.nd rfl (by first | exact .inl rfl | exact .inr rfl) (pe_call (ok_draw2 T) (hr.mono (by decide)) (by rfl) T.g_draw T.F_draw.kp T.b_draw .nil pass0 (pa_cons (pv 0) (pa_cons (pe_op op_pow pe_int pe_int) pa_nil)))) (pss_one (ps_ret (pe_op op_mod (pe_op op_add (pv 2) (pe_op op_mul (pe_op op_pow pe_int pe_int) (pe_call (ok_draw2 T) (hr.mono (by decide)) (by rfl) T.g_draw T.F_draw.kp T.b_draw .nil pass0 (pa_cons (pv 0) (pa_cons (pe_op op_add (pe_op op_fdiv (pe_op op_sub (pv 1) pe_int) (pe_op op_pow pe_int pe_int)) pe_int) pa_nil))))) (pv 1))))) pss_nil) (pss_cons (ps_dput (hu_of hr) (pv 0) pe_str (pe_op op_add (pe_dget (hu_of hr) (pv 0) pe_str (fun _ _ => rfl)) pe_int) rfl) (pss_cons (ps_if (pt_cmpR (op_eqD hr.units) (pe_dget (hu_of hr) (pv 0) pe_str (fun _ _ => rfl)) (pe_lst pa_nil) (nomark _)) (pss_cons (ps_dput (hu_of hr) (pv 0) pe_str (pe_call (ok_mixed T) (hr.mono (by decide)) (by rfl) T.g_mixed T.F_mixed.kp T.b_mixed .nil pass0 (pa_cons (pe_op op_add (pe_dget (hu_of hr) (pv 0) pe_str (fun _ _ => rfl)) (pe_dget (hu_of hr) (pv 0) pe_str (fun _ _ => rfl))) pa_nil)) rfl) (pss_one (ps_ret (pe_op op_mod (pe_op op_fdiv (pe_dget (hu_of hr) (pv 0) pe_str (fun _ _ => rfl)) pe_int) (pv 1))))) pss_nil) (pss_cons (ps_set (i := 3) sc_draw.nd rfl (by first | exact .inl rfl | exact .inr rfl) (pe_bm0 PySem.F.plainAttrs_list PySem.F.slot_list_pop PySem.F.type_list_pop mt_pop (pe_dget (hu_of hr) (pv 0) pe_str (fun _ _ => rfl)))) (pss_cons (ps_if (pt_cmpR op_ge (pv 3) (pe_op op_pow pe_int pe_int) (nomark _)) (pss_cons (ps_expr (pe_bm PySem.F.plainAttrs_list PySem.F.slot_list_append PySem.F.type_list_append mt_append (pe_dget (hu_of hr) (pv 0) pe_str (fun _ _ => rfl)) (pa_cons (pe_op op_fdiv (pv 3) (pv 1)) pa_nil))) (pss_one (ps_ret (pe_op op_mod (pv 3) (pv 1))))) pss_nil) (pss_one (ps_ret (pe_op op_mod (pe_op op_fdiv (pe_call (ok_mixed T) (hr.mono (by decide)) (by rfl) T.g_mixed T.F_mixed.kp T.b_mixed .nil pass0 (pa_cons (pe_op op_add (pv 3) (pe_dget (hu_of hr) (pv 0) pe_str (fun _ _ => rfl))) pa_nil)) pe_int) (pv 1))))))))), ?_⟩
    refine ⟨.int m, rfl, _, _, rfl, rfl, ⟨by decide, by decide, by decide⟩, _, _, rfl, rfl, _, rfl, ite2 (fun z => ?_) (fun small => ?_)⟩
    · have z' : (10 : Int) ^ (6 : Int).toNat < m := of_decide_eq_true z
      have e6 : (10 : Int) ^ (6 : Int).toNat = 1000000 := by decide
      rw [e6] at z'
      have hq : (m - 1) / (10 : Int) ^ (6 : Int).toNat + 1 ≤ 1000000000000000000 ∧ 0 < (m - 1) / (10 : Int) ^ (6 : Int).toNat + 1 := by rw [e6]; omega
      refine ⟨.ref d, rfl, _, _, rfl, rfl, ⟨by decide, by decide, by decide⟩, d, l, _, n, rfl, D, by omega, by decide, by decide, fun H1 low D1 fr1 l0 l1 => ?_⟩
      refine ⟨.int low, rfl, _, _, rfl, rfl, ⟨by decide, by decide, by decide⟩, .ref d, rfl, .int m, rfl, _, _, rfl, rfl, _, _, rfl, rfl, ⟨by decide, by decide, by decide⟩, _, _, rfl, rfl, (⟨by decide, by decide⟩ : (0 : Int) < 10 ^ (6 : Int).toNat ∧ (10 : Int) ^ (6 : Int).toNat < 1073741824), _, _, rfl, rfl, d, l, _, _, rfl, D1, ?_, hq.2, hq.1, fun H2 v D2 fr2 v0 v1 => ⟨_, _, rfl, rfl, .inl ⟨by decide, by decide⟩, _, _, rfl, rfl, .int m, rfl, _, _, rfl, rfl, hm0, ?_⟩⟩
      · omega
      exact q _ _ (D2.mono (by omega)) (fr1.trans fr2) (Int.emod_nonneg _ (by omega)) (Int.emod_lt_of_pos _ hm0)
    obtain ⟨ne, cs, y, z, hd, hl, hcs, hz0, hz1⟩ := D
    refine ⟨.ref d, rfl, d, .int z, rfl, dgA hd, _, _, rfl, rfl, .ref d, rfl, d, _, rfl, dpA (z + 1) hd, ?_⟩
    have hd1 : upd H d (.dK [(kC, .ref l), (kS, .int y), (kA, .int (z + 1))]) d = some (.dK [(kC, .ref l), (kS, .int y), (kA, .int (z + 1))]) := upd_same
    have hl1 : upd H d (.dK [(kC, .ref l), (kS, .int y), (kA, .int (z + 1))]) l = some (.lst (cs.map V.int)) := by rw [upd_ne ne.symm]; exact hl
    have fr1 : Fr d l H (upd H d (.dK [(kC, .ref l), (kS, .int y), (kA, .int (z + 1))])) := Fr.d
    generalize upd H d (.dK [(kC, .ref l), (kS, .int y), (kA, .int (z + 1))]) = H1 at hd1 hl1 fr1 ⊢
    refine ⟨.ref d, rfl, d, .ref l, rfl, dgC hd1, Nat.zero_le _, fun p np => ?_⟩
    have s2 := same_upd (o := (HO.lst [])) np
    have h2 : upd H1 p (HO.lst []) p = some (HO.lst []) := upd_same
    generalize upd H1 p (HO.lst []) = H2 at s2 h2 ⊢
    have hd2 := s2 _ _ hd1
    have hl2 := s2 _ _ hl1
    refine ⟨.list (cs.map .int), .list [], .lst (SqL.of hl2) (dpInts cs), .lst (SqL.of h2) .nil, shInts cs, rfl, _, rfl, ?_⟩
    have fr2 : Fr d l H H2 := fr1.trans (Fr.of s2)
    cases cs with
    | nil =>
      refine iteT ?_
      refine ⟨.ref d, rfl, d, .int y, rfl, dgS hd2, .ref d, rfl, d, .int (z + 1), rfl, dgA hd2, _, _, rfl, rfl, _, rfl, fun v v0 v1 => ?_⟩
      refine ⟨.ref d, rfl, d, _, rfl, dpS v hd2, ?_⟩
      refine ⟨.ref d, rfl, d, .int v, rfl, dgS upd_same, _, _, rfl, rfl, (⟨by decide, by decide⟩ : (0 : Int) < 8 ∧ (8 : Int) < 1073741824), .int m, rfl, _, _, rfl, rfl, hm0, ?_⟩
      exact q _ _ ⟨ne, [], v, z + 1, upd_same, by rw [upd_ne ne.symm]; exact hl2, Nat.zero_le _, by omega, by omega⟩ (fr2.trans Fr.d) (Int.emod_nonneg _ (by omega)) (Int.emod_lt_of_pos _ hm0)
    | cons c0 r0 =>
      refine iteF ?_
      obtain ⟨r, c, hrc⟩ : ∃ r c, c0 :: r0 = r ++ [c] := ⟨(c0 :: r0).dropLast, (c0 :: r0).getLast (by simp), (List.dropLast_concat_getLast (by simp)).symm⟩
      rw [hrc] at hl2 hcs
      rw [List.map_append] at hl2
      have lr : r.length ≤ 62 := by rw [List.length_append] at hcs; simp at hcs; omega
      refine ⟨.ref d, rfl, d, .ref l, rfl, dgC hd2, .inl ⟨rfl, _, SqL.of hl2⟩, l, _, .int c, rfl, rfl, hl2, by simp, ?_⟩
      have edl : (r.map V.int ++ [c].map V.int).dropLast = r.map V.int := List.dropLast_concat ..
      rw [edl]
      have hl3 : upd H2 l (.lst (r.map V.int)) l = some (.lst (r.map V.int)) := upd_same
      have hd3 : upd H2 l (.lst (r.map V.int)) d = some (.dK [(kC, .ref l), (kS, .int y), (kA, .int (z + 1))]) := by rw [upd_ne ne]; exact hd2
      have fr3 : Fr d l H (upd H2 l (.lst (r.map V.int))) := fr2.trans Fr.l
      show tSeq _ _ _ _ (upd H2 l (.lst (r.map V.int)))
      generalize upd H2 l (.lst (r.map V.int)) = H3 at hl3 hd3 fr3 ⊢
      have m6 : m ≤ 1000000 := by
        have e6 : (10 : Int) ^ (6 : Int).toNat = 1000000 := by decide
        have h6 : ¬ (10 : Int) ^ (6 : Int).toNat < m := fun k => small (decide_eq_true k)
        rw [e6] at h6
        omega
      refine ⟨.int c, rfl, _, _, rfl, rfl, ⟨by decide, by decide, by decide⟩, _, _, rfl, rfl, _, rfl, ite2 (fun _ => ?_) (fun _ => ?_)⟩
      · refine ⟨.ref d, rfl, d, .ref l, rfl, dgC hd3, .inl ⟨rfl, _, SqL.of hl3⟩, .int c, rfl, .int m, rfl, _, _, rfl, rfl, (⟨hm0, by omega⟩ : 0 < m ∧ m < 1073741824), l, _, _, rfl, rfl, hl3, ?_, ?_⟩
        · rw [List.length_map]
          exact Nat.lt_of_lt_of_le (show r.length < 128 by omega) (by decide)
        refine ⟨.int c, rfl, .int m, rfl, _, _, rfl, rfl, hm0, ?_⟩
        exact q _ _ ⟨ne, r ++ [c / m], y, z + 1, by rw [upd_ne ne]; exact hd3, by rw [upd_same, List.map_append]; rfl, by rw [List.length_append]; show r.length + 1 ≤ 63; omega, by omega, by omega⟩ (fr3.trans Fr.l) (Int.emod_nonneg _ (by omega)) (Int.emod_lt_of_pos _ hm0)
      · refine ⟨.int c, rfl, .ref d, rfl, d, .int (z + 1), rfl, dgA hd3, _, _, rfl, rfl, _, rfl, fun v v0 v1 => ?_⟩
        refine ⟨_, _, rfl, rfl, (⟨by decide, by decide⟩ : (0 : Int) < 8 ∧ (8 : Int) < 1073741824), .int m, rfl, _, _, rfl, rfl, hm0, ?_⟩
        exact q _ _ ⟨ne, r, y, z + 1, hd3, hl3, by omega, by omega, by omega⟩ fr3 (Int.emod_nonneg _ (by omega)) (Int.emod_lt_of_pos _ hm0)
theorem ok_draw4 (T : Tx K mg) : FnOk P w K mg base CX0 6 T.f_draw T.fd_draw ["_law_deck_here", "_law_most"] (sp_drawN K 1000000000000000000000000000000 16) := by
  refine T.F_draw.ok sc_draw (fun vs H Q E h => ?_) (fun cdv A outer s H vs Q E hr h => ?_)
  · obtain ⟨d, l, m, n, rfl, _⟩ := h
    rfl
  · obtain ⟨d, l, m, n, rfl, D, hn, hm0, hm1, q⟩ := h
    refine ⟨_, (pss_cons (ps_if (pt_cmpR op_gt (pv 1) (pe_op op_pow pe_int pe_int) (nomark _)) (pss_cons (ps_set (i := 2) sc_draw.nd rfl (by first | exact .inl rfl | exact .inr rfl) (pe_call (ok_draw3 T) (hr.mono (by decide)) (by rfl) T.g_draw T.F_draw.kp T.b_draw .nil pass0 (pa_cons (pv 0) (pa_cons (pe_op op_pow pe_int pe_int) pa_nil)))) (pss_one (ps_ret (pe_op op_mod (pe_op op_add (pv 2) (pe_op op_mul (pe_op op_pow pe_int pe_int) (pe_call (ok_draw3 T) (hr.mono (by decide)) (by rfl) T.g_draw T.F_draw.kp T.b_draw .nil pass0 (pa_cons (pv 0) (pa_cons (pe_op op_add (pe_op op_fdiv (pe_op op_sub (pv 1) pe_int) (pe_op op_pow pe_int pe_int)) pe_int) pa_nil))))) (pv 1))))) pss_nil) (pss_cons (ps_dput (hu_of hr) (pv 0) pe_str (pe_op op_add (pe_dget (hu_of hr) (pv 0) pe_str (fun _ _ => rfl)) pe_int) rfl) (pss_cons (ps_if (pt_cmpR (op_eqD hr.units) (pe_dget (hu_of hr) (pv 0) pe_str (fun _ _ => rfl)) (pe_lst pa_nil) (nomark _)) (pss_cons (ps_dput (hu_of hr) (pv 0) pe_str (pe_call (ok_mixed T) (hr.mono (by decide)) (by rfl) T.g_mixed T.F_mixed.kp T.b_mixed .nil pass0 (pa_cons (pe_op op_add (pe_dget (hu_of hr) (pv 0) pe_str (fun _ _ => rfl)) (pe_dget (hu_of hr) (pv 0) pe_str (fun _ _ => rfl))) pa_nil)) rfl) (pss_one (ps_ret (pe_op op_mod (pe_op op_fdiv (pe_dget (hu_of hr) (pv 0) pe_str (fun _ _ => rfl)) pe_int) (pv 1))))) pss_nil) (pss_cons (ps_set (i := 3) sc_draw.nd rfl (by first | exact .inl rfl | exact .inr rfl) (pe_bm0 PySem.F.plainAttrs_list PySem.F.slot_list_pop PySem.F.type_list_pop mt_pop (pe_dget (hu_of hr) (pv 0) pe_str (fun _ _ => rfl)))) (pss_cons (ps_if (pt_cmpR op_ge (pv 3) (pe_op op_pow pe_int pe_int) (nomark _)) (pss_cons (ps_expr (pe_bm PySem.F.plainAttrs_list PySem.F.slot_list_append PySem.F.type_list_append mt_append (pe_dget (hu_of hr) (pv 0) pe_str (fun _ _ => rfl)) (pa_cons (pe_op op_fdiv (pv 3) (pv 1)) pa_nil))) (pss_one (ps_ret (pe_op op_mod (pv 3) (pv 1))))) pss_nil) (pss_one (ps_ret (pe_op op_mod (pe_op op_fdiv (pe_call (ok_mixed T) (hr.mono (by decide)) (by rfl) T.g_mixed T.F_mixed.kp T.b_mixed .nil pass0 (pa_cons (pe_op op_add (pv 3) (pe_dget (hu_of hr) (pv 0) pe_str (fun _ _ => rfl))) pa_nil)) pe_int) (pv 1))))))))), ?_⟩
    refine ⟨.int m, rfl, _, _, rfl, rfl, ⟨by decide, by decide, by decide⟩, _, _, rfl, rfl, _, rfl, ite2 (fun z => ?_) (fun small => ?_)⟩
    · have z' : (10 : Int) ^ (6 : Int).toNat < m := of_decide_eq_true z
      have e6 : (10 : Int) ^ (6 : Int).toNat = 1000000 := by decide
      rw [e6] at z'
      have hq : (m - 1) / (10 : Int) ^ (6 : Int).toNat + 1 ≤ 1000000000000000000000000 ∧ 0 < (m - 1) / (10 : Int) ^ (6 : Int).toNat + 1 := by rw [e6]; omega
      refine ⟨.ref d, rfl, _, _, rfl, rfl, ⟨by decide, by decide, by decide⟩, d, l, _, n, rfl, D, by omega, by decide, by decide, fun H1 low D1 fr1 l0 l1 => ?_⟩
      refine ⟨.int low, rfl, _, _, rfl, rfl, ⟨by decide, by decide, by decide⟩, .ref d, rfl, .int m, rfl, _, _, rfl, rfl, _, _, rfl, rfl, ⟨by decide, by decide, by decide⟩, _, _, rfl, rfl, (⟨by decide, by decide⟩ : (0 : Int) < 10 ^ (6 : Int).toNat ∧ (10 : Int) ^ (6 : Int).toNat < 1073741824), _, _, rfl, rfl, d, l, _, _, rfl, D1, ?_, hq.2, hq.1, fun H2 v D2 fr2 v0 v1 => ⟨_, _, rfl, rfl, .inl ⟨by decide, by decide⟩, _, _, rfl, rfl, .int m, rfl, _, _, rfl, rfl, hm0, ?_⟩⟩
      · omega
      exact q _ _ (D2.mono (by omega)) (fr1.trans fr2) (Int.emod_nonneg _ (by omega)) (Int.emod_lt_of_pos _ hm0)
    obtain ⟨ne, cs, y, z, hd, hl, hcs, hz0, hz1⟩ := D
    refine ⟨.ref d, rfl, d, .int z, rfl, dgA hd, _, _, rfl, rfl, .ref d, rfl, d, _, rfl, dpA (z + 1) hd, ?_⟩
    have hd1 : upd H d (.dK [(kC, .ref l), (kS, .int y), (kA, .int (z + 1))]) d = some (.dK [(kC, .ref l), (kS, .int y), (kA, .int (z + 1))]) := upd_same
    have hl1 : upd H d (.dK [(kC, .ref l), (kS, .int y), (kA, .int (z + 1))]) l = some (.lst (cs.map V.int)) := by rw [upd_ne ne.symm]; exact hl
    have fr1 : Fr d l H (upd H d (.dK [(kC, .ref l), (kS, .int y), (kA, .int (z + 1))])) := Fr.d
    generalize upd H d (.dK [(kC, .ref l), (kS, .int y), (kA, .int (z + 1))]) = H1 at hd1 hl1 fr1 ⊢
    refine ⟨.ref d, rfl, d, .ref l, rfl, dgC hd1, Nat.zero_le _, fun p np => ?_⟩
    have s2 := same_upd (o := (HO.lst [])) np
    have h2 : upd H1 p (HO.lst []) p = some (HO.lst []) := upd_same
    generalize upd H1 p (HO.lst []) = H2 at s2 h2 ⊢
    have hd2 := s2 _ _ hd1
    have hl2 := s2 _ _ hl1
    refine ⟨.list (cs.map .int), .list [], .lst (SqL.of hl2) (dpInts cs), .lst (SqL.of h2) .nil, shInts cs, rfl, _, rfl, ?_⟩
    have fr2 : Fr d l H H2 := fr1.trans (Fr.of s2)
    cases cs with
    | nil =>
      refine iteT ?_
      refine ⟨.ref d, rfl, d, .int y, rfl, dgS hd2, .ref d, rfl, d, .int (z + 1), rfl, dgA hd2, _, _, rfl, rfl, _, rfl, fun v v0 v1 => ?_⟩
      refine ⟨.ref d, rfl, d, _, rfl, dpS v hd2, ?_⟩
      refine ⟨.ref d, rfl, d, .int v, rfl, dgS upd_same, _, _, rfl, rfl, (⟨by decide, by decide⟩ : (0 : Int) < 8 ∧ (8 : Int) < 1073741824), .int m, rfl, _, _, rfl, rfl, hm0, ?_⟩
      exact q _ _ ⟨ne, [], v, z + 1, upd_same, by rw [upd_ne ne.symm]; exact hl2, Nat.zero_le _, by omega, by omega⟩ (fr2.trans Fr.d) (Int.emod_nonneg _ (by omega)) (Int.emod_lt_of_pos _ hm0)
    | cons c0 r0 =>
      refine iteF ?_
      obtain ⟨r, c, hrc⟩ : ∃ r c, c0 :: r0 = r ++ [c] := ⟨(c0 :: r0).dropLast, (c0 :: r0).getLast (by simp), (List.dropLast_concat_getLast (by simp)).symm⟩
      rw [hrc] at hl2 hcs
      rw [List.map_append] at hl2
      have lr : r.length ≤ 62 := by rw [List.length_append] at hcs; simp at hcs; omega
      refine ⟨.ref d, rfl, d, .ref l, rfl, dgC hd2, .inl ⟨rfl, _, SqL.of hl2⟩, l, _, .int c, rfl, rfl, hl2, by simp, ?_⟩
      have edl : (r.map V.int ++ [c].map V.int).dropLast = r.map V.int := List.dropLast_concat ..
      rw [edl]
      have hl3 : upd H2 l (.lst (r.map V.int)) l = some (.lst (r.map V.int)) := upd_same
      have hd3 : upd H2 l (.lst (r.map V.int)) d = some (.dK [(kC, .ref l), (kS, .int y), (kA, .int (z + 1))]) := by rw [upd_ne ne]; exact hd2
      have fr3 : Fr d l H (upd H2 l (.lst (r.map V.int))) := fr2.trans Fr.l
      show tSeq _ _ _ _ (upd H2 l (.lst (r.map V.int)))
      generalize upd H2 l (.lst (r.map V.int)) = H3 at hl3 hd3 fr3 ⊢
      have m6 : m ≤ 1000000 := by
        have e6 : (10 : Int) ^ (6 : Int).toNat = 1000000 := by decide
        have h6 : ¬ (10 : Int) ^ (6 : Int).toNat < m := fun k => small (decide_eq_true k)
        rw [e6] at h6
        omega
      refine ⟨.int c, rfl, _, _, rfl, rfl, ⟨by decide, by decide, by decide⟩, _, _, rfl, rfl, _, rfl, ite2 (fun _ => ?_) (fun _ => ?_)⟩
      · refine ⟨.ref d, rfl, d, .ref l, rfl, dgC hd3, .inl ⟨rfl, _, SqL.of hl3⟩, .int c, rfl, .int m, rfl, _, _, rfl, rfl, (⟨hm0, by omega⟩ : 0 < m ∧ m < 1073741824), l, _, _, rfl, rfl, hl3, ?_, ?_⟩
        · rw [List.length_map]
          exact Nat.lt_of_lt_of_le (show r.length < 128 by omega) (by decide)
        refine ⟨.int c, rfl, .int m, rfl, _, _, rfl, rfl, hm0, ?_⟩
        exact q _ _ ⟨ne, r ++ [c / m], y, z + 1, by rw [upd_ne ne]; exact hd3, by rw [upd_same, List.map_append]; rfl, by rw [List.length_append]; show r.length + 1 ≤ 63; omega, by omega, by omega⟩ (fr3.trans Fr.l) (Int.emod_nonneg _ (by omega)) (Int.emod_lt_of_pos _ hm0)
      · refine ⟨.int c, rfl, .ref d, rfl, d, .int (z + 1), rfl, dgA hd3, _, _, rfl, rfl, _, rfl, fun v v0 v1 => ?_⟩
        refine ⟨_, _, rfl, rfl, (⟨by decide, by decide⟩ : (0 : Int) < 8 ∧ (8 : Int) < 1073741824), .int m, rfl, _, _, rfl, rfl, hm0, ?_⟩
        exact q _ _ ⟨ne, r, y, z + 1, hd3, hl3, by omega, by omega, by omega⟩ fr3 (Int.emod_nonneg _ (by omega)) (Int.emod_lt_of_pos _ hm0)
theorem ok_draw5 (T : Tx K mg) : FnOk P w K mg base CX0 7 T.f_draw T.fd_draw ["_law_deck_here", "_law_most"] (sp_drawN K 1000000000000000000000000000000000000 32) := by
  refine T.F_draw.ok sc_draw (fun vs H Q E h => ?_) (fun cdv A outer s H vs Q E hr h => ?_)
  · obtain ⟨d, l, m, n, rfl, _⟩ := h
    rfl
  · obtain ⟨d, l, m, n, rfl, D, hn, hm0, hm1, q⟩ := h
    refine ⟨_, (pss_cons (ps_if (pt_cmpR op_gt (pv 1) (pe_op op_pow pe_int pe_int) (nomark _)) (pss_cons (ps_set (i := 2) sc_draw.nd rfl (by first | exact .inl rfl | exact .inr rfl) (pe_call (ok_draw4 T) (hr.mono (by decide)) (by rfl) T.g_draw T.F_draw.kp T.b_draw .nil pass0 (pa_cons (pv 0) (pa_cons (pe_op op_pow pe_int pe_int) pa_nil)))) (pss_one (ps_ret (pe_op op_mod (pe_op op_add (pv 2) (pe_op op_mul (pe_op op_pow pe_int pe_int) (pe_call (ok_draw4 T) (hr.mono (by decide)) (by rfl) T.g_draw T.F_draw.kp T.b_draw .nil pass0 (pa_cons (pv 0) (pa_cons (pe_op op_add (pe_op op_fdiv (pe_op op_sub (pv 1) pe_int) (pe_op op_pow pe_int pe_int)) pe_int) pa_nil))))) (pv 1))))) pss_nil) (pss_cons (ps_dput (hu_of hr) (pv 0) pe_str (pe_op op_add (pe_dget (hu_of hr) (pv 0) pe_str (fun _ _ => rfl)) pe_int) rfl) (pss_cons (ps_if (pt_cmpR (op_eqD hr.units) (pe_dget (hu_of hr) (pv 0) pe_str (fun _ _ => rfl)) (pe_lst pa_nil) (nomark _)) (pss_cons (ps_dput (hu_of hr) (pv 0) pe_str (pe_call (ok_mixed T) (hr.mono (by decide)) (by rfl) T.g_mixed T.F_mixed.kp T.b_mixed .nil pass0 (pa_cons (pe_op op_add (pe_dget (hu_of hr) (pv 0) pe_str (fun _ _ => rfl)) (pe_dget (hu_of hr) (pv 0) pe_str (fun _ _ => rfl))) pa_nil)) rfl) (pss_one (ps_ret (pe_op op_mod (pe_op op_fdiv (pe_dget (hu_of hr) (pv 0) pe_str (fun _ _ => rfl)) pe_int) (pv 1))))) pss_nil) (pss_cons (ps_set (i := 3) sc_draw.nd rfl (by first | exact .inl rfl | exact .inr rfl) (pe_bm0 PySem.F.plainAttrs_list PySem.F.slot_list_pop PySem.F.type_list_pop mt_pop (pe_dget (hu_of hr) (pv 0) pe_str (fun _ _ => rfl)))) (pss_cons (ps_if (pt_cmpR op_ge (pv 3) (pe_op op_pow pe_int pe_int) (nomark _)) (pss_cons (ps_expr (pe_bm PySem.F.plainAttrs_list PySem.F.slot_list_append PySem.F.type_list_append mt_append (pe_dget (hu_of hr) (pv 0) pe_str (fun _ _ => rfl)) (pa_cons (pe_op op_fdiv (pv 3) (pv 1)) pa_nil))) (pss_one (ps_ret (pe_op op_mod (pv 3) (pv 1))))) pss_nil) (pss_one (ps_ret (pe_op op_mod (pe_op op_fdiv (pe_call (ok_mixed T) (hr.mono (by decide)) (by rfl) T.g_mixed T.F_mixed.kp T.b_mixed .nil pass0 (pa_cons (pe_op op_add (pv 3) (pe_dget (hu_of hr) (pv 0) pe_str (fun _ _ => rfl))) pa_nil)) pe_int) (pv 1))))))))), ?_⟩
    refine ⟨.int m, rfl, _, _, rfl, rfl, ⟨by decide, by decide, by decide⟩, _, _, rfl, rfl, _, rfl, ite2 (fun z => ?_) (fun small => ?_)⟩
    · have z' : (10 : Int) ^ (6 : Int).toNat < m := of_decide_eq_true z
      have e6 : (10 : Int) ^ (6 : Int).toNat = 1000000 := by decide
      rw [e6] at z'
      have hq : (m - 1) / (10 : Int) ^ (6 : Int).toNat + 1 ≤ 1000000000000000000000000000000 ∧ 0 < (m - 1) / (10 : Int) ^ (6 : Int).toNat + 1 := by rw [e6]; omega
      refine ⟨.ref d, rfl, _, _, rfl, rfl, ⟨by decide, by decide, by decide⟩, d, l, _, n, rfl, D, by omega, by decide, by decide, fun H1 low D1 fr1 l0 l1 => ?_⟩
      refine ⟨.int low, rfl, _, _, rfl, rfl, ⟨by decide, by decide, by decide⟩, .ref d, rfl, .int m, rfl, _, _, rfl, rfl, _, _, rfl, rfl, ⟨by decide, by decide, by decide⟩, _, _, rfl, rfl, (⟨by decide, by decide⟩ : (0 : Int) < 10 ^ (6 : Int).toNat ∧ (10 : Int) ^ (6 : Int).toNat < 1073741824), _, _, rfl, rfl, d, l, _, _, rfl, D1, ?_, hq.2, hq.1, fun H2 v D2 fr2 v0 v1 => ⟨_, _, rfl, rfl, .inl ⟨by decide, by decide⟩, _, _, rfl, rfl, .int m, rfl, _, _, rfl, rfl, hm0, ?_⟩⟩
      · omega
      exact q _ _ (D2.mono (by omega)) (fr1.trans fr2) (Int.emod_nonneg _ (by omega)) (Int.emod_lt_of_pos _ hm0)
    obtain ⟨ne, cs, y, z, hd, hl, hcs, hz0, hz1⟩ := D
    refine ⟨.ref d, rfl, d, .int z, rfl, dgA hd, _, _, rfl, rfl, .ref d, rfl, d, _, rfl, dpA (z + 1) hd, ?_⟩
    have hd1 : upd H d (.dK [(kC, .ref l), (kS, .int y), (kA, .int (z + 1))]) d = some (.dK [(kC, .ref l), (kS, .int y), (kA, .int (z + 1))]) := upd_same
    have hl1 : upd H d (.dK [(kC, .ref l), (kS, .int y), (kA, .int (z + 1))]) l = some (.lst (cs.map V.int)) := by rw [upd_ne ne.symm]; exact hl
    have fr1 : Fr d l H (upd H d (.dK [(kC, .ref l), (kS, .int y), (kA, .int (z + 1))])) := Fr.d
    generalize upd H d (.dK [(kC, .ref l), (kS, .int y), (kA, .int (z + 1))]) = H1 at hd1 hl1 fr1 ⊢
    refine ⟨.ref d, rfl, d, .ref l, rfl, dgC hd1, Nat.zero_le _, fun p np => ?_⟩
    have s2 := same_upd (o := (HO.lst [])) np
    have h2 : upd H1 p (HO.lst []) p = some (HO.lst []) := upd_same
    generalize upd H1 p (HO.lst []) = H2 at s2 h2 ⊢
    have hd2 := s2 _ _ hd1
    have hl2 := s2 _ _ hl1
    refine ⟨.list (cs.map .int), .list [], .lst (SqL.of hl2) (dpInts cs), .lst (SqL.of h2) .nil, shInts cs, rfl, _, rfl, ?_⟩
    have fr2 : Fr d l H H2 := fr1.trans (Fr.of s2)
    cases cs with
    | nil =>
      refine iteT ?_
      refine ⟨.ref d, rfl, d, .int y, rfl, dgS hd2, .ref d, rfl, d, .int (z + 1), rfl, dgA hd2, _, _, rfl, rfl, _, rfl, fun v v0 v1 => ?_⟩
      refine ⟨.ref d, rfl, d, _, rfl, dpS v hd2, ?_⟩
      refine ⟨.ref d, rfl, d, .int v, rfl, dgS upd_same, _, _, rfl, rfl, (⟨by decide, by decide⟩ : (0 : Int) < 8 ∧ (8 : Int) < 1073741824), .int m, rfl, _, _, rfl, rfl, hm0, ?_⟩
      exact q _ _ ⟨ne, [], v, z + 1, upd_same, by rw [upd_ne ne.symm]; exact hl2, Nat.zero_le _, by omega, by omega⟩ (fr2.trans Fr.d) (Int.emod_nonneg _ (by omega)) (Int.emod_lt_of_pos _ hm0)
    | cons c0 r0 =>
      refine iteF ?_
      obtain ⟨r, c, hrc⟩ : ∃ r c, c0 :: r0 = r ++ [c] := ⟨(c0 :: r0).dropLast, (c0 :: r0).getLast (by simp), (List.dropLast_concat_getLast (by simp)).symm⟩
      rw [hrc] at hl2 hcs
      rw [List.map_append] at hl2
      have lr : r.length ≤ 62 := by rw [List.length_append] at hcs; simp at hcs; omega
      refine ⟨.ref d, rfl, d, .ref l, rfl, dgC hd2, .inl ⟨rfl, _, SqL.of hl2⟩, l, _, .int c, rfl, rfl, hl2, by simp, ?_⟩
      have edl : (r.map V.int ++ [c].map V.int).dropLast = r.map V.int := List.dropLast_concat ..
      rw [edl]
      have hl3 : upd H2 l (.lst (r.map V.int)) l = some (.lst (r.map V.int)) := upd_same
      have hd3 : upd H2 l (.lst (r.map V.int)) d = some (.dK [(kC, .ref l), (kS, .int y), (kA, .int (z + 1))]) := by rw [upd_ne ne]; exact hd2
      have fr3 : Fr d l H (upd H2 l (.lst (r.map V.int))) := fr2.trans Fr.l
      show tSeq _ _ _ _ (upd H2 l (.lst (r.map V.int)))
      generalize upd H2 l (.lst (r.map V.int)) = H3 at hl3 hd3 fr3 ⊢
      have m6 : m ≤ 1000000 := by
        have e6 : (10 : Int) ^ (6 : Int).toNat = 1000000 := by decide
        have h6 : ¬ (10 : Int) ^ (6 : Int).toNat < m := fun k => small (decide_eq_true k)
        rw [e6] at h6
        omega
      refine ⟨.int c, rfl, _, _, rfl, rfl, ⟨by decide, by decide, by decide⟩, _, _, rfl, rfl, _, rfl, ite2 (fun _ => ?_) (fun _ => ?_)⟩
      · refine ⟨.ref d, rfl, d, .ref l, rfl, dgC hd3, .inl ⟨rfl, _, SqL.of hl3⟩, .int c, rfl, .int m, rfl, _, _, rfl, rfl, (⟨hm0, by omega⟩ : 0 < m ∧ m < 1073741824), l, _, _, rfl, rfl, hl3, ?_, ?_⟩
        · rw [List.length_map]
          exact Nat.lt_of_lt_of_le (show r.length < 128 by omega) (by decide)
        refine ⟨.int c, rfl, .int m, rfl, _, _, rfl, rfl, hm0, ?_⟩
        exact q _ _ ⟨ne, r ++ [c / m], y, z + 1, by rw [upd_ne ne]; exact hd3, by rw [upd_same, List.map_append]; rfl, by rw [List.length_append]; show r.length + 1 ≤ 63; omega, by omega, by omega⟩ (fr3.trans Fr.l) (Int.emod_nonneg _ (by omega)) (Int.emod_lt_of_pos _ hm0)
      · refine ⟨.int c, rfl, .ref d, rfl, d, .int (z + 1), rfl, dgA hd3, _, _, rfl, rfl, _, rfl, fun v v0 v1 => ?_⟩
        refine ⟨_, _, rfl, rfl, (⟨by decide, by decide⟩ : (0 : Int) < 8 ∧ (8 : Int) < 1073741824), .int m, rfl, _, _, rfl, rfl, hm0, ?_⟩
        exact q _ _ ⟨ne, r, y, z + 1, hd3, hl3, by omega, by omega, by omega⟩ fr3 (Int.emod_nonneg _ (by omega)) (Int.emod_lt_of_pos _ hm0)
def sp_draw (K : PySem.W.Frag) : Sp := sp_drawN K 1000000000000000000000000000000000000 32
theorem ok_draw (T : Tx K mg) : FnOk P w K mg base CX0 7 T.f_draw T.fd_draw ["_law_deck_here", "_law_most"] (sp_draw K) := ok_draw5 T

theorem ok_draw6 (T : Tx K mg) : FnOk P w K mg base CX0 8 T.f_draw T.fd_draw ["_law_deck_here", "_law_most"] (sp_drawN K 1000000000000000000000000000000000000000000 64) := by
  refine T.F_draw.ok sc_draw (fun vs H Q E h => ?_) (fun cdv A outer s H vs Q E hr h => ?_)
  · obtain ⟨d, l, m, n, rfl, _⟩ := h
    rfl
  · obtain ⟨d, l, m, n, rfl, D, hn, hm0, hm1, q⟩ := h
    refine ⟨_, (pss_cons (ps_if (pt_cmpR op_gt (pv 1) (pe_op op_pow pe_int pe_int) (nomark _)) (pss_cons (ps_set (i := 2) sc_draw.nd rfl (by first | exact .inl rfl | exact .inr rfl) (pe_call (ok_draw5 T) (hr.mono (by decide)) (by rfl) T.g_draw T.F_draw.kp T.b_draw .nil pass0 (pa_cons (pv 0) (pa_cons (pe_op op_pow pe_int pe_int) pa_nil)))) (pss_one (ps_ret (pe_op op_mod (pe_op op_add (pv 2) (pe_op op_mul (pe_op op_pow pe_int pe_int) (pe_call (ok_draw5 T) (hr.mono (by decide)) (by rfl) T.g_draw T.F_draw.kp T.b_draw .nil pass0 (pa_cons (pv 0) (pa_cons (pe_op op_add (pe_op op_fdiv (pe_op op_sub (pv 1) pe_int) (pe_op op_pow pe_int pe_int)) pe_int) pa_nil))))) (pv 1))))) pss_nil) (pss_cons (ps_dput (hu_of hr) (pv 0) pe_str (pe_op op_add (pe_dget (hu_of hr) (pv 0) pe_str (fun _ _ => rfl)) pe_int) rfl) (pss_cons (ps_if (pt_cmpR (op_eqD hr.units) (pe_dget (hu_of hr) (pv 0) pe_str (fun _ _ => rfl)) (pe_lst pa_nil) (nomark _)) (pss_cons (ps_dput (hu_of hr) (pv 0) pe_str (pe_call (ok_mixed T) (hr.mono (by decide)) (by rfl) T.g_mixed T.F_mixed.kp T.b_mixed .nil pass0 (pa_cons (pe_op op_add (pe_dget (hu_of hr) (pv 0) pe_str (fun _ _ => rfl)) (pe_dget (hu_of hr) (pv 0) pe_str (fun _ _ => rfl))) pa_nil)) rfl) (pss_one (ps_ret (pe_op op_mod (pe_op op_fdiv (pe_dget (hu_of hr) (pv 0) pe_str (fun _ _ => rfl)) pe_int) (pv 1))))) pss_nil) (pss_cons (ps_set (i := 3) sc_draw.nd rfl (by first | exact .inl rfl | exact .inr rfl) (pe_bm0 PySem.F.plainAttrs_list PySem.F.slot_list_pop PySem.F.type_list_pop mt_pop (pe_dget (hu_of hr) (pv 0) pe_str (fun _ _ => rfl)))) (pss_cons (ps_if (pt_cmpR op_ge (pv 3) (pe_op op_pow pe_int pe_int) (nomark _)) (pss_cons (ps_expr (pe_bm PySem.F.plainAttrs_list PySem.F.slot_list_append PySem.F.type_list_append mt_append (pe_dget (hu_of hr) (pv 0) pe_str (fun _ _ => rfl)) (pa_cons (pe_op op_fdiv (pv 3) (pv 1)) pa_nil))) (pss_one (ps_ret (pe_op op_mod (pv 3) (pv 1))))) pss_nil) (pss_one (ps_ret (pe_op op_mod (pe_op op_fdiv (pe_call (ok_mixed T) (hr.mono (by decide)) (by rfl) T.g_mixed T.F_mixed.kp T.b_mixed .nil pass0 (pa_cons (pe_op op_add (pv 3) (pe_dget (hu_of hr) (pv 0) pe_str (fun _ _ => rfl))) pa_nil)) pe_int) (pv 1))))))))), ?_⟩
    refine ⟨.int m, rfl, _, _, rfl, rfl, ⟨by decide, by decide, by decide⟩, _, _, rfl, rfl, _, rfl, ite2 (fun z => ?_) (fun small => ?_)⟩
    · have z' : (10 : Int) ^ (6 : Int).toNat < m := of_decide_eq_true z
      have e6 : (10 : Int) ^ (6 : Int).toNat = 1000000 := by decide
      rw [e6] at z'
      have hq : (m - 1) / (10 : Int) ^ (6 : Int).toNat + 1 ≤ 1000000000000000000000000000000000000 ∧ 0 < (m - 1) / (10 : Int) ^ (6 : Int).toNat + 1 := by rw [e6]; omega
      refine ⟨.ref d, rfl, _, _, rfl, rfl, ⟨by decide, by decide, by decide⟩, d, l, _, n, rfl, D, by omega, by decide, by decide, fun H1 low D1 fr1 l0 l1 => ?_⟩
      refine ⟨.int low, rfl, _, _, rfl, rfl, ⟨by decide, by decide, by decide⟩, .ref d, rfl, .int m, rfl, _, _, rfl, rfl, _, _, rfl, rfl, ⟨by decide, by decide, by decide⟩, _, _, rfl, rfl, (⟨by decide, by decide⟩ : (0 : Int) < 10 ^ (6 : Int).toNat ∧ (10 : Int) ^ (6 : Int).toNat < 1073741824), _, _, rfl, rfl, d, l, _, _, rfl, D1, ?_, hq.2, hq.1, fun H2 v D2 fr2 v0 v1 => ⟨_, _, rfl, rfl, .inl ⟨by decide, by decide⟩, _, _, rfl, rfl, .int m, rfl, _, _, rfl, rfl, hm0, ?_⟩⟩
      · omega
      exact q _ _ (D2.mono (by omega)) (fr1.trans fr2) (Int.emod_nonneg _ (by omega)) (Int.emod_lt_of_pos _ hm0)
    obtain ⟨ne, cs, y, z, hd, hl, hcs, hz0, hz1⟩ := D
    refine ⟨.ref d, rfl, d, .int z, rfl, dgA hd, _, _, rfl, rfl, .ref d, rfl, d, _, rfl, dpA (z + 1) hd, ?_⟩
    have hd1 : upd H d (.dK [(kC, .ref l), (kS, .int y), (kA, .int (z + 1))]) d = some (.dK [(kC, .ref l), (kS, .int y), (kA, .int (z + 1))]) := upd_same
    have hl1 : upd H d (.dK [(kC, .ref l), (kS, .int y), (kA, .int (z + 1))]) l = some (.lst (cs.map V.int)) := by rw [upd_ne ne.symm]; exact hl
    have fr1 : Fr d l H (upd H d (.dK [(kC, .ref l), (kS, .int y), (kA, .int (z + 1))])) := Fr.d
    generalize upd H d (.dK [(kC, .ref l), (kS, .int y), (kA, .int (z + 1))]) = H1 at hd1 hl1 fr1 ⊢
    refine ⟨.ref d, rfl, d, .ref l, rfl, dgC hd1, Nat.zero_le _, fun p np => ?_⟩
    have s2 := same_upd (o := (HO.lst [])) np
    have h2 : upd H1 p (HO.lst []) p = some (HO.lst []) := upd_same
    generalize upd H1 p (HO.lst []) = H2 at s2 h2 ⊢
    have hd2 := s2 _ _ hd1
    have hl2 := s2 _ _ hl1
    refine ⟨.list (cs.map .int), .list [], .lst (SqL.of hl2) (dpInts cs), .lst (SqL.of h2) .nil, shInts cs, rfl, _, rfl, ?_⟩
    have fr2 : Fr d l H H2 := fr1.trans (Fr.of s2)
    cases cs with
    | nil =>
      refine iteT ?_
      refine ⟨.ref d, rfl, d, .int y, rfl, dgS hd2, .ref d, rfl, d, .int (z + 1), rfl, dgA hd2, _, _, rfl, rfl, _, rfl, fun v v0 v1 => ?_⟩
      refine ⟨.ref d, rfl, d, _, rfl, dpS v hd2, ?_⟩
      refine ⟨.ref d, rfl, d, .int v, rfl, dgS upd_same, _, _, rfl, rfl, (⟨by decide, by decide⟩ : (0 : Int) < 8 ∧ (8 : Int) < 1073741824), .int m, rfl, _, _, rfl, rfl, hm0, ?_⟩
      exact q _ _ ⟨ne, [], v, z + 1, upd_same, by rw [upd_ne ne.symm]; exact hl2, Nat.zero_le _, by omega, by omega⟩ (fr2.trans Fr.d) (Int.emod_nonneg _ (by omega)) (Int.emod_lt_of_pos _ hm0)
    | cons c0 r0 =>
      refine iteF ?_
      obtain ⟨r, c, hrc⟩ : ∃ r c, c0 :: r0 = r ++ [c] := ⟨(c0 :: r0).dropLast, (c0 :: r0).getLast (by simp), (List.dropLast_concat_getLast (by simp)).symm⟩
      rw [hrc] at hl2 hcs
      rw [List.map_append] at hl2
      have lr : r.length ≤ 62 := by rw [List.length_append] at hcs; simp at hcs; omega
      refine ⟨.ref d, rfl, d, .ref l, rfl, dgC hd2, .inl ⟨rfl, _, SqL.of hl2⟩, l, _, .int c, rfl, rfl, hl2, by simp, ?_⟩
      have edl : (r.map V.int ++ [c].map V.int).dropLast = r.map V.int := List.dropLast_concat ..
      rw [edl]
      have hl3 : upd H2 l (.lst (r.map V.int)) l = some (.lst (r.map V.int)) := upd_same
      have hd3 : upd H2 l (.lst (r.map V.int)) d = some (.dK [(kC, .ref l), (kS, .int y), (kA, .int (z + 1))]) := by rw [upd_ne ne]; exact hd2
      have fr3 : Fr d l H (upd H2 l (.lst (r.map V.int))) := fr2.trans Fr.l
      show tSeq _ _ _ _ (upd H2 l (.lst (r.map V.int)))
      generalize upd H2 l (.lst (r.map V.int)) = H3 at hl3 hd3 fr3 ⊢
      have m6 : m ≤ 1000000 := by
        have e6 : (10 : Int) ^ (6 : Int).toNat = 1000000 := by decide
        have h6 : ¬ (10 : Int) ^ (6 : Int).toNat < m := fun k => small (decide_eq_true k)
        rw [e6] at h6
        omega
      refine ⟨.int c, rfl, _, _, rfl, rfl, ⟨by decide, by decide, by decide⟩, _, _, rfl, rfl, _, rfl, ite2 (fun _ => ?_) (fun _ => ?_)⟩
      · refine ⟨.ref d, rfl, d, .ref l, rfl, dgC hd3, .inl ⟨rfl, _, SqL.of hl3⟩, .int c, rfl, .int m, rfl, _, _, rfl, rfl, (⟨hm0, by omega⟩ : 0 < m ∧ m < 1073741824), l, _, _, rfl, rfl, hl3, ?_, ?_⟩
        · rw [List.length_map]
          exact Nat.lt_of_lt_of_le (show r.length < 128 by omega) (by decide)
        refine ⟨.int c, rfl, .int m, rfl, _, _, rfl, rfl, hm0, ?_⟩
        exact q _ _ ⟨ne, r ++ [c / m], y, z + 1, by rw [upd_ne ne]; exact hd3, by rw [upd_same, List.map_append]; rfl, by rw [List.length_append]; show r.length + 1 ≤ 63; omega, by omega, by omega⟩ (fr3.trans Fr.l) (Int.emod_nonneg _ (by omega)) (Int.emod_lt_of_pos _ hm0)
      · refine ⟨.int c, rfl, .ref d, rfl, d, .int (z + 1), rfl, dgA hd3, _, _, rfl, rfl, _, rfl, fun v v0 v1 => ?_⟩
        refine ⟨_, _, rfl, rfl, (⟨by decide, by decide⟩ : (0 : Int) < 8 ∧ (8 : Int) < 1073741824), .int m, rfl, _, _, rfl, rfl, hm0, ?_⟩
        exact q _ _ ⟨ne, r, y, z + 1, hd3, hl3, by omega, by omega, by omega⟩ fr3 (Int.emod_nonneg _ (by omega)) (Int.emod_lt_of_pos _ hm0)

end
end Gk

set_option Elab.async false
set_option linter.all false
set_option maxRecDepth 100000
set_option maxHeartbeats 1000000
set_option pp.maxSteps 1500
set_option pp.deepTerms false
namespace Gk
open PySem PySem.Spec PyProof.Rows L2
section
variable {P : Program} {w : World} {K : PySem.W.Frag} {mg : Str → Option Value} {base : Heap}
/-! ### sum(elt for tg in iter ..), of ints -/
namespace GxS
open PySem PySem.Spec PyProof.Rows L2
section
variable {X : Cx} {A A' : Around} {s_0 : Shared} {H_0 : Hp} {cenv : Env} {fp : List Addr} {tn : Nat → Heap → Prop} {ga S : Addr} {gn n : Nat} {go : Obj}
def ACs (ga : Addr) (go : Obj) (S : Addr) (a : Int) (cp : List (Addr × Obj)) : Prop := ∃ (t : Tok) (c : Nat), cp = [(ga, go), (S, lstObj #[.int a t] c)]
def YdS (a : Int) (y : V) (H : Hp) (Nx : Int → Hp → Prop) : Prop := ∃ i : Int, y = .int i ∧ InLong i ∧ InLong (a + i) ∧ Nx (a + i) H
theorem lst_one {a a' : Int} {t t' : Tok} {c c' : Nat} (h : some (lstObj #[Value.int a t] c) = some (lstObj #[Value.int a' t'] c')) : a' = a := by
  have h1 := congrArg Obj.data (Option.some.inj h)
  have h2 : #[Value.int a t] = #[Value.int a' t'] := by
    have h1 : (lstObj #[Value.int a t] c).data = (lstObj #[Value.int a' t'] c').data := h1
    unfold lstObj at h1
    injection h1
  have h3 : [Value.int a t] = [Value.int a' t'] := congrArg Array.toList h2
  have h4 := (List.cons.inj h3).1
  injection h4 with h5 _
  exact h5.symm
theorem sum_gx {R : Result → Shared → Prop} {End : Int → Hp → Prop} (hh : A.handled = none) (hroom : A.depth < recursionLimit) (hG : GenObj go gn) (hSa : S ≠ ga) (far : (gblk X A' s_0 H_0 cenv fp).s_0.heap.objs.size ≤ S) (hSc : ∀ x c, cenv.cells.lookup x = some c → c ≠ S)
    (keep : ∀ i h h', tn i h → (∀ b ∈ fp, ∀ o, h.get? b = some o → h'.get? b = some o) → tn i h') (hSf : ∀ b ∈ fp, b ≠ S)
    (yes : ∀ (σ : L2.St) (H : Hp) (a : Int) (t : Tok) (cp : List (Addr × Obj)) (s1 : Shared), Inv (gblk X A' s_0 H_0 cenv fp) cp σ H s1 → End a H → R (.ok (.ret (.int a t))) s1) :
    ∀ (n : Nat) (s : Shared) (a : Int) (t : Tok) (c : Nat), s.heap.NoLimit → s.heap.get? ga = some go → s.heap.get? S = some (lstObj #[.int a t] c) → (∃ gs, s.gens[gn]? = some gs ∧ gs.Goes (model X.prog X.w) A.in1.in1 (RG (gblk X A' s_0 H_0 cenv fp) (ACs ga go S) End)
      (YG (gblk X A' s_0 H_0 cenv fp) fp tn (ACs ga go S) YdS) n (.send .none) (s.setGen gn .running)) →
      codeAny (model X.prog X.w) A (.builtin "sum.loop" ⟨[.ref ga, .ref S, rawInt 0, rawInt 0], []⟩) R s := by
  intro n
  induction n using Nat.strongRecOn with
  | ind n ih =>
    rintro s a t c hl e hS ⟨gs, hgs, hgo⟩
    refine codeAny_builtin F.entry_sum_loop ?_
    rw [Around.under_plainId F.plain_sum_loop _]
    show wpAny _ A.in1 (seqItems? (.ref S) >>= _) _ _ s
    refine wpAny_bind (wpAny_seqItems hS rfl ?_)
    show wpAny _ A.in1 (tryCatch (pyNext (.ref ga)) _ >>= _) _ _ s
    refine wpAny_bind (wpAny_tryCatch (next_gx2 (A := A.in1) hh hroom hl hG e hgs hgo (fun a' x σ H i cp Nx v s1 gs' r hac tie I st hy at_ kap => ?_) fun a' σ H cp s1 hac tie I q => ?_))
    · obtain ⟨t', c', rfl⟩ := hac
      have e1 := tie (S, lstObj #[.int a' t'] c') (List.mem_cons_of_mem _ List.mem_cons_self)
      rw [hS] at e1
      obtain rfl := lst_one e1
      obtain ⟨j, rfl, ⟨f1, f2⟩, ⟨f3, f4⟩, nx⟩ := hy
      obtain ⟨tk, rfl⟩ := (show ∃ t, v = Value.int j t from r)
      have pS := I.pin (S, lstObj #[.int a' t'] c') (List.mem_append_right _ (List.mem_cons_of_mem _ List.mem_cons_self))
      have I0 : Inv (gblk X A' s_0 H_0 cenv fp) [(ga, go)] σ H s1 := I.pins_of fun p hp => I.pin p (List.mem_append_right _ (by rw [List.mem_singleton.mp hp]; exact List.mem_cons_self))
      have I1 := I0.turned (t' := s1.toks + 1) (h' := s1.heap.update S (Obj.mapSeq (fun _ => #[Value.int (a' + j) s1.toks]))) (it := S) (fun b o hb q => (Heap.get?_update_other _ _ (Ne.symm hb)).trans q) pS.2.1 pS.2.2.1 (.inr far) hSc (fun p hp => by rw [List.mem_singleton.mp (show p ∈ [(ga, go)] by simpa using hp)]; exact Ne.symm hSa)
      have e2 := Heap.get?_update_self (Obj.mapSeq (fun _ => #[Value.int (a' + j) s1.toks])) pS.1 rfl
      have pG := I1.pin (ga, go) (List.mem_append_right _ List.mem_cons_self)
      have hc : ((decide (-(2 ^ 63) ≤ j) && decide (j < 2 ^ 63)) && (decide (-(2 ^ 63) ≤ a' + j) && decide (a' + j < 2 ^ 63))) = true := by
        simp only [Bool.and_eq_true, decide_eq_true_eq]
        exact ⟨⟨f1, f2⟩, f3, f4⟩
      show wpAny _ A.in1 (if (_ : Bool) = true then (mkInt (a' + j) >>= _) else _) _ _ _
      split
      · refine wpAny_bind (wpAny_mkInt ?_)
        show wpAny _ A.in1 (updateSeq S (fun _ => #[Value.int (a' + j) s1.toks]) >>= _) _ _ _
        refine wpAny_bind ?_
        obtain ⟨m, hm, z⟩ := kap (a' + j) [(ga, go), (S, _)] (({ s1 with toks := s1.toks + 1, heap := s1.heap.update S (Obj.mapSeq (fun _ => #[Value.int (a' + j) s1.toks])) } : Shared).setGen gn .running) nx ⟨_, _, rfl⟩ (inv_moved (I1.pins_of fun p hp => by
          rcases List.mem_cons.mp hp with z | z
          · rw [z]; exact pG
          · rw [List.mem_singleton.mp z]; exact ⟨e2, pS.2.1, pS.2.2.1, pS.2.2.2.1, fun v q => by cases q⟩) rfl (allBare_setGen (s := { s1 with toks := s1.toks + 1, heap := s1.heap.update S (Obj.mapSeq (fun _ => #[Value.int (a' + j) s1.toks])) }) I1.bare rfl) fun _ _ q => q) (keep _ _ _ st fun b hb o q => (Heap.get?_update_other _ _ (Ne.symm (hSf b hb))).trans q)
        refine wpAny_updateSeq pS.1 rfl (wpAny_pure ⟨plainId_quiet F.plain_sum_loop _, ih m (by omega) _ (a' + j) s1.toks _ I1.nolimit pG.1 e2 ⟨gs', at_, z⟩⟩)
      · rename_i hneg
        exact absurd hc hneg
    · obtain ⟨t', c', rfl⟩ := hac
      have e1 := tie (S, lstObj #[.int a' t'] c') (List.mem_cons_of_mem _ List.mem_cons_self)
      rw [hS] at e1
      obtain rfl := lst_one e1
      exact wpAny_pure (yes σ H a' t _ s1 I q)
end
section
variable {X : Cx}
def tSumX (P : Addr) (wi : TI) (g : TG) (tt : TT) (te : TE) (vs : List Nat) : TE := fun σ H Q => wi σ H fun J H1 => GxR.TabG H1 P ∧ ∀ H2, GxR.Tabbed P H1 H2 → ∃ W : Nat → Nat → Int → Hp → Prop, (∃ m, W 0 m 0 H2) ∧
  tGx J g tt te (wipe σ vs) vs (fun a H => Q (.int a) H) YdS W
theorem pe_sumX {c P : Addr} {elt tg iter : Expr} {ifs : List Expr} {p pos gpos : Pos} {scope : Scope} {own : List (Str × Nat)} {wi : TI} {g : TG} {tt : TT} {te : TE} {k : Nat}
    (hr : Room (k + 1) X.A) (hc : X.calm = true) (hN : X.N.Nodup) (hgl : Gl X "sum") (hm : X.mg "sum" = none) (hb : bootBuiltins "sum" = some (.builtin "sum")) (TB : GxR.TabB X.base X.mg c P) (hcode : X.env.code = .ref c)
    (hco : scope.isCoroutine = false) (hdot : scope.names.lookup (".0" : Str) = some NameKind.local) (nocell : ∀ y ∈ scope.names, y.2 ≠ .cell) (ok : BlkOk X.N X.env.scope scope own) (hi : PI X tg iter wi)
    (hg : ∀ (A' : Around) (s : Shared) (H : Hp) (C : Addr) (cl : List (Str × Addr)) (code : Value) (fp : List Addr), Room k A' → A'.guards = X.A.guards → PG (gblk X A' s H (genEnv scope cl C code builtinsNs X.env) fp) tg g)
    (ht : ∀ (A' : Around) (s : Shared) (H : Hp) (C : Addr) (cl : List (Str × Addr)) (code : Value) (fp : List Addr), Room k A' → A'.guards = X.A.guards → PTs (gblk X A' s H (genEnv scope cl C code builtinsNs X.env) fp) ifs tt)
    (he : ∀ (A' : Around) (s : Shared) (H : Hp) (C : Addr) (cl : List (Str × Addr)) (code : Value) (fp : List Addr), Room k A' → A'.guards = X.A.guards → PE (gblk X A' s H (genEnv scope cl C code builtinsNs X.env) fp) elt te)
    (hs : ∀ v, genFold iter X.env v = pure v)
    (hst : starEach [.GeneratorExp elt [⟨tg, iter, ifs, 0⟩] scope gpos] X.env = (false, eval (.GeneratorExp elt [⟨tg, iter, ifs, 0⟩] scope gpos) X.env) :: starEach [] X.env := by rfl) :
    PE X (.Call (.Name "sum" p) [.GeneratorExp elt [⟨tg, iter, ifs, 0⟩] scope gpos] [] pos) (tSumX P wi g tt te (own.map (·.2))) := by
  refine ⟨fun pins s σ H Q I h => ?_⟩
  refine wpAny_Call_Name_kw (ld_blt I hgl hm hb ?_)
  refine PyProof.Rows.callWith_builtin1 ?_ hst (by rfl)
  rw [hst]
  show wpAny _ _ (spliced ((false, eval (.GeneratorExp elt [⟨tg, iter, ifs, 0⟩] scope gpos) X.env) :: backTo pos (starEach [] X.env))) _ _ s
  refine Calls.spliced_cons (gx_make (A := X.A.in1.in1) hr ⟨rfl, rfl, rfl, rfl, (by show X.A.units + 1 + 1 ≤ _; omega)⟩ hc hN TB hcode hco hdot nocell ok hi hg ht he hs I h fun J H1 H2 u s5 hR hT hG => ?_)
  obtain ⟨A', s_0, H_0, cenv, fp, ga, gn, go, tn, gs, rfl, hGO, hgs, hbare, I5, st5, nf, hlt, keep, back, goes⟩ := hG
  obtain ⟨W, ⟨m, w0⟩, turn⟩ := hR H2 hT
  refine Calls.spliced_nil ?_
  have pin5 := (I5.pin (ga, go) (List.mem_append_right _ List.mem_cons_self)).1
  have glt : ga < s5.heap.objs.size := Heap.lt_size pin5
  have hSI : s5.heap.objs.size ≠ ga := Nat.ne_of_gt glt
  refine call_function_tree F.kind_sum F.plain_sum F.entry_sum (F.args_sum1 _) ?_
  unfold Builtin.«sum»
  simp only [List.length_cons, List.length_nil]
  rw [if_neg (by decide)]
  refine wpAny_bind (wpAny_of_eq (show Builtin.Builtins.bindParams "sum" ["start"] 0 { } = pure [none] from rfl) ?_)
  refine wpAny_bind (wpAny_pyIter_gen (hGO.isGen pin5) ?_)
  refine wpAny_bind (wpAny_mkInt ?_)
  refine wpAny_bind (wpAny_pure ?_)
  simp only [List.forIn_cons, List.forIn_nil]
  refine wpAny_bind (wpAny_bind (wpAny_bind (wpAny_isInstance (T := "int") (b := false) (typeIs_int _ _ _) PySem.sub_int_str ?_)))
  simp only [Bool.false_eq_true, if_false]
  refine wpAny_pure (wpAny_bind (wpAny_bind (wpAny_isInstance (T := "int") (b := false) (typeIs_int _ _ _) PySem.sub_int_bytes ?_)))
  simp only [Bool.false_eq_true, if_false]
  refine wpAny_pure (wpAny_bind (wpAny_bind (wpAny_isInstance (T := "int") (b := false) (typeIs_int _ _ _) PySem.sub_int_bytearray ?_)))
  simp only [Bool.false_eq_true, if_false]
  refine wpAny_pure (wpAny_pure ?_)
  refine wpAny_bind (wpAny_newObj_type ?_)
  have k1 : ∀ b o, s5.heap.get? b = some o → (s5.heap.push { cls := .type "list", data := .seq [Value.int 0 s5.toks].toArray }).get? b = some o := fun b o e => Heap.get?_push_of_some _ e
  have hS₁ : (s5.heap.push { cls := .type "list", data := .seq [Value.int 0 s5.toks].toArray }).get? s5.heap.objs.size = some (lstObj #[.int 0 s5.toks] 0) := Heap.get?_push_size _ rfl
  have fS : FpOk (gblk X A' s_0 H_0 cenv fp) [(ga, go)] H2 s5.heap.objs.size := I5.fpOk (Nat.le_refl _) (I5.hok.fresh (Nat.le_refl _))
  have hfS : ∀ b ∈ fp, b ≠ s5.heap.objs.size := fun b hb => Nat.ne_of_lt (Nat.lt_trans (hlt b hb) glt)
  have I6 := inv_moved (s' := { s5 with toks := s5.toks + 1, heap := s5.heap.push { cls := .type "list", data := .seq [Value.int 0 s5.toks].toArray } }) I5 rfl I5.bare k1
  refine wpAny_pure ⟨plainId_quiet F.plain_sum_loop _, sum_gx (A' := A') (s_0 := s_0) (H_0 := H_0) (cenv := cenv) (fp := fp) (tn := tn) (go := go) (gn := gn) (End := fun a H => Q (.int a) H) hr.hd hr.depth hGO hSI (Nat.le_trans I5.sz (Nat.le_refl _)) fS.2.2.2.2.1 keep hfS
    (fun σ' H' a t cp s1 I1 q => ⟨.int a, H', back _ _ _ _ I1, ⟨t, rfl⟩, q⟩) (m + 1) _ 0 s5.toks 0 I6.nolimit (k1 _ _ pin5) hS₁ ⟨gs, hgs, ?_⟩⟩
  refine goes Int (ACs ga go s5.heap.objs.size) _ YdS W m (m + 1) 0 [(ga, go), (s5.heap.objs.size, lstObj #[.int 0 s5.toks] 0)] _ turn w0 (Nat.lt_succ_self _) (fun a cp hac p hp b hb z => ?_) ⟨_, _, rfl⟩
    (inv_moved (I6.pins_of fun p hp => ?_) rfl (allBare_setGen (s := { s5 with toks := s5.toks + 1, heap := _ }) I5.bare rfl) fun _ _ q => q) (keep _ _ _ st5 fun b hb o q => k1 b o q)
  · obtain ⟨t, c, rfl⟩ := hac
    rcases List.mem_cons.mp hp with e | e
    · rw [e] at z
      exact absurd (hlt b hb) (by rw [← z]; exact Nat.lt_irrefl _)
    · rw [List.mem_singleton.mp e] at z
      exact hfS b hb z.symm
  · rcases List.mem_cons.mp hp with e | e
    · rw [e]
      exact I6.pin (ga, go) (List.mem_append_right _ List.mem_cons_self)
    · rw [List.mem_singleton.mp e]
      exact ⟨hS₁, fS.1, fS.2.1, fS.2.2.1, fun v q => by cases q⟩
end
end GxS

/-! ### sizes of what is shown -/
def fineB (n m : Nat) (d : PyData) : Bool := d.showable && (d.leavesShort 200 && (decide (d.weight ≤ n) && decide (d.depth ≤ m)))
theorem fine_iff {n m : Nat} {d : PyData} : fineB n m d = true ↔ d.showable = true ∧ d.leavesShort 200 = true ∧ d.weight ≤ n ∧ d.depth ≤ m := by
  unfold fineB
  rw [Bool.and_eq_true, Bool.and_eq_true, Bool.and_eq_true, decide_eq_true_eq, decide_eq_true_eq]
theorem fine_mono {n m n' m' : Nat} {d : PyData} (h : fineB n m d = true) (a : n ≤ n') (b : m ≤ m') : fineB n' m' d = true := by
  obtain ⟨h1, h2, h3, h4⟩ := fine_iff.mp h
  exact fine_iff.mpr ⟨h1, h2, Nat.le_trans h3 a, Nat.le_trans h4 b⟩
theorem fine_fits {n m : Nat} {d : PyData} (h : fineB n m d = true) (hn : n ≤ 50000) : d.shown.length ≤ sizeLine := by
  obtain ⟨_, h2, h3, _⟩ := fine_iff.mp h
  have := PyData.shown_le 200 (by decide) d h2
  have e : sizeLine = 16777216 := by decide
  rw [e]
  omega
theorem fine_all {n m : Nat} : ∀ {ds : List PyData}, (∀ d ∈ ds, fineB n m d = true) → PyData.showableAll ds = true ∧ PyData.leavesShortAll 200 ds = true ∧ PyData.weightAll ds ≤ ds.length * (n + 1) ∧ PyData.depthAll ds ≤ m
  | [], _ => ⟨rfl, rfl, Nat.zero_le _, Nat.zero_le _⟩
  | d :: r, h => by
    obtain ⟨a1, a2, a3, a4⟩ := fine_iff.mp (h d (List.mem_cons_self ..))
    obtain ⟨b1, b2, b3, b4⟩ := fine_all (ds := r) fun x hx => h x (List.mem_cons_of_mem _ hx)
    refine ⟨?_, ?_, ?_, ?_⟩
    · unfold PyData.showableAll
      rw [a1, b1]
      rfl
    · unfold PyData.leavesShortAll
      rw [a2, b2]
      rfl
    · unfold PyData.weightAll
      rw [List.length_cons, Nat.succ_mul]
      omega
    · unfold PyData.depthAll
      omega
theorem fine_tup {n m k : Nat} {ds : List PyData} (h : ∀ d ∈ ds, fineB n m d = true) (hk : ds.length ≤ k) : fineB (k * (n + 1)) (m + 1) (.tuple ds) = true := by
  obtain ⟨b1, b2, b3, b4⟩ := fine_all h
  refine fine_iff.mpr ⟨b1, b2, ?_, ?_⟩
  · show PyData.weightAll ds ≤ _
    exact Nat.le_trans b3 (Nat.mul_le_mul_right _ hk)
  · show PyData.depthAll ds + 1 ≤ _
    omega
theorem fine_lst {n m k : Nat} {ds : List PyData} (h : ∀ d ∈ ds, fineB n m d = true) (hk : ds.length ≤ k) : fineB (k * (n + 1)) (m + 1) (.list ds) = true := by
  obtain ⟨b1, b2, b3, b4⟩ := fine_all h
  refine fine_iff.mpr ⟨b1, b2, ?_, ?_⟩
  · show PyData.weightAll ds ≤ _
    exact Nat.le_trans b3 (Nat.mul_le_mul_right _ hk)
  · show PyData.depthAll ds + 1 ≤ _
    omega

mutual
theorem Sh.gr {H H' : Hp} (s : Gr H H') : ∀ {v : V} {d : PyData}, Sh H v d → Sh H' v d
  | _, _, .non => .non
  | _, _, .bl b => .bl b
  | _, _, .int i => .int i
  | _, _, .str x => .str x
  | _, _, .lst h n t => .lst (s.lst h) n (t.gr s)
  | _, _, .tup h t => .tup (s.tup h) (t.gr s)
  | _, _, .dic h t => .dic (s.1 _ _ (fun _ z => by cases z) h) (t.gr s)
theorem ShAll.gr {H H' : Hp} (s : Gr H H') : ∀ {vs : List V} {ds : List PyData}, ShAll H vs ds → ShAll H' vs ds
  | _, _, .nil => .nil
  | _, _, .cons h t => .cons (h.gr s) (t.gr s)
end
theorem ShAll.get {H : Hp} : ∀ {xs : List V} {ds : List PyData} {j : Nat} {x : V}, ShAll H xs ds → xs[j]? = some x → ∃ d, ds[j]? = some d ∧ Sh H x d
  | _, _, _, _, .nil, h => by simp at h
  | _, _, 0, _, .cons (d := d) a _, h => by
    cases (Option.some.inj h)
    exact ⟨d, rfl, a⟩
  | _, _, j + 1, _, .cons _ t, h => t.get h
theorem ShAll.append {H : Hp} : ∀ {xs ys : List V} {ds es : List PyData}, ShAll H xs ds → ShAll H ys es → ShAll H (xs ++ ys) (ds ++ es)
  | _, _, _, _, .nil, t => t
  | _, _, _, _, .cons a r, t => .cons a (r.append t)
theorem ShAll.take {H : Hp} : ∀ {xs : List V} {ds : List PyData} (n : Nat), ShAll H xs ds → ShAll H (xs.take n) (ds.take n)
  | _, _, 0, _ => by rw [List.take_zero, List.take_zero]; exact .nil
  | _, _, n + 1, .nil => .nil
  | _, _, n + 1, .cons a r => .cons a (r.take n)
theorem ShAll.drop {H : Hp} : ∀ {xs : List V} {ds : List PyData} (n : Nat), ShAll H xs ds → ShAll H (xs.drop n) (ds.drop n)
  | _, _, 0, h => h
  | _, _, n + 1, .nil => .nil
  | _, _, n + 1, .cons _ r => r.drop n
theorem notT {b : Bool} (h : (!b) = true) : ¬ b = true := by cases b <;> simp_all
theorem notF {b : Bool} (h : ¬ (!b) = true) : b = true := by cases b <;> simp_all

/-! ### kinds of data -/
def isIntD : PyData → Bool
  | .int _ => true
  | .bool _ => true
  | _ => false
def isBoolD : PyData → Bool
  | .bool _ => true
  | _ => false
def isTupD : PyData → Bool
  | .tuple _ => true
  | _ => false
def isStrD : PyData → Bool
  | .str _ => true
  | _ => false
theorem kitInt : ∀ d : PyData, kitB (tyD d) "int" = some (isIntD d)
  | .none => (by decide +kernel : kitB "NoneType" "int" = some false)
  | .bool _ => (by decide +kernel : kitB "bool" "int" = some true)
  | .int _ => (by decide +kernel : kitB "int" "int" = some true)
  | .str _ => (by decide +kernel : kitB "str" "int" = some false)
  | .list _ => (by decide +kernel : kitB "list" "int" = some false)
  | .tuple _ => (by decide +kernel : kitB "tuple" "int" = some false)
  | .dict _ => (by decide +kernel : kitB "dict" "int" = some false)
theorem kitBool : ∀ d : PyData, kitB (tyD d) "bool" = some (isBoolD d)
  | .none => (by decide +kernel : kitB "NoneType" "bool" = some false)
  | .bool _ => (by decide +kernel : kitB "bool" "bool" = some true)
  | .int _ => (by decide +kernel : kitB "int" "bool" = some false)
  | .str _ => (by decide +kernel : kitB "str" "bool" = some false)
  | .list _ => (by decide +kernel : kitB "list" "bool" = some false)
  | .tuple _ => (by decide +kernel : kitB "tuple" "bool" = some false)
  | .dict _ => (by decide +kernel : kitB "dict" "bool" = some false)
theorem kitTup : ∀ d : PyData, kitB (tyD d) "tuple" = some (isTupD d)
  | .none => (by decide +kernel : kitB "NoneType" "tuple" = some false)
  | .bool _ => (by decide +kernel : kitB "bool" "tuple" = some false)
  | .int _ => (by decide +kernel : kitB "int" "tuple" = some false)
  | .str _ => (by decide +kernel : kitB "str" "tuple" = some false)
  | .list _ => (by decide +kernel : kitB "list" "tuple" = some false)
  | .tuple _ => (by decide +kernel : kitB "tuple" "tuple" = some true)
  | .dict _ => (by decide +kernel : kitB "dict" "tuple" = some false)
theorem kitStr : ∀ d : PyData, kitB (tyD d) "str" = some (isStrD d)
  | .none => (by decide +kernel : kitB "NoneType" "str" = some false)
  | .bool _ => (by decide +kernel : kitB "bool" "str" = some false)
  | .int _ => (by decide +kernel : kitB "int" "str" = some false)
  | .str _ => (by decide +kernel : kitB "str" "str" = some true)
  | .list _ => (by decide +kernel : kitB "list" "str" = some false)
  | .tuple _ => (by decide +kernel : kitB "tuple" "str" = some false)
  | .dict _ => (by decide +kernel : kitB "dict" "str" = some false)
def wholeD : PyData → Bool
  | .int _ => true
  | _ => false
def worthD : PyData → Bool
  | .int i => decide (0 ≤ i) && decide (i ≤ 1)
  | _ => false
theorem whole_of : ∀ {d : PyData}, isIntD d = true → wholeD d = !isBoolD d
  | .int _, _ => rfl
  | .bool _, _ => rfl
  | .none, h => by cases h
  | .str _, h => by cases h
  | .list _, h => by cases h
  | .tuple _, h => by cases h
  | .dict _, h => by cases h
theorem whole_not : ∀ {d : PyData}, ¬ isIntD d = true → wholeD d = false
  | .int _, h => absurd rfl h
  | .bool _, h => absurd rfl h
  | .none, _ => rfl
  | .str _, _ => rfl
  | .list _, _ => rfl
  | .tuple _, _ => rfl
  | .dict _, _ => rfl
theorem whole_int : ∀ {d : PyData}, wholeD d = true → ∃ i, d = .int i
  | .int i, _ => ⟨i, rfl⟩
  | .bool _, h => by cases h
  | .none, h => by cases h
  | .str _, h => by cases h
  | .list _, h => by cases h
  | .tuple _, h => by cases h
  | .dict _, h => by cases h
theorem worth_not : ∀ {d : PyData}, ¬ wholeD d = true → worthD d = false
  | .int _, h => absurd rfl h
  | .bool _, _ => rfl
  | .none, _ => rfl
  | .str _, _ => rfl
  | .list _, _ => rfl
  | .tuple _, _ => rfl
  | .dict _, _ => rfl
theorem tup_of : ∀ {d : PyData}, isTupD d = true → ∃ ds, d = .tuple ds
  | .tuple ds, _ => ⟨ds, rfl⟩
  | .bool _, h => by cases h
  | .none, h => by cases h
  | .str _, h => by cases h
  | .list _, h => by cases h
  | .int _, h => by cases h
  | .dict _, h => by cases h
def sp_is_whole (K : PySem.W.Frag) : Sp := fun vs H Q _ => ∃ (v : V) (d : PyData), vs = [v] ∧ Sh H v d ∧ Q (.bl (wholeD d)) H
theorem ok_is_whole (T : Tx K mg) : FnOk P w K mg base CX0 1 T.f_is_whole T.fd_is_whole ["thing"] (sp_is_whole K) := by
  refine T.F_is_whole.ok sc_is_whole (fun vs H Q E h => ?_) (fun cdv A outer s H vs Q E hr h => ?_)
  · obtain ⟨v, d, rfl, _⟩ := h
    rfl
  · obtain ⟨v, d, rfl, sh, q⟩ := h
    refine ⟨_, (pss_one (ps_ret (pe_and (pe_callB call_isi (by rfl) T.m_isinstance (by decide +kernel) (pa_cons (pv 0) (pa_cons (pe_bltn (v := .ty "int") (u := .type "int") (by rfl) T.m_int (by decide +kernel) rfl) pa_nil))) (pe_one (pe_not (pe_callB call_isi (by rfl) T.m_isinstance (by decide +kernel) (pa_cons (pv 0) (pa_cons (pe_bltn (v := .ty "bool") (u := .type "bool") (by rfl) T.m_bool (by decide +kernel) rfl) pa_nil)))))))), ?_⟩
    refine ⟨v, rfl, _, _, _, _, _, rfl, .ty _, sh.ty, kit_ty (kitInt d), _, rfl, ite2 (fun e => ?_) (fun e => ?_)⟩
    · refine ⟨v, rfl, _, _, _, _, _, rfl, .ty _, sh.ty, kit_ty (kitBool d), _, rfl, ?_⟩
      rw [← whole_of e]
      exact q
    · rw [whole_not e] at q
      exact q

theorem str_len (x : String) : (Str.ofString x).length = x.length := PySem.ofString_length x

theorem int_weight {i : Int} {k : Nat} (h : i.natAbs < 2 ^ k) : (PyData.int i).weight ≤ k := by
  show (if i == 0 then 0 else i.natAbs.log2 + 1) ≤ k
  by_cases z : i = 0
  · rw [if_pos (by rw [z]; rfl)]
    exact Nat.zero_le _
  · rw [if_neg (by simpa using z)]
    exact (Nat.log2_lt (by omega)).mpr h

/-! ### what is spoilt stays small -/
mutual
def gd (B : Nat) : PyData → Bool
  | .none => true
  | .bool _ => true
  | .int i => decide (i.natAbs ≤ B)
  | .str x => x.cps.toList.all fun c => decide (c < 128)
  | .list xs => gds B xs
  | .tuple xs => gds B xs
  | .dict kvs => kvs.isEmpty
def gds (B : Nat) : List PyData → Bool
  | [] => true
  | x :: r => gd B x && gds B r
end
theorem gds_iff {B : Nat} : ∀ {l : List PyData}, gds B l = true ↔ ∀ x ∈ l, gd B x = true
  | [] => ⟨fun _ x hx => (by cases hx), fun _ => rfl⟩
  | y :: r => by
    show (gd B y && gds B r) = true ↔ _
    rw [Bool.and_eq_true, gds_iff (l := r)]
    exact ⟨fun ⟨a, b⟩ x hx => (List.mem_cons.mp hx).elim (fun e => e ▸ a) (b x), fun h => ⟨h y (List.mem_cons_self ..), fun x hx => h x (List.mem_cons_of_mem _ hx)⟩⟩
mutual
theorem gd_mono {B C : Nat} (h : B ≤ C) : ∀ {d : PyData}, gd B d = true → gd C d = true
  | .none, _ => rfl
  | .bool _, _ => rfl
  | .int _, e => decide_eq_true (Nat.le_trans (of_decide_eq_true e) h)
  | .str _, e => e
  | .list _, e => gds_mono h e
  | .tuple _, e => gds_mono h e
  | .dict _, e => e
theorem gds_mono {B C : Nat} (h : B ≤ C) : ∀ {l : List PyData}, gds B l = true → gds C l = true
  | [], _ => rfl
  | _ :: _, e => by
    have e' := Bool.and_eq_true_iff.mp e
    exact Bool.and_eq_true_iff.mpr ⟨gd_mono h e'.1, gds_mono h e'.2⟩
end
theorem small_log {i : Int} {B : Nat} (h : i.natAbs ≤ B) (hB : B < 2 ^ 190) : i.natAbs.log2 < 190 := by
  by_cases z : i.natAbs = 0
  · rw [z]; decide
  · exact (Nat.log2_lt z).mpr (Nat.lt_of_le_of_lt h hB)
mutual
theorem gd_show {B : Nat} (hB : B < 2 ^ 190) : ∀ {d : PyData}, gd B d = true → d.showable = true ∧ d.leavesShort 200 = true
  | .none, _ => ⟨rfl, rfl⟩
  | .bool _, _ => ⟨rfl, rfl⟩
  | .int i, e => by
    have l := small_log (of_decide_eq_true e) hB
    refine ⟨decide_eq_true (Nat.lt_trans l (by decide)), decide_eq_true ?_⟩
    have := PySem.int_text_length_le (a := i) (k := 190) (by decide) l
    show (Str.ofString (toString i)).length ≤ 200
    rw [str_len]
    omega
  | .str x, e => by
    refine ⟨rfl, ?_⟩
    show (x.cps.toList.all fun c => decide (c < 16 ^ 8)) = true
    refine List.all_eq_true.mpr fun c hc => decide_eq_true (Nat.lt_trans (of_decide_eq_true (List.all_eq_true.mp e c hc)) (by decide))
  | .list _, e => gds_show hB e
  | .tuple _, e => gds_show hB e
  | .dict [], _ => ⟨rfl, rfl⟩
  | .dict (_ :: _), e => by cases e
theorem gds_show {B : Nat} (hB : B < 2 ^ 190) : ∀ {l : List PyData}, gds B l = true → PyData.showableAll l = true ∧ PyData.leavesShortAll 200 l = true
  | [], _ => ⟨rfl, rfl⟩
  | _ :: _, e => by
    have e' := Bool.and_eq_true_iff.mp e
    have a := gd_show hB e'.1
    have b := gds_show hB e'.2
    exact ⟨Bool.and_eq_true_iff.mpr ⟨a.1, b.1⟩, Bool.and_eq_true_iff.mpr ⟨a.2, b.2⟩⟩
end
def Fit (B n m : Nat) (d : PyData) : Prop := gd B d = true ∧ d.weight ≤ n ∧ d.depth ≤ m
def FitL (B n m : Nat) (ds : List PyData) : Prop := gds B ds = true ∧ PyData.weightAll ds ≤ n ∧ PyData.depthAll ds ≤ m
theorem Fit.mono {B n m B' n' m' : Nat} {d : PyData} (h : Fit B n m d) (a : B ≤ B') (b : n ≤ n') (c : m ≤ m') : Fit B' n' m' d := ⟨gd_mono a h.1, Nat.le_trans h.2.1 b, Nat.le_trans h.2.2 c⟩
theorem Fit.tup {B n m : Nat} {ds : List PyData} (h : FitL B n m ds) : Fit B n (m + 1) (.tuple ds) := ⟨h.1, h.2.1, Nat.succ_le_succ h.2.2⟩
theorem Fit.lst {B n m : Nat} {ds : List PyData} (h : FitL B n m ds) : Fit B n (m + 1) (.list ds) := ⟨h.1, h.2.1, Nat.succ_le_succ h.2.2⟩
theorem Fit.inv {B n m : Nat} {ds : List PyData} (h : Fit B n (m + 1) (.tuple ds)) : FitL B n m ds := ⟨h.1, h.2.1, Nat.le_of_succ_le_succ h.2.2⟩
theorem Fit.fine {B n m : Nat} {d : PyData} (h : Fit B n m d) (hB : B < 2 ^ 190) (hn : n ≤ 50000) (hm : m ≤ 50) : d.showable = true ∧ d.shown.length ≤ sizeLine ∧ d.depth ≤ 50 := by
  have s := gd_show hB h.1
  exact ⟨s.1, fine_fits (n := n) (m := m) (fine_iff.mpr ⟨s.1, s.2, h.2.1, h.2.2⟩) hn, Nat.le_trans h.2.2 hm⟩
theorem weight_app : ∀ a b : List PyData, PyData.weightAll (a ++ b) = PyData.weightAll a + PyData.weightAll b
  | [], b => (Nat.zero_add _).symm
  | x :: r, b => by
    show x.weight + 1 + PyData.weightAll (r ++ b) = x.weight + 1 + PyData.weightAll r + PyData.weightAll b
    rw [weight_app r b]
    omega
theorem depth_app : ∀ a b : List PyData, PyData.depthAll (a ++ b) = max (PyData.depthAll a) (PyData.depthAll b)
  | [], b => (Nat.zero_max _).symm
  | x :: r, b => by
    show max x.depth (PyData.depthAll (r ++ b)) = max (max x.depth (PyData.depthAll r)) (PyData.depthAll b)
    rw [depth_app r b, Nat.max_assoc]
theorem FitL.app {B n n' m : Nat} {a b : List PyData} (h : FitL B n m a) (g : FitL B n' m b) : FitL B (n + n') m (a ++ b) := by
  refine ⟨gds_iff.mpr fun x hx => ?_, ?_, ?_⟩
  · rcases List.mem_append.mp hx with z | z
    · exact gds_iff.mp h.1 x z
    · exact gds_iff.mp g.1 x z
  · rw [weight_app]
    exact Nat.add_le_add h.2.1 g.2.1
  · rw [depth_app]
    exact Nat.max_le.mpr ⟨h.2.2, g.2.2⟩
theorem FitL.parts {B n m : Nat} {a b : List PyData} (h : FitL B n m (a ++ b)) : FitL B n m a ∧ FitL B n m b := by
  obtain ⟨h1, h2, h3⟩ := h
  rw [weight_app] at h2
  rw [depth_app] at h3
  exact ⟨⟨gds_iff.mpr fun x hx => gds_iff.mp h1 x (List.mem_append_left _ hx), by omega, by omega⟩, ⟨gds_iff.mpr fun x hx => gds_iff.mp h1 x (List.mem_append_right _ hx), by omega, by omega⟩⟩
theorem FitL.take {B n m : Nat} {a : List PyData} (h : FitL B n m a) (k : Nat) : FitL B n m (a.take k) := by
  rw [← List.take_append_drop k a] at h
  exact h.parts.1
theorem FitL.drop {B n m : Nat} {a : List PyData} (h : FitL B n m a) (k : Nat) : FitL B n m (a.drop k) := by
  rw [← List.take_append_drop k a] at h
  exact h.parts.2
theorem FitL.one {B n m : Nat} {d : PyData} (h : Fit B n m d) : FitL B (n + 1) m [d] := by
  refine ⟨gds_iff.mpr fun x hx => by rw [List.mem_singleton.mp hx]; exact h.1, ?_, ?_⟩
  · show d.weight + 1 + 0 ≤ n + 1
    have := h.2.1
    omega
  · show max d.depth 0 ≤ m
    have := h.2.2
    omega
theorem FitL.get {B n m : Nat} {ds : List PyData} (h : FitL B n m ds) {j : Nat} {d : PyData} (e : ds[j]? = some d) : Fit B n m d := by
  have s : ds = ds.take j ++ [d] ++ ds.drop (j + 1) := by
    obtain ⟨hl, e'⟩ := List.getElem?_eq_some_iff.mp e
    rw [← e', List.append_assoc, List.singleton_append, List.getElem_cons_drop, List.take_append_drop]
  rw [s] at h
  obtain ⟨h1, h2, h3⟩ := h.parts.1.parts.2
  refine ⟨gds_iff.mp h1 d (List.mem_singleton.mpr rfl), ?_, ?_⟩
  · have : d.weight + 1 + 0 ≤ n := h2
    omega
  · have : max d.depth 0 ≤ m := h3
    omega
theorem weight_rev (a : List PyData) : PyData.weightAll a.reverse = PyData.weightAll a := by
  induction a with
  | nil => rfl
  | cons x r ih =>
    rw [List.reverse_cons, weight_app, ih]
    show PyData.weightAll r + (x.weight + 1 + 0) = x.weight + 1 + PyData.weightAll r
    omega
theorem depth_rev (a : List PyData) : PyData.depthAll a.reverse = PyData.depthAll a := by
  induction a with
  | nil => rfl
  | cons x r ih =>
    rw [List.reverse_cons, depth_app, ih]
    show max (PyData.depthAll r) (max x.depth 0) = max x.depth (PyData.depthAll r)
    omega
theorem FitL.rev {B n m : Nat} {a : List PyData} (h : FitL B n m a) : FitL B n m a.reverse :=
  ⟨gds_iff.mpr fun x hx => gds_iff.mp h.1 x (List.mem_reverse.mp hx), by rw [weight_rev]; exact h.2.1, by rw [depth_rev]; exact h.2.2⟩
theorem ShAll.rev {H : Hp} : ∀ {xs : List V} {ds : List PyData}, ShAll H xs ds → ShAll H xs.reverse ds.reverse
  | _, _, .nil => .nil
  | _, _, .cons a r => by
    rw [List.reverse_cons, List.reverse_cons]
    exact (ShAll.rev r).append (.cons a .nil)

end
end Gk

set_option Elab.async false
set_option linter.all false
set_option maxRecDepth 100000
set_option maxHeartbeats 1000000
set_option pp.maxSteps 1500
set_option pp.deepTerms false
namespace Gk
open PySem PySem.Spec PyProof.Rows L2
section
variable {P : Program} {w : World} {K : PySem.W.Frag} {mg : Str → Option Value} {base : Heap}
/-! ### zip of two or three texts, tuples, lists -/
namespace ZpG
open PySem PySem.Spec PyProof.Rows L2
inductive ZS where
  | tx (x : PySem.Str)
  | tu (a : Addr)
  | li (a : Addr)
def ZS.val : ZS → V
  | .tx x => .str x
  | .tu a => .ref a
  | .li a => .ref a
def ZS.at (K : PySem.W.Frag) : ZS → Hp → List V → Prop
  | .tx x, _, xs => xs = x.cps.toList.map fun c => V.str ⟨#[c]⟩
  | .tu a, H, xs => SqT K H a xs
  | .li a, H, xs => SqL K H a xs
def ZS.it : ZS → Addr → Nat → Heap → Prop
  | .tx x, it, i, h => ∃ t, h.IsStrIter it (strIterType x) x t i
  | .tu a, it, i, h => h.IsTupleIter it a i
  | .li a, it, i, h => h.IsListIter it a i
def ZS.lt : ZS → Nat → Prop
  | .tx _, _ => True
  | .tu a, n => a < n
  | .li a, n => a < n
def ZS.off : ZS → Addr → Prop
  | .tx _, _ => True
  | .tu a, c => a ≠ c
  | .li a, c => a ≠ c
theorem ne' {a b : Nat} (h : a ≠ b) : @Ne Addr a b := h
theorem ZS.off_of {n c : Nat} (hc : n ≤ c) : ∀ {z : ZS}, z.lt n → z.off c
  | .tx _, _ => trivial
  | .tu _, h => Nat.ne_of_lt (Nat.lt_of_lt_of_le h hc)
  | .li _, h => Nat.ne_of_lt (Nat.lt_of_lt_of_le h hc)
theorem ZS.obj {it : Addr} {i : Nat} {h : Heap} : ∀ {z : ZS}, z.it it i h → ∃ o, h.get? it = some o ∧ ∀ v, o.data ≠ .cell v
  | .tx _, ⟨_, o, e, _, d⟩ => ⟨o, e, fun v q => by rw [d] at q; cases q⟩
  | .tu _, ⟨o, e, _, d⟩ => ⟨o, e, fun v q => by rw [d] at q; cases q⟩
  | .li _, ⟨o, e, _, d⟩ => ⟨o, e, fun v q => by rw [d] at q; cases q⟩
theorem ZS.move {it : Addr} {i : Nat} {h h' : Heap} (k : ∀ o, h.get? it = some o → h'.get? it = some o) : ∀ {z : ZS}, z.it it i h → z.it it i h'
  | .tx _, ⟨t, o, e, r⟩ => ⟨t, o, k o e, r⟩
  | .tu _, ⟨o, e, r⟩ => ⟨o, k o e, r⟩
  | .li _, ⟨o, e, r⟩ => ⟨o, k o e, r⟩
section
variable {X : Cx} {pins : List (Addr × Obj)} {σ : L2.St} {H : Hp} {s : Shared}
theorem ZS.inj (I : Inv X pins σ H s) {z : ZS} {xs ys : List V} (h1 : z.at X.K H xs) (h2 : z.at X.K H ys) : xs = ys := by
  cases z with
  | tx x =>
    have e1 : xs = _ := h1
    have e2 : ys = _ := h2
    rw [e1, e2]
  | tu a => exact I.tuple_inj h1 h2
  | li a => exact I.list_inj h1 h2
theorem ZS.draws {A : Around} {it : Addr} {i : Nat} {xs : List V} (z : ZS) (I : Inv X pins σ H s) (hq : z.at X.K H xs) (hh : A.handled = none) (off : z.off it) (st : z.it it i s.heap) :
    ∃ (fp : List Addr) (P : Nat → Value → Prop) (St : Nat → Heap → Prop), Draws X.prog X.w A it fp xs.length P St ∧ it ∈ fp ∧ (∀ c, c ∈ fp → c = it ∨ ¬ z.off c) ∧ St i s.heap ∧ (∀ j h, St j h → z.it it j h) ∧ ∀ j v, P j v → ∃ x, xs[j]? = some x ∧ RelV x v := by
  cases z with
  | tx x =>
    obtain ⟨t, st⟩ := st
    have e : xs = x.cps.toList.map fun c => V.str ⟨#[c]⟩ := hq
    have el : xs.length = x.cps.size := by rw [e, List.length_map, Array.length_toList]
    refine ⟨[it], fun i v => ∃ c u, x.cps[i]? = some c ∧ v = .str ⟨#[c]⟩ u, fun i h => h.IsStrIter it (strIterType x) x t i, ?_, List.mem_cons_self, fun c hc => .inl (List.mem_singleton.mp hc), st, fun j h q => ⟨t, q⟩, fun j v p => ?_⟩
    · rw [el]
      exact Draws.text hh it x t
    · obtain ⟨c, u, hc, rfl⟩ := p
      refine ⟨.str ⟨#[c]⟩, ?_, ⟨u, rfl⟩⟩
      rw [e, List.getElem?_map, Array.getElem?_toList, hc]
      rfl
  | tu a =>
    obtain ⟨its, rv, p, _⟩ := I.tuple hq
    have hl := rv.length
    refine ⟨[it, a], fun i v => its.toArray[i]? = some v, fun i h => h.IsTupleIter it a i ∧ h.IsTuple a its.toArray, ?_, List.mem_cons_self, fun c hc => ?_, ⟨st, p⟩, fun j h q => q.1, fun j v q => ?_⟩
    · rw [hl, ← List.size_toArray]
      exact Draws.tuple hh it a off its.toArray
    · rcases List.mem_cons.mp hc with e | e
      · exact .inl e
      · refine .inr fun q => ?_
        rw [List.mem_singleton.mp e] at q
        exact q rfl
    · have q : its[j]? = some v := by simpa using q
      have hj := (List.getElem?_eq_some_iff.mp q).1
      have hx : xs[j]? = some (xs[j]'(by omega)) := List.getElem?_eq_getElem _
      obtain ⟨u, hu, ru⟩ := rv.get hx
      rw [q] at hu
      cases Option.some.inj hu
      exact ⟨_, hx, ru⟩
  | li a =>
    obtain ⟨its, rv, p, _⟩ := I.list hq
    have hl := rv.length
    refine ⟨[it, a], fun i v => its.toArray[i]? = some v, fun i h => h.IsListIter it a i ∧ h.IsList a its.toArray, ?_, List.mem_cons_self, fun c hc => ?_, ⟨st, p.isList⟩, fun j h q => q.1, fun j v q => ?_⟩
    · rw [hl, ← List.size_toArray]
      exact Draws.list hh it a off its.toArray
    · rcases List.mem_cons.mp hc with e | e
      · exact .inl e
      · refine .inr fun q => ?_
        rw [List.mem_singleton.mp e] at q
        exact q rfl
    · have q : its[j]? = some v := by simpa using q
      have hj := (List.getElem?_eq_some_iff.mp q).1
      have hx : xs[j]? = some (xs[j]'(by omega)) := List.getElem?_eq_getElem _
      obtain ⟨u, hu, ru⟩ := rv.get hx
      rw [q] at hu
      cases Option.some.inj hu
      exact ⟨_, hx, ru⟩
theorem ZS.begins {v : Value} {xs : List V} (z : ZS) (I : Inv X pins σ H s) (hq : z.at X.K H xs) (r : RelV z.val v) : ∃ o Hh, Begins v o Hh ∧ Hh s.heap ∧ (∀ it h, h.get? it = some o → z.it it 0 h) ∧ z.lt s.heap.objs.size := by
  cases z with
  | tx x =>
    obtain ⟨t, rfl⟩ := (show ∃ t, v = Value.str x t from r)
    exact ⟨_, _, begins_text x t, trivial, fun it h e => ⟨t, _, e, rfl, rfl⟩, trivial⟩
  | tu a =>
    cases (show v = Value.ref a from r)
    obtain ⟨its, rv, p, _⟩ := I.tuple hq
    obtain ⟨o1, ho1, _⟩ := id p
    exact ⟨_, _, begins_tuple a its.toArray, p, fun it h e => ⟨_, e, rfl, rfl⟩, Heap.lt_size ho1⟩
  | li a =>
    cases (show v = Value.ref a from r)
    obtain ⟨its, rv, p, _⟩ := I.list hq
    exact ⟨_, _, begins_list a its.toArray, p.isList, fun it h e => ⟨_, e, rfl, rfl⟩, p.lt⟩
end
def Itz2 (K : PySem.W.Frag) (z1 z2 : ZS) : It :=
  ⟨fun i H => ∃ (xs1 xs2 : List V) (x1 x2 : V), z1.at K H xs1 ∧ z2.at K H xs2 ∧ xs1[i]? = some x1 ∧ xs2[i]? = some x2,
    fun i H v H' => ∃ T x1 x2, v = .ref T ∧ H T = none ∧ H' = upd H T (.tup [x1, x2]) ∧ (∀ xs, z1.at K H xs → xs[i]? = some x1) ∧ (∀ xs, z2.at K H xs → xs[i]? = some x2),
    fun i H => ∃ xs1 xs2 : List V, z1.at K H xs1 ∧ z2.at K H xs2 ∧ i ≤ xs1.length ∧ i ≤ xs2.length ∧ (i = xs1.length ∨ i = xs2.length)⟩
theorem turn_zip2 {P : Program} {w : World} {K : PySem.W.Frag} {elts : List Expr} {kk : Nat} {tpos : Pos} {z1 z2 : ZS} {n : Nat} (l1 : z1.lt n) (l2 : z2.lt n) :
    Turn P w K (.Tuple elts kk tpos) (Itz2 K z1 z2) [n + 4, n + 2, n + 3, n, n + 1] (n + 4) (fun i h => IsZip h (n + 4) (n + 2) (n + 3) .none ∧ IsTupOf2 h (n + 2) (.ref (n)) (.ref (n + 1)) ∧ (∃ x1 x2, IsTupOf2 h (n + 3) x1 x2) ∧ z1.it (n) i h ∧ z2.it (n + 1) i h) where
  mem := List.mem_cons_self
  obj := fun i h st c hc => by
    obtain ⟨hz, hTI, ⟨x1, x2, hTO⟩, st1, st2⟩ := st
    have e' : c = n + 4 ∨ c = n + 2 ∨ c = n + 3 ∨ c = n ∨ c = n + 1 := by simpa using hc
    rcases e' with q | q | q | q | q
    · rw [q]; exact ⟨_, hz, fun v q => nomatch q⟩
    · rw [q]; exact ⟨_, hTI, fun v q => nomatch q⟩
    · rw [q]; exact ⟨_, hTO, fun v q => nomatch q⟩
    · rw [q]; exact ZS.obj (z := z1) st1
    · rw [q]; exact ZS.obj (z := z2) st2
  keep := fun i h h' st k => by
    obtain ⟨hz, hTI, ⟨x1, x2, hTO⟩, st1, st2⟩ := st
    exact ⟨k _ (by simp) _ hz, k _ (by simp) _ hTI, ⟨x1, x2, k _ (by simp) _ hTO⟩, ZS.move (z := z1) (fun o q => k _ (by simp) o q) st1, ZS.move (z := z2) (fun o q => k _ (by simp) o q) st2⟩
  item := by
    intro X hP hw hK hc i pins s σ H E I hf st hg
    subst hP hw hK
    obtain ⟨hz, hTI, ⟨y1, y2, hTO⟩, st1, st2⟩ := st
    obtain ⟨xs1, xs2, x1, x2, q1, q2, h1, h2⟩ := hg
    have hh : X.A.in1.handled = none := I.ok.hd hc
    obtain ⟨fp1, P1, St1, D1, m1, f1, s1, b1, p1⟩ := z1.draws (A := X.A.in1) I q1 hh (ZS.off_of (by omega) l1) st1
    have nf1 : ∀ c, n ≤ c → c ≠ n → c ∉ fp1 := fun c h1 h2 h3 => by
      rcases f1 c h3 with e | e
      · exact h2 e
      · exact e (ZS.off_of h1 l1)
    obtain ⟨fp2, P2, St2, D2, m2, f2, s2, b2, p2⟩ := z2.draws (A := X.A.in1) I q2 hh (ZS.off_of (by omega) l2) st2
    have nf2 : ∀ c, n ≤ c → c ≠ n + 1 → c ∉ fp2 := fun c h1 h2 h3 => by
      rcases f2 c h3 with e | e
      · exact h2 e
      · exact e (ZS.off_of h1 l2)
    have t1 : i < xs1.length := (List.getElem?_eq_some_iff.mp h1).1
    have t2 : i < xs2.length := (List.getElem?_eq_some_iff.mp h2).1
    have hzl : n + 4 < s.heap.objs.size := Heap.lt_size hz
    have S : ZipSep2 (n + 4) (n + 2) (n + 3) (n) (n + 1) fp1 fp2 := { TIz := (ne' (a := n + 2) (b := n + 4) (by omega)), TOz := (ne' (a := n + 3) (b := n + 4) (by omega)), TITO := (ne' (a := n + 2) (b := n + 3) (by omega)), TIi1 := (ne' (a := n + 2) (b := n) (by omega)), mem1 := m1, zf1 := nf1 (n + 4) (by omega) (ne' (a := n + 4) (b := n) (by omega)), Tf1 := nf1 (n + 3) (by omega) (ne' (a := n + 3) (b := n) (by omega)), TIi2 := (ne' (a := n + 2) (b := n + 1) (by omega)), mem2 := m2, zf2 := nf2 (n + 4) (by omega) (ne' (a := n + 4) (b := n + 1) (by omega)), Tf2 := nf2 (n + 3) (by omega) (ne' (a := n + 3) (b := n + 1) (by omega)), sep1_2 := nf2 (n) (by omega) (ne' (a := n) (b := n + 1) (by omega)), sep2_1 := nf1 (n + 1) (by omega) (ne' (a := n + 1) (b := n) (by omega)) }
    refine wpAny_pyNext_zipD2_item S D1 D2 hz hTI hTO s1 s2 t1 t2 fun u1 u2 h' tk g1 g2 z' TO' w1 w2 hT hsz hk => ?_
    refine ⟨_, rfl, wpAny_letOwnedTupleGo_zip (s := { s with heap := h', toks := tk }) z' fun h'' z'' sb => ?_⟩
    obtain ⟨x1', e1, ru1⟩ := p1 i u1 g1
    rw [h1] at e1
    cases Option.some.inj e1
    obtain ⟨x2', e2, ru2⟩ := p2 i u2 g2
    rw [h2] at e2
    cases Option.some.inj e2
    have hT2 : h''.get? s.heap.objs.size = some { cls := .type "tuple", data := .seq #[u1, u2] } := (sb.2 _ (Nat.ne_of_gt hzl)).trans hT
    have new : ObjOk X.prog X.w (upd H s.heap.objs.size (.tup [x1, x2])) h'' s.heap.objs.size (.tup [x1, x2]) :=
      ⟨by show 2 ≤ sizeLine; decide, [u1, u2], .cons ru1 (.cons ru2 (.nil)), ⟨_, hT2, rfl, _, rfl⟩⟩
    have out5 : ∀ c, c ∉ [n + 4, n + 2, n + 3, n, n + 1] → c ≠ n + 4 ∧ c ≠ n + 3 ∧ c ≠ n ∧ c ≠ n + 1 := fun c hb => ⟨fun q' => hb (by simp [q']), fun q' => hb (by simp [q']), fun q' => hb (by simp [q']), fun q' => hb (by simp [q'])⟩
    have I1 : Inv X pins σ (upd H s.heap.objs.size (.tup [x1, x2])) { s with heap := h'', toks := tk } :=
      I.turnedNew (t' := tk) (ch := [n + 4, n + 2, n + 3, n, n + 1]) (fun c o hb q => by
        obtain ⟨a1, a2, b1', b2'⟩ := out5 c hb
        exact (sb.2 c a1).trans (hk c o a1 a2 b1' b2' q)) hf (Nat.le_refl _) new
    refine ⟨.ref s.heap.objs.size, _, I1, rfl, ⟨_, x1, x2, rfl, I.hok.fresh (Nat.le_refl _), rfl, fun l hl => by rw [ZS.inj I hl q1]; exact h1, fun l hl => by rw [ZS.inj I hl q2]; exact h2⟩, ⟨z'', ?_, ⟨u1, u2, ?_⟩, ?_, ?_⟩, fun c hcm => ?_⟩
    · exact (sb.2 (n + 2) (ne' (a := n + 2) (b := n + 4) (by omega))).trans (hk (n + 2) _ (ne' (a := n + 2) (b := n + 4) (by omega)) (ne' (a := n + 2) (b := n + 3) (by omega)) (ne' (a := n + 2) (b := n) (by omega)) (ne' (a := n + 2) (b := n + 1) (by omega)) hTI)
    · exact (sb.2 (n + 3) (ne' (a := n + 3) (b := n + 4) (by omega))).trans TO'
    · exact ZS.move (z := z1) (fun o q => (sb.2 (n) (ne' (a := n) (b := n + 4) (by omega))).trans q) (b1 _ _ w1)
    · exact ZS.move (z := z2) (fun o q => (sb.2 (n + 1) (ne' (a := n + 1) (b := n + 4) (by omega))).trans q) (b2 _ _ w2)
    · have hlt : c < s.heap.objs.size := by
        have e' : c = n + 4 ∨ c = n + 2 ∨ c = n + 3 ∨ c = n ∨ c = n + 1 := by simpa using hcm
        rcases e' with q | q | q | q | q
        · rw [q]; exact (show (n + 4 : Nat) < s.heap.objs.size by omega)
        · rw [q]; exact (show (n + 2 : Nat) < s.heap.objs.size by omega)
        · rw [q]; exact (show (n + 3 : Nat) < s.heap.objs.size by omega)
        · rw [q]; exact (show (n : Nat) < s.heap.objs.size by omega)
        · rw [q]; exact (show (n + 1 : Nat) < s.heap.objs.size by omega)
      rw [upd_ne (Nat.ne_of_lt hlt)]
      exact (hf c hcm).1
  done := by
    intro X hP hw hK hc i pins s σ H E I hf st hg
    subst hP hw hK
    obtain ⟨hz, hTI, ⟨y1, y2, hTO⟩, st1, st2⟩ := st
    obtain ⟨xs1, xs2, q1, q2, t1, t2, hend⟩ := hg
    have hh : X.A.in1.handled = none := I.ok.hd hc
    obtain ⟨fp1, P1, St1, D1, m1, f1, s1, b1, p1⟩ := z1.draws (A := X.A.in1) I q1 hh (ZS.off_of (by omega) l1) st1
    have nf1 : ∀ c, n ≤ c → c ≠ n → c ∉ fp1 := fun c h1 h2 h3 => by
      rcases f1 c h3 with e | e
      · exact h2 e
      · exact e (ZS.off_of h1 l1)
    obtain ⟨fp2, P2, St2, D2, m2, f2, s2, b2, p2⟩ := z2.draws (A := X.A.in1) I q2 hh (ZS.off_of (by omega) l2) st2
    have nf2 : ∀ c, n ≤ c → c ≠ n + 1 → c ∉ fp2 := fun c h1 h2 h3 => by
      rcases f2 c h3 with e | e
      · exact h2 e
      · exact e (ZS.off_of h1 l2)
    have S : ZipSep2 (n + 4) (n + 2) (n + 3) (n) (n + 1) fp1 fp2 := { TIz := (ne' (a := n + 2) (b := n + 4) (by omega)), TOz := (ne' (a := n + 3) (b := n + 4) (by omega)), TITO := (ne' (a := n + 2) (b := n + 3) (by omega)), TIi1 := (ne' (a := n + 2) (b := n) (by omega)), mem1 := m1, zf1 := nf1 (n + 4) (by omega) (ne' (a := n + 4) (b := n) (by omega)), Tf1 := nf1 (n + 3) (by omega) (ne' (a := n + 3) (b := n) (by omega)), TIi2 := (ne' (a := n + 2) (b := n + 1) (by omega)), mem2 := m2, zf2 := nf2 (n + 4) (by omega) (ne' (a := n + 4) (b := n + 1) (by omega)), Tf2 := nf2 (n + 3) (by omega) (ne' (a := n + 3) (b := n + 1) (by omega)), sep1_2 := nf2 (n) (by omega) (ne' (a := n) (b := n + 1) (by omega)), sep2_1 := nf1 (n + 1) (by omega) (ne' (a := n + 1) (b := n) (by omega)) }
    exact wpAny_pyNext_zipD2_end S D1 D2 hz hTI hTO s1 s2 t1 t2 hend fun h' tk hk => ⟨rfl, I.turnedL (t' := tk) (ch := [n + 4, n + 2, n + 3, n, n + 1]) (fun c o hb q =>
      hk c o (fun q' => hb (by simp [q'])) (fun q' => hb (by simp [q'])) (fun q' => hb (by simp [q'])) (fun q' => hb (by simp [q'])) q) hf⟩
  self := fun A i s Q E st h => wpAny_pyIter_zip st.1 h
def iZip2 (K : PySem.W.Frag) (ta : TA) : TI := fun σ H R => ta σ H fun vs H1 => ∃ (z1 z2 : ZS) (xs1 xs2 : List V), vs = [z1.val, z2.val] ∧ z1.at K H1 xs1 ∧ z2.at K H1 xs2 ∧ R (Itz2 K z1 z2) H1
theorem pi_zip2 {X : Cx} {e e2 : Expr} {ta : TA} {p pos tpos : Pos} {elts : List Expr} {kk : Nat} (hg : Gl X "zip") (hm : X.mg "zip" = none) (ha : PA X [e, e2] ta)
    (hs : starEach [e, e2] X.env = (false, eval e X.env) :: starEach [e2] X.env := by rfl) (hpl : (backTo pos (starEach [e2] X.env)).any (·.1) = false := by rfl) :
    PI X (.Tuple elts kk tpos) (.Call (.Name "zip" p) [e, e2] [] pos) (iZip2 X.K ta) := by
  refine ⟨fun pins s σ H R I h => ?_⟩
  refine Call_ (ld_blt I hg hm PyProof.Rows.boot_zip (PyProof.Rows.callWith_type1 (thn (ha.run pos pins s σ H _ I h) fun us s1 ⟨vs, H1, I1, r1, q1⟩ => ?_) hs hpl))
  obtain ⟨z1, z2, xs1, xs2, ex, q1, q2, q⟩ := q1
  subst ex
  cases r1 with
  | cons r1 rr =>
    cases rr with
    | cons r2 rr =>
      cases rr
      obtain ⟨o1, G1, B1, h1, i1, l1⟩ := z1.begins I1 q1 r1
      obtain ⟨o2, G2, B2, h2, i2, l2⟩ := z2.begins I1 q2 r2
      have fresh5 : ∀ c, c ∈ [s1.heap.objs.size + 4, s1.heap.objs.size + 2, s1.heap.objs.size + 3, s1.heap.objs.size, s1.heap.objs.size + 1] → FpOk X pins H1 c := fun c hcm => by
        have e' : c = s1.heap.objs.size + 4 ∨ c = s1.heap.objs.size + 2 ∨ c = s1.heap.objs.size + 3 ∨ c = s1.heap.objs.size ∨ c = s1.heap.objs.size + 1 := by simpa using hcm
        have hle : s1.heap.objs.size ≤ c := by omega
        exact I1.fpOk hle (I1.hok.fresh hle)
      refine zip_begins2 B1 B2 h1 h2 fun h' hz hTI hTO g1 g2 hsz hk => wpAny_pyIter_zip hz ?_
      have I2 : Inv X pins σ H1 { s1 with heap := h' } := I1.kept (t' := s1.toks) hk
      exact ⟨s1.heap.objs.size + 4, [s1.heap.objs.size + 4, s1.heap.objs.size + 2, s1.heap.objs.size + 3, s1.heap.objs.size, s1.heap.objs.size + 1], _, _, H1, rfl, I2, turn_zip2 l1 l2, ⟨hz, hTI, ⟨_, _, hTO⟩, i1 _ _ g1, i2 _ _ g2⟩, fresh5, q⟩
theorem for_zip2 {K : PySem.W.Frag} {z1 z2 : ZS} {xs1 xs2 : List V} {n : Nat} {g : TG} {tb : TS} {D : Ends} {σ : L2.St} {H : Hp} (n1 : xs1.length = n) (n2 : xs2.length = n) (Pv : Nat → L2.St → Hp → Prop) (h0 : Pv 0 σ H) (hl : ∀ i σ H, i ≤ n → Pv i σ H → z1.at K H xs1 ∧ z2.at K H xs2)
    (hs : ∀ (i : Nat) (x1 x2 : V) (T : Addr) (σ : L2.St) (H : Hp), xs1[i]? = some x1 → xs2[i]? = some x2 → H T = none → Pv i σ H → g (.ref T) σ (upd H T (.tup [x1, x2])) fun σ2 H2 => tb { D with nx := Pv (i + 1), ct := Pv (i + 1), bk := D.nx } σ2 H2) (hd : ∀ σ H, Pv n σ H → D.nx σ H) :
    ∃ W : Nat → Nat → L2.St → Hp → Prop, (∃ m, W 0 m σ H) ∧ ∀ i m σ H, W i m σ H →
      ((Itz2 K z1 z2).stop i H ∧ D.nx σ H) ∨ ((Itz2 K z1 z2).go i H ∧ ∃ N : L2.St → Hp → Prop, (∀ σ' H', N σ' H' → ∃ m', m' < m ∧ W (i + 1) m' σ' H') ∧ ∀ v H', (Itz2 K z1 z2).yld i H v H' → g v σ H' fun σ2 H2 => tb { D with nx := N, ct := N, bk := D.nx } σ2 H2) := by
  refine ⟨fun i m σ H => m = n - i ∧ i ≤ n ∧ Pv i σ H, ⟨n, rfl, Nat.zero_le _, h0⟩, ?_⟩
  rintro i m σ H ⟨rfl, hi, p⟩
  obtain ⟨q1, q2⟩ := hl i σ H hi p
  by_cases hlt : i < n
  · have e1 : xs1[i]? = some (xs1[i]'(by omega)) := List.getElem?_eq_getElem _
    have e2 : xs2[i]? = some (xs2[i]'(by omega)) := List.getElem?_eq_getElem _
    refine .inr ⟨⟨xs1, xs2, _, _, q1, q2, e1, e2⟩, Pv (i + 1), fun σ' H' p' => ⟨n - (i + 1), by omega, rfl, hlt, p'⟩, fun v H' y => ?_⟩
    obtain ⟨T, y1, y2, rfl, hT, rfl, f1, f2⟩ := y
    exact hs i y1 y2 T σ H (f1 xs1 q1) (f2 xs2 q2) hT p
  · have e : i = n := by omega
    subst e
    exact .inl ⟨⟨xs1, xs2, q1, q2, by omega, by omega, .inl (by omega)⟩, hd σ H p⟩
theorem lc_zip2 {K : PySem.W.Frag} {z1 z2 : ZS} {xs1 xs2 : List V} {n : Nat} {g : TG} {tt : TT} {te : TE} {vs : List Nat} {σ : L2.St} {H1 : Hp} {D : Addr} {Qd : Hp → Prop} (n1 : xs1.length = n) (n2 : xs2.length = n) (Pv : Nat → Hp → Prop) (h0 : Pv 0 (upd H1 D (.lst []))) (hl : ∀ i H, i ≤ n → Pv i H → z1.at K H xs1 ∧ z2.at K H xs2)
    (hs : ∀ (i : Nat) (x1 x2 : V) (T : Addr) (H : Hp), xs1[i]? = some x1 → xs2[i]? = some x2 → H T = none → Pv i H → g (.ref T) (wipe σ vs) (upd H T (.tup [x1, x2])) fun σ2 H2 => wipe σ2 vs = wipe σ vs ∧ tt σ2 H2 fun b H3 =>
      if b = true then te σ2 H3 fun y H4 => ∃ acc, H4 D = some (.lst acc) ∧ acc.length < sizeLine ∧ Pv (i + 1) (upd H4 D (.lst (acc ++ [y]))) else Pv (i + 1) H3) (hd : ∀ H, Pv n H → Qd H) :
    ∃ W : Nat → Nat → Hp → Prop, (∃ m, W 0 m (upd H1 D (.lst []))) ∧ ∀ i m H, W i m H →
      ((Itz2 K z1 z2).stop i H ∧ Qd H) ∨ ((Itz2 K z1 z2).go i H ∧ ∃ Nx : Hp → Prop, (∀ H', Nx H' → ∃ m', m' < m ∧ W (i + 1) m' H') ∧ ∀ x H', (Itz2 K z1 z2).yld i H x H' → g x (wipe σ vs) H' fun σ2 H2 => wipe σ2 vs = wipe σ vs ∧ tt σ2 H2 fun b H3 =>
        if b = true then te σ2 H3 fun y H4 => ∃ acc, H4 D = some (.lst acc) ∧ acc.length < sizeLine ∧ Nx (upd H4 D (.lst (acc ++ [y]))) else Nx H3) := by
  refine ⟨fun i m H => m = n - i ∧ i ≤ n ∧ Pv i H, ⟨n, by simp, Nat.zero_le _, h0⟩, ?_⟩
  rintro i m H ⟨rfl, hi, p⟩
  obtain ⟨q1, q2⟩ := hl i H hi p
  by_cases hlt : i < n
  · have e1 : xs1[i]? = some (xs1[i]'(by omega)) := List.getElem?_eq_getElem _
    have e2 : xs2[i]? = some (xs2[i]'(by omega)) := List.getElem?_eq_getElem _
    refine .inr ⟨⟨xs1, xs2, _, _, q1, q2, e1, e2⟩, Pv (i + 1), fun H' p' => ⟨n - (i + 1), by omega, rfl, hlt, p'⟩, fun v H' y => ?_⟩
    obtain ⟨T, y1, y2, rfl, hT, rfl, f1, f2⟩ := y
    exact hs i y1 y2 T H (f1 xs1 q1) (f2 xs2 q2) hT p
  · have e : i = n := by omega
    subst e
    exact .inl ⟨⟨xs1, xs2, q1, q2, by omega, by omega, .inl (by omega)⟩, hd H p⟩
theorem gx_zip2 {α : Type} {K : PySem.W.Frag} {z1 z2 : ZS} {xs1 xs2 : List V} {n : Nat} {g : TG} {tt : TT} {te : TE} {vs : List Nat} {σ0 : L2.St} {End : α → Hp → Prop} {Yd : α → V → Hp → (α → Hp → Prop) → Prop} {a0 : α} {H0 : Hp} (n1 : xs1.length = n) (n2 : xs2.length = n) (Pv : Nat → α → Hp → Prop) (h0 : Pv 0 a0 H0) (hl : ∀ i c H, i ≤ n → Pv i c H → z1.at K H xs1 ∧ z2.at K H xs2)
    (hs : ∀ (i : Nat) (x1 x2 : V) (T : Addr) (c : α) (H : Hp), xs1[i]? = some x1 → xs2[i]? = some x2 → H T = none → Pv i c H → g (.ref T) σ0 (upd H T (.tup [x1, x2])) fun σ2 H2 => wipe σ2 vs = σ0 ∧ tt σ2 H2 fun b H3 => if b = true then te σ2 H3 fun y H4 => Yd c y H4 (Pv (i + 1)) else Pv (i + 1) c H3) (hd : ∀ c H, Pv n c H → End c H) :
    ∃ W : Nat → Nat → α → Hp → Prop, (∃ m, W 0 m a0 H0) ∧ tGx (Itz2 K z1 z2) g tt te σ0 vs End Yd W := by
  refine ⟨fun i m c H => m = n - i ∧ i ≤ n ∧ Pv i c H, ⟨n, rfl, Nat.zero_le _, h0⟩, ?_⟩
  rintro i m c H ⟨rfl, hi, p⟩
  obtain ⟨q1, q2⟩ := hl i c H hi p
  by_cases hlt : i < n
  · have e1 : xs1[i]? = some (xs1[i]'(by omega)) := List.getElem?_eq_getElem _
    have e2 : xs2[i]? = some (xs2[i]'(by omega)) := List.getElem?_eq_getElem _
    refine .inr ⟨⟨xs1, xs2, _, _, q1, q2, e1, e2⟩, Pv (i + 1), fun c' H' p' => ⟨n - (i + 1), by omega, rfl, hlt, p'⟩, fun v H' y => ?_⟩
    obtain ⟨T, y1, y2, rfl, hT, rfl, f1, f2⟩ := y
    exact hs i y1 y2 T c H (f1 xs1 q1) (f2 xs2 q2) hT p
  · have e : i = n := by omega
    subst e
    exact .inl ⟨⟨xs1, xs2, q1, q2, by omega, by omega, .inl (by omega)⟩, hd c H p⟩
def Itz3 (K : PySem.W.Frag) (z1 z2 z3 : ZS) : It :=
  ⟨fun i H => ∃ (xs1 xs2 xs3 : List V) (x1 x2 x3 : V), z1.at K H xs1 ∧ z2.at K H xs2 ∧ z3.at K H xs3 ∧ xs1[i]? = some x1 ∧ xs2[i]? = some x2 ∧ xs3[i]? = some x3,
    fun i H v H' => ∃ T x1 x2 x3, v = .ref T ∧ H T = none ∧ H' = upd H T (.tup [x1, x2, x3]) ∧ (∀ xs, z1.at K H xs → xs[i]? = some x1) ∧ (∀ xs, z2.at K H xs → xs[i]? = some x2) ∧ (∀ xs, z3.at K H xs → xs[i]? = some x3),
    fun i H => ∃ xs1 xs2 xs3 : List V, z1.at K H xs1 ∧ z2.at K H xs2 ∧ z3.at K H xs3 ∧ i ≤ xs1.length ∧ i ≤ xs2.length ∧ i ≤ xs3.length ∧ (i = xs1.length ∨ i = xs2.length ∨ i = xs3.length)⟩
theorem turn_zip3 {P : Program} {w : World} {K : PySem.W.Frag} {elts : List Expr} {kk : Nat} {tpos : Pos} {z1 z2 z3 : ZS} {n : Nat} (l1 : z1.lt n) (l2 : z2.lt n) (l3 : z3.lt n) :
    Turn P w K (.Tuple elts kk tpos) (Itz3 K z1 z2 z3) [n + 5, n + 3, n + 4, n, n + 1, n + 2] (n + 5) (fun i h => IsZip h (n + 5) (n + 3) (n + 4) .none ∧ IsTupOf3 h (n + 3) (.ref (n)) (.ref (n + 1)) (.ref (n + 2)) ∧ (∃ x1 x2 x3, IsTupOf3 h (n + 4) x1 x2 x3) ∧ z1.it (n) i h ∧ z2.it (n + 1) i h ∧ z3.it (n + 2) i h) where
  mem := List.mem_cons_self
  obj := fun i h st c hc => by
    obtain ⟨hz, hTI, ⟨x1, x2, x3, hTO⟩, st1, st2, st3⟩ := st
    have e' : c = n + 5 ∨ c = n + 3 ∨ c = n + 4 ∨ c = n ∨ c = n + 1 ∨ c = n + 2 := by simpa using hc
    rcases e' with q | q | q | q | q | q
    · rw [q]; exact ⟨_, hz, fun v q => nomatch q⟩
    · rw [q]; exact ⟨_, hTI, fun v q => nomatch q⟩
    · rw [q]; exact ⟨_, hTO, fun v q => nomatch q⟩
    · rw [q]; exact ZS.obj (z := z1) st1
    · rw [q]; exact ZS.obj (z := z2) st2
    · rw [q]; exact ZS.obj (z := z3) st3
  keep := fun i h h' st k => by
    obtain ⟨hz, hTI, ⟨x1, x2, x3, hTO⟩, st1, st2, st3⟩ := st
    exact ⟨k _ (by simp) _ hz, k _ (by simp) _ hTI, ⟨x1, x2, x3, k _ (by simp) _ hTO⟩, ZS.move (z := z1) (fun o q => k _ (by simp) o q) st1, ZS.move (z := z2) (fun o q => k _ (by simp) o q) st2, ZS.move (z := z3) (fun o q => k _ (by simp) o q) st3⟩
  item := by
    intro X hP hw hK hc i pins s σ H E I hf st hg
    subst hP hw hK
    obtain ⟨hz, hTI, ⟨y1, y2, y3, hTO⟩, st1, st2, st3⟩ := st
    obtain ⟨xs1, xs2, xs3, x1, x2, x3, q1, q2, q3, h1, h2, h3⟩ := hg
    have hh : X.A.in1.handled = none := I.ok.hd hc
    obtain ⟨fp1, P1, St1, D1, m1, f1, s1, b1, p1⟩ := z1.draws (A := X.A.in1) I q1 hh (ZS.off_of (by omega) l1) st1
    have nf1 : ∀ c, n ≤ c → c ≠ n → c ∉ fp1 := fun c h1 h2 h3 => by
      rcases f1 c h3 with e | e
      · exact h2 e
      · exact e (ZS.off_of h1 l1)
    obtain ⟨fp2, P2, St2, D2, m2, f2, s2, b2, p2⟩ := z2.draws (A := X.A.in1) I q2 hh (ZS.off_of (by omega) l2) st2
    have nf2 : ∀ c, n ≤ c → c ≠ n + 1 → c ∉ fp2 := fun c h1 h2 h3 => by
      rcases f2 c h3 with e | e
      · exact h2 e
      · exact e (ZS.off_of h1 l2)
    obtain ⟨fp3, P3, St3, D3, m3, f3, s3, b3, p3⟩ := z3.draws (A := X.A.in1) I q3 hh (ZS.off_of (by omega) l3) st3
    have nf3 : ∀ c, n ≤ c → c ≠ n + 2 → c ∉ fp3 := fun c h1 h2 h3 => by
      rcases f3 c h3 with e | e
      · exact h2 e
      · exact e (ZS.off_of h1 l3)
    have t1 : i < xs1.length := (List.getElem?_eq_some_iff.mp h1).1
    have t2 : i < xs2.length := (List.getElem?_eq_some_iff.mp h2).1
    have t3 : i < xs3.length := (List.getElem?_eq_some_iff.mp h3).1
    have hzl : n + 5 < s.heap.objs.size := Heap.lt_size hz
    have S : ZipSep3 (n + 5) (n + 3) (n + 4) (n) (n + 1) (n + 2) fp1 fp2 fp3 := { TIz := (ne' (a := n + 3) (b := n + 5) (by omega)), TOz := (ne' (a := n + 4) (b := n + 5) (by omega)), TITO := (ne' (a := n + 3) (b := n + 4) (by omega)), TIi1 := (ne' (a := n + 3) (b := n) (by omega)), mem1 := m1, zf1 := nf1 (n + 5) (by omega) (ne' (a := n + 5) (b := n) (by omega)), Tf1 := nf1 (n + 4) (by omega) (ne' (a := n + 4) (b := n) (by omega)), TIi2 := (ne' (a := n + 3) (b := n + 1) (by omega)), mem2 := m2, zf2 := nf2 (n + 5) (by omega) (ne' (a := n + 5) (b := n + 1) (by omega)), Tf2 := nf2 (n + 4) (by omega) (ne' (a := n + 4) (b := n + 1) (by omega)), TIi3 := (ne' (a := n + 3) (b := n + 2) (by omega)), mem3 := m3, zf3 := nf3 (n + 5) (by omega) (ne' (a := n + 5) (b := n + 2) (by omega)), Tf3 := nf3 (n + 4) (by omega) (ne' (a := n + 4) (b := n + 2) (by omega)), sep1_2 := nf2 (n) (by omega) (ne' (a := n) (b := n + 1) (by omega)), sep1_3 := nf3 (n) (by omega) (ne' (a := n) (b := n + 2) (by omega)), sep2_1 := nf1 (n + 1) (by omega) (ne' (a := n + 1) (b := n) (by omega)), sep2_3 := nf3 (n + 1) (by omega) (ne' (a := n + 1) (b := n + 2) (by omega)), sep3_1 := nf1 (n + 2) (by omega) (ne' (a := n + 2) (b := n) (by omega)), sep3_2 := nf2 (n + 2) (by omega) (ne' (a := n + 2) (b := n + 1) (by omega)) }
    refine wpAny_pyNext_zipD3_item S D1 D2 D3 hz hTI hTO s1 s2 s3 t1 t2 t3 fun u1 u2 u3 h' tk g1 g2 g3 z' TO' w1 w2 w3 hT hsz hk => ?_
    refine ⟨_, rfl, wpAny_letOwnedTupleGo_zip (s := { s with heap := h', toks := tk }) z' fun h'' z'' sb => ?_⟩
    obtain ⟨x1', e1, ru1⟩ := p1 i u1 g1
    rw [h1] at e1
    cases Option.some.inj e1
    obtain ⟨x2', e2, ru2⟩ := p2 i u2 g2
    rw [h2] at e2
    cases Option.some.inj e2
    obtain ⟨x3', e3, ru3⟩ := p3 i u3 g3
    rw [h3] at e3
    cases Option.some.inj e3
    have hT2 : h''.get? s.heap.objs.size = some { cls := .type "tuple", data := .seq #[u1, u2, u3] } := (sb.2 _ (Nat.ne_of_gt hzl)).trans hT
    have new : ObjOk X.prog X.w (upd H s.heap.objs.size (.tup [x1, x2, x3])) h'' s.heap.objs.size (.tup [x1, x2, x3]) :=
      ⟨by show 3 ≤ sizeLine; decide, [u1, u2, u3], .cons ru1 (.cons ru2 (.cons ru3 (.nil))), ⟨_, hT2, rfl, _, rfl⟩⟩
    have out5 : ∀ c, c ∉ [n + 5, n + 3, n + 4, n, n + 1, n + 2] → c ≠ n + 5 ∧ c ≠ n + 4 ∧ c ≠ n ∧ c ≠ n + 1 ∧ c ≠ n + 2 := fun c hb => ⟨fun q' => hb (by simp [q']), fun q' => hb (by simp [q']), fun q' => hb (by simp [q']), fun q' => hb (by simp [q']), fun q' => hb (by simp [q'])⟩
    have I1 : Inv X pins σ (upd H s.heap.objs.size (.tup [x1, x2, x3])) { s with heap := h'', toks := tk } :=
      I.turnedNew (t' := tk) (ch := [n + 5, n + 3, n + 4, n, n + 1, n + 2]) (fun c o hb q => by
        obtain ⟨a1, a2, b1', b2', b3'⟩ := out5 c hb
        exact (sb.2 c a1).trans (hk c o a1 a2 b1' b2' b3' q)) hf (Nat.le_refl _) new
    refine ⟨.ref s.heap.objs.size, _, I1, rfl, ⟨_, x1, x2, x3, rfl, I.hok.fresh (Nat.le_refl _), rfl, fun l hl => by rw [ZS.inj I hl q1]; exact h1, fun l hl => by rw [ZS.inj I hl q2]; exact h2, fun l hl => by rw [ZS.inj I hl q3]; exact h3⟩, ⟨z'', ?_, ⟨u1, u2, u3, ?_⟩, ?_, ?_, ?_⟩, fun c hcm => ?_⟩
    · exact (sb.2 (n + 3) (ne' (a := n + 3) (b := n + 5) (by omega))).trans (hk (n + 3) _ (ne' (a := n + 3) (b := n + 5) (by omega)) (ne' (a := n + 3) (b := n + 4) (by omega)) (ne' (a := n + 3) (b := n) (by omega)) (ne' (a := n + 3) (b := n + 1) (by omega)) (ne' (a := n + 3) (b := n + 2) (by omega)) hTI)
    · exact (sb.2 (n + 4) (ne' (a := n + 4) (b := n + 5) (by omega))).trans TO'
    · exact ZS.move (z := z1) (fun o q => (sb.2 (n) (ne' (a := n) (b := n + 5) (by omega))).trans q) (b1 _ _ w1)
    · exact ZS.move (z := z2) (fun o q => (sb.2 (n + 1) (ne' (a := n + 1) (b := n + 5) (by omega))).trans q) (b2 _ _ w2)
    · exact ZS.move (z := z3) (fun o q => (sb.2 (n + 2) (ne' (a := n + 2) (b := n + 5) (by omega))).trans q) (b3 _ _ w3)
    · have hlt : c < s.heap.objs.size := by
        have e' : c = n + 5 ∨ c = n + 3 ∨ c = n + 4 ∨ c = n ∨ c = n + 1 ∨ c = n + 2 := by simpa using hcm
        rcases e' with q | q | q | q | q | q
        · rw [q]; exact (show (n + 5 : Nat) < s.heap.objs.size by omega)
        · rw [q]; exact (show (n + 3 : Nat) < s.heap.objs.size by omega)
        · rw [q]; exact (show (n + 4 : Nat) < s.heap.objs.size by omega)
        · rw [q]; exact (show (n : Nat) < s.heap.objs.size by omega)
        · rw [q]; exact (show (n + 1 : Nat) < s.heap.objs.size by omega)
        · rw [q]; exact (show (n + 2 : Nat) < s.heap.objs.size by omega)
      rw [upd_ne (Nat.ne_of_lt hlt)]
      exact (hf c hcm).1
  done := by
    intro X hP hw hK hc i pins s σ H E I hf st hg
    subst hP hw hK
    obtain ⟨hz, hTI, ⟨y1, y2, y3, hTO⟩, st1, st2, st3⟩ := st
    obtain ⟨xs1, xs2, xs3, q1, q2, q3, t1, t2, t3, hend⟩ := hg
    have hh : X.A.in1.handled = none := I.ok.hd hc
    obtain ⟨fp1, P1, St1, D1, m1, f1, s1, b1, p1⟩ := z1.draws (A := X.A.in1) I q1 hh (ZS.off_of (by omega) l1) st1
    have nf1 : ∀ c, n ≤ c → c ≠ n → c ∉ fp1 := fun c h1 h2 h3 => by
      rcases f1 c h3 with e | e
      · exact h2 e
      · exact e (ZS.off_of h1 l1)
    obtain ⟨fp2, P2, St2, D2, m2, f2, s2, b2, p2⟩ := z2.draws (A := X.A.in1) I q2 hh (ZS.off_of (by omega) l2) st2
    have nf2 : ∀ c, n ≤ c → c ≠ n + 1 → c ∉ fp2 := fun c h1 h2 h3 => by
      rcases f2 c h3 with e | e
      · exact h2 e
      · exact e (ZS.off_of h1 l2)
    obtain ⟨fp3, P3, St3, D3, m3, f3, s3, b3, p3⟩ := z3.draws (A := X.A.in1) I q3 hh (ZS.off_of (by omega) l3) st3
    have nf3 : ∀ c, n ≤ c → c ≠ n + 2 → c ∉ fp3 := fun c h1 h2 h3 => by
      rcases f3 c h3 with e | e
      · exact h2 e
      · exact e (ZS.off_of h1 l3)
    have S : ZipSep3 (n + 5) (n + 3) (n + 4) (n) (n + 1) (n + 2) fp1 fp2 fp3 := { TIz := (ne' (a := n + 3) (b := n + 5) (by omega)), TOz := (ne' (a := n + 4) (b := n + 5) (by omega)), TITO := (ne' (a := n + 3) (b := n + 4) (by omega)), TIi1 := (ne' (a := n + 3) (b := n) (by omega)), mem1 := m1, zf1 := nf1 (n + 5) (by omega) (ne' (a := n + 5) (b := n) (by omega)), Tf1 := nf1 (n + 4) (by omega) (ne' (a := n + 4) (b := n) (by omega)), TIi2 := (ne' (a := n + 3) (b := n + 1) (by omega)), mem2 := m2, zf2 := nf2 (n + 5) (by omega) (ne' (a := n + 5) (b := n + 1) (by omega)), Tf2 := nf2 (n + 4) (by omega) (ne' (a := n + 4) (b := n + 1) (by omega)), TIi3 := (ne' (a := n + 3) (b := n + 2) (by omega)), mem3 := m3, zf3 := nf3 (n + 5) (by omega) (ne' (a := n + 5) (b := n + 2) (by omega)), Tf3 := nf3 (n + 4) (by omega) (ne' (a := n + 4) (b := n + 2) (by omega)), sep1_2 := nf2 (n) (by omega) (ne' (a := n) (b := n + 1) (by omega)), sep1_3 := nf3 (n) (by omega) (ne' (a := n) (b := n + 2) (by omega)), sep2_1 := nf1 (n + 1) (by omega) (ne' (a := n + 1) (b := n) (by omega)), sep2_3 := nf3 (n + 1) (by omega) (ne' (a := n + 1) (b := n + 2) (by omega)), sep3_1 := nf1 (n + 2) (by omega) (ne' (a := n + 2) (b := n) (by omega)), sep3_2 := nf2 (n + 2) (by omega) (ne' (a := n + 2) (b := n + 1) (by omega)) }
    exact wpAny_pyNext_zipD3_end S D1 D2 D3 hz hTI hTO s1 s2 s3 t1 t2 t3 hend fun h' tk hk => ⟨rfl, I.turnedL (t' := tk) (ch := [n + 5, n + 3, n + 4, n, n + 1, n + 2]) (fun c o hb q =>
      hk c o (fun q' => hb (by simp [q'])) (fun q' => hb (by simp [q'])) (fun q' => hb (by simp [q'])) (fun q' => hb (by simp [q'])) (fun q' => hb (by simp [q'])) q) hf⟩
  self := fun A i s Q E st h => wpAny_pyIter_zip st.1 h
def iZip3 (K : PySem.W.Frag) (ta : TA) : TI := fun σ H R => ta σ H fun vs H1 => ∃ (z1 z2 z3 : ZS) (xs1 xs2 xs3 : List V), vs = [z1.val, z2.val, z3.val] ∧ z1.at K H1 xs1 ∧ z2.at K H1 xs2 ∧ z3.at K H1 xs3 ∧ R (Itz3 K z1 z2 z3) H1
theorem pi_zip3 {X : Cx} {e e2 e3 : Expr} {ta : TA} {p pos tpos : Pos} {elts : List Expr} {kk : Nat} (hg : Gl X "zip") (hm : X.mg "zip" = none) (ha : PA X [e, e2, e3] ta)
    (hs : starEach [e, e2, e3] X.env = (false, eval e X.env) :: starEach [e2, e3] X.env := by rfl) (hpl : (backTo pos (starEach [e2, e3] X.env)).any (·.1) = false := by rfl) :
    PI X (.Tuple elts kk tpos) (.Call (.Name "zip" p) [e, e2, e3] [] pos) (iZip3 X.K ta) := by
  refine ⟨fun pins s σ H R I h => ?_⟩
  refine Call_ (ld_blt I hg hm PyProof.Rows.boot_zip (PyProof.Rows.callWith_type1 (thn (ha.run pos pins s σ H _ I h) fun us s1 ⟨vs, H1, I1, r1, q1⟩ => ?_) hs hpl))
  obtain ⟨z1, z2, z3, xs1, xs2, xs3, ex, q1, q2, q3, q⟩ := q1
  subst ex
  cases r1 with
  | cons r1 rr =>
    cases rr with
    | cons r2 rr =>
      cases rr with
      | cons r3 rr =>
        cases rr
        obtain ⟨o1, G1, B1, h1, i1, l1⟩ := z1.begins I1 q1 r1
        obtain ⟨o2, G2, B2, h2, i2, l2⟩ := z2.begins I1 q2 r2
        obtain ⟨o3, G3, B3, h3, i3, l3⟩ := z3.begins I1 q3 r3
        have fresh5 : ∀ c, c ∈ [s1.heap.objs.size + 5, s1.heap.objs.size + 3, s1.heap.objs.size + 4, s1.heap.objs.size, s1.heap.objs.size + 1, s1.heap.objs.size + 2] → FpOk X pins H1 c := fun c hcm => by
          have e' : c = s1.heap.objs.size + 5 ∨ c = s1.heap.objs.size + 3 ∨ c = s1.heap.objs.size + 4 ∨ c = s1.heap.objs.size ∨ c = s1.heap.objs.size + 1 ∨ c = s1.heap.objs.size + 2 := by simpa using hcm
          have hle : s1.heap.objs.size ≤ c := by omega
          exact I1.fpOk hle (I1.hok.fresh hle)
        refine zip_begins3 B1 B2 B3 h1 h2 h3 fun h' hz hTI hTO g1 g2 g3 hsz hk => wpAny_pyIter_zip hz ?_
        have I2 : Inv X pins σ H1 { s1 with heap := h' } := I1.kept (t' := s1.toks) hk
        exact ⟨s1.heap.objs.size + 5, [s1.heap.objs.size + 5, s1.heap.objs.size + 3, s1.heap.objs.size + 4, s1.heap.objs.size, s1.heap.objs.size + 1, s1.heap.objs.size + 2], _, _, H1, rfl, I2, turn_zip3 l1 l2 l3, ⟨hz, hTI, ⟨_, _, _, hTO⟩, i1 _ _ g1, i2 _ _ g2, i3 _ _ g3⟩, fresh5, q⟩
theorem for_zip3 {K : PySem.W.Frag} {z1 z2 z3 : ZS} {xs1 xs2 xs3 : List V} {n : Nat} {g : TG} {tb : TS} {D : Ends} {σ : L2.St} {H : Hp} (n1 : xs1.length = n) (n2 : xs2.length = n) (n3 : xs3.length = n) (Pv : Nat → L2.St → Hp → Prop) (h0 : Pv 0 σ H) (hl : ∀ i σ H, i ≤ n → Pv i σ H → z1.at K H xs1 ∧ z2.at K H xs2 ∧ z3.at K H xs3)
    (hs : ∀ (i : Nat) (x1 x2 x3 : V) (T : Addr) (σ : L2.St) (H : Hp), xs1[i]? = some x1 → xs2[i]? = some x2 → xs3[i]? = some x3 → H T = none → Pv i σ H → g (.ref T) σ (upd H T (.tup [x1, x2, x3])) fun σ2 H2 => tb { D with nx := Pv (i + 1), ct := Pv (i + 1), bk := D.nx } σ2 H2) (hd : ∀ σ H, Pv n σ H → D.nx σ H) :
    ∃ W : Nat → Nat → L2.St → Hp → Prop, (∃ m, W 0 m σ H) ∧ ∀ i m σ H, W i m σ H →
      ((Itz3 K z1 z2 z3).stop i H ∧ D.nx σ H) ∨ ((Itz3 K z1 z2 z3).go i H ∧ ∃ N : L2.St → Hp → Prop, (∀ σ' H', N σ' H' → ∃ m', m' < m ∧ W (i + 1) m' σ' H') ∧ ∀ v H', (Itz3 K z1 z2 z3).yld i H v H' → g v σ H' fun σ2 H2 => tb { D with nx := N, ct := N, bk := D.nx } σ2 H2) := by
  refine ⟨fun i m σ H => m = n - i ∧ i ≤ n ∧ Pv i σ H, ⟨n, rfl, Nat.zero_le _, h0⟩, ?_⟩
  rintro i m σ H ⟨rfl, hi, p⟩
  obtain ⟨q1, q2, q3⟩ := hl i σ H hi p
  by_cases hlt : i < n
  · have e1 : xs1[i]? = some (xs1[i]'(by omega)) := List.getElem?_eq_getElem _
    have e2 : xs2[i]? = some (xs2[i]'(by omega)) := List.getElem?_eq_getElem _
    have e3 : xs3[i]? = some (xs3[i]'(by omega)) := List.getElem?_eq_getElem _
    refine .inr ⟨⟨xs1, xs2, xs3, _, _, _, q1, q2, q3, e1, e2, e3⟩, Pv (i + 1), fun σ' H' p' => ⟨n - (i + 1), by omega, rfl, hlt, p'⟩, fun v H' y => ?_⟩
    obtain ⟨T, y1, y2, y3, rfl, hT, rfl, f1, f2, f3⟩ := y
    exact hs i y1 y2 y3 T σ H (f1 xs1 q1) (f2 xs2 q2) (f3 xs3 q3) hT p
  · have e : i = n := by omega
    subst e
    exact .inl ⟨⟨xs1, xs2, xs3, q1, q2, q3, by omega, by omega, by omega, .inl (by omega)⟩, hd σ H p⟩
theorem lc_zip3 {K : PySem.W.Frag} {z1 z2 z3 : ZS} {xs1 xs2 xs3 : List V} {n : Nat} {g : TG} {tt : TT} {te : TE} {vs : List Nat} {σ : L2.St} {H1 : Hp} {D : Addr} {Qd : Hp → Prop} (n1 : xs1.length = n) (n2 : xs2.length = n) (n3 : xs3.length = n) (Pv : Nat → Hp → Prop) (h0 : Pv 0 (upd H1 D (.lst []))) (hl : ∀ i H, i ≤ n → Pv i H → z1.at K H xs1 ∧ z2.at K H xs2 ∧ z3.at K H xs3)
    (hs : ∀ (i : Nat) (x1 x2 x3 : V) (T : Addr) (H : Hp), xs1[i]? = some x1 → xs2[i]? = some x2 → xs3[i]? = some x3 → H T = none → Pv i H → g (.ref T) (wipe σ vs) (upd H T (.tup [x1, x2, x3])) fun σ2 H2 => wipe σ2 vs = wipe σ vs ∧ tt σ2 H2 fun b H3 =>
      if b = true then te σ2 H3 fun y H4 => ∃ acc, H4 D = some (.lst acc) ∧ acc.length < sizeLine ∧ Pv (i + 1) (upd H4 D (.lst (acc ++ [y]))) else Pv (i + 1) H3) (hd : ∀ H, Pv n H → Qd H) :
    ∃ W : Nat → Nat → Hp → Prop, (∃ m, W 0 m (upd H1 D (.lst []))) ∧ ∀ i m H, W i m H →
      ((Itz3 K z1 z2 z3).stop i H ∧ Qd H) ∨ ((Itz3 K z1 z2 z3).go i H ∧ ∃ Nx : Hp → Prop, (∀ H', Nx H' → ∃ m', m' < m ∧ W (i + 1) m' H') ∧ ∀ x H', (Itz3 K z1 z2 z3).yld i H x H' → g x (wipe σ vs) H' fun σ2 H2 => wipe σ2 vs = wipe σ vs ∧ tt σ2 H2 fun b H3 =>
        if b = true then te σ2 H3 fun y H4 => ∃ acc, H4 D = some (.lst acc) ∧ acc.length < sizeLine ∧ Nx (upd H4 D (.lst (acc ++ [y]))) else Nx H3) := by
  refine ⟨fun i m H => m = n - i ∧ i ≤ n ∧ Pv i H, ⟨n, by simp, Nat.zero_le _, h0⟩, ?_⟩
  rintro i m H ⟨rfl, hi, p⟩
  obtain ⟨q1, q2, q3⟩ := hl i H hi p
  by_cases hlt : i < n
  · have e1 : xs1[i]? = some (xs1[i]'(by omega)) := List.getElem?_eq_getElem _
    have e2 : xs2[i]? = some (xs2[i]'(by omega)) := List.getElem?_eq_getElem _
    have e3 : xs3[i]? = some (xs3[i]'(by omega)) := List.getElem?_eq_getElem _
    refine .inr ⟨⟨xs1, xs2, xs3, _, _, _, q1, q2, q3, e1, e2, e3⟩, Pv (i + 1), fun H' p' => ⟨n - (i + 1), by omega, rfl, hlt, p'⟩, fun v H' y => ?_⟩
    obtain ⟨T, y1, y2, y3, rfl, hT, rfl, f1, f2, f3⟩ := y
    exact hs i y1 y2 y3 T H (f1 xs1 q1) (f2 xs2 q2) (f3 xs3 q3) hT p
  · have e : i = n := by omega
    subst e
    exact .inl ⟨⟨xs1, xs2, xs3, q1, q2, q3, by omega, by omega, by omega, .inl (by omega)⟩, hd H p⟩
theorem gx_zip3 {α : Type} {K : PySem.W.Frag} {z1 z2 z3 : ZS} {xs1 xs2 xs3 : List V} {n : Nat} {g : TG} {tt : TT} {te : TE} {vs : List Nat} {σ0 : L2.St} {End : α → Hp → Prop} {Yd : α → V → Hp → (α → Hp → Prop) → Prop} {a0 : α} {H0 : Hp} (n1 : xs1.length = n) (n2 : xs2.length = n) (n3 : xs3.length = n) (Pv : Nat → α → Hp → Prop) (h0 : Pv 0 a0 H0) (hl : ∀ i c H, i ≤ n → Pv i c H → z1.at K H xs1 ∧ z2.at K H xs2 ∧ z3.at K H xs3)
    (hs : ∀ (i : Nat) (x1 x2 x3 : V) (T : Addr) (c : α) (H : Hp), xs1[i]? = some x1 → xs2[i]? = some x2 → xs3[i]? = some x3 → H T = none → Pv i c H → g (.ref T) σ0 (upd H T (.tup [x1, x2, x3])) fun σ2 H2 => wipe σ2 vs = σ0 ∧ tt σ2 H2 fun b H3 => if b = true then te σ2 H3 fun y H4 => Yd c y H4 (Pv (i + 1)) else Pv (i + 1) c H3) (hd : ∀ c H, Pv n c H → End c H) :
    ∃ W : Nat → Nat → α → Hp → Prop, (∃ m, W 0 m a0 H0) ∧ tGx (Itz3 K z1 z2 z3) g tt te σ0 vs End Yd W := by
  refine ⟨fun i m c H => m = n - i ∧ i ≤ n ∧ Pv i c H, ⟨n, rfl, Nat.zero_le _, h0⟩, ?_⟩
  rintro i m c H ⟨rfl, hi, p⟩
  obtain ⟨q1, q2, q3⟩ := hl i c H hi p
  by_cases hlt : i < n
  · have e1 : xs1[i]? = some (xs1[i]'(by omega)) := List.getElem?_eq_getElem _
    have e2 : xs2[i]? = some (xs2[i]'(by omega)) := List.getElem?_eq_getElem _
    have e3 : xs3[i]? = some (xs3[i]'(by omega)) := List.getElem?_eq_getElem _
    refine .inr ⟨⟨xs1, xs2, xs3, _, _, _, q1, q2, q3, e1, e2, e3⟩, Pv (i + 1), fun c' H' p' => ⟨n - (i + 1), by omega, rfl, hlt, p'⟩, fun v H' y => ?_⟩
    obtain ⟨T, y1, y2, y3, rfl, hT, rfl, f1, f2, f3⟩ := y
    exact hs i y1 y2 y3 T c H (f1 xs1 q1) (f2 xs2 q2) (f3 xs3 q3) hT p
  · have e : i = n := by omega
    subst e
    exact .inl ⟨⟨xs1, xs2, xs3, q1, q2, q3, by omega, by omega, by omega, .inl (by omega)⟩, hd c H p⟩
end ZpG

end
end Gk

set_option Elab.async false
set_option linter.all false
set_option maxRecDepth 100000
set_option maxHeartbeats 1000000
set_option pp.maxSteps 1500
set_option pp.deepTerms false
namespace Gk
open PySem PySem.Spec PyProof.Rows L2
section
variable {P : Program} {w : World} {K : PySem.W.Frag} {mg : Str → Option Value} {base : Heap}
/-! ### is_wave of anything -/
def timeD : PyData → Bool
  | .int i => decide (0 ≤ i)
  | _ => false
def ltD : PyData → PyData → Bool
  | .int i, .int j => decide (i < j)
  | _, _ => false
def risesD (ts : List PyData) : Bool := (ts.zip (ts.drop 1)).all fun z => ltD z.1 z.2
def waveParts (a b : PyData) : Bool :=
  match b with
  | .tuple ts => worthD a && (ts.all timeD && risesD ts)
  | _ => false
def isWaveD : PyData → Bool
  | .tuple ds => (match ds with
    | [a, b] => waveParts a b
    | _ => false)
  | _ => false
theorem wave_not : ∀ {d : PyData}, ¬ isTupD d = true → isWaveD d = false
  | .tuple _, h => absurd rfl h
  | .bool _, _ => rfl
  | .none, _ => rfl
  | .str _, _ => rfl
  | .list _, _ => rfl
  | .int _, _ => rfl
  | .dict _, _ => rfl
theorem wave_len : ∀ {ds : List PyData}, ¬ ds.length = 2 → isWaveD (.tuple ds) = false
  | [], _ => rfl
  | [_], _ => rfl
  | [_, _], h => absurd rfl h
  | _ :: _ :: _ :: _, _ => rfl
theorem wave_worth {a : PyData} (h : ¬ worthD a = true) : ∀ b : PyData, waveParts a b = false
  | .tuple ts => by
    show (worthD a && _) = false
    rw [Bool.eq_false_iff.mpr h]; rfl
  | .bool _ => rfl
  | .none => rfl
  | .str _ => rfl
  | .list _ => rfl
  | .int _ => rfl
  | .dict _ => rfl
theorem wave_tup (a : PyData) : ∀ {b : PyData}, ¬ isTupD b = true → waveParts a b = false
  | .tuple _, h => absurd rfl h
  | .bool _, _ => rfl
  | .none, _ => rfl
  | .str _, _ => rfl
  | .list _, _ => rfl
  | .int _, _ => rfl
  | .dict _, _ => rfl
theorem gx_zip2u {α : Type} {K : PySem.W.Frag} {z1 z2 : ZpG.ZS} {xs1 xs2 : List V} {n : Nat} {g : TG} {tt : TT} {te : TE} {vs : List Nat} {σ0 : L2.St} {End : α → Hp → Prop} {Yd : α → V → Hp → (α → Hp → Prop) → Prop} {a0 : α} {H0 : Hp} (n1 : n ≤ xs1.length) (n2 : n ≤ xs2.length) (nn : n = xs1.length ∨ n = xs2.length) (Pv : Nat → α → Hp → Prop) (h0 : Pv 0 a0 H0) (hl : ∀ i c H, i ≤ n → Pv i c H → z1.at K H xs1 ∧ z2.at K H xs2)
    (hs : ∀ (i : Nat) (x1 x2 : V) (T : Addr) (c : α) (H : Hp), xs1[i]? = some x1 → xs2[i]? = some x2 → H T = none → Pv i c H → g (.ref T) σ0 (upd H T (.tup [x1, x2])) fun σ2 H2 => wipe σ2 vs = σ0 ∧ tt σ2 H2 fun b H3 => if b = true then te σ2 H3 fun y H4 => Yd c y H4 (Pv (i + 1)) else Pv (i + 1) c H3) (hd : ∀ c H, Pv n c H → End c H) :
    ∃ W : Nat → Nat → α → Hp → Prop, (∃ m, W 0 m a0 H0) ∧ tGx (ZpG.Itz2 K z1 z2) g tt te σ0 vs End Yd W := by
  refine ⟨fun i m c H => m = n - i ∧ i ≤ n ∧ Pv i c H, ⟨n, rfl, Nat.zero_le _, h0⟩, ?_⟩
  rintro i m c H ⟨rfl, hi, p⟩
  obtain ⟨q1, q2⟩ := hl i c H hi p
  by_cases hlt : i < n
  · have e1 : xs1[i]? = some (xs1[i]'(by omega)) := List.getElem?_eq_getElem _
    have e2 : xs2[i]? = some (xs2[i]'(by omega)) := List.getElem?_eq_getElem _
    refine .inr ⟨⟨xs1, xs2, _, _, q1, q2, e1, e2⟩, Pv (i + 1), fun c' H' p' => ⟨n - (i + 1), by omega, rfl, hlt, p'⟩, fun v H' y => ?_⟩
    obtain ⟨T, y1, y2, rfl, hT, rfl, f1, f2⟩ := y
    exact hs i y1 y2 T c H (f1 xs1 q1) (f2 xs2 q2) hT p
  · have e : i = n := by omega
    subst e
    exact .inl ⟨⟨xs1, xs2, q1, q2, n1, n2, nn⟩, hd c H p⟩
/-! ### all of a list, stopped early -/
theorem len_eqI {n : Nat} {m : Int} : decide (V.int (n : Int) = V.int m) = decide ((n : Int) = m) := by
  by_cases h : (n : Int) = m
  · rw [decide_eq_true h, decide_eq_true (by rw [h])]
  · rw [decide_eq_false h, decide_eq_false fun z => h (V.int.inj z)]
theorem all_stop {α : Type} {f : α → Bool} {l : List α} {j : Nat} {x : α} (h : l[j]? = some x) (n : ¬ f x = true) : l.all f = false := by
  cases e : l.all f with
  | false => rfl
  | true => exact absurd (List.all_eq_true.mp e x (List.mem_of_getElem? h)) n
theorem all_take {α : Type} {f : α → Bool} {l : List α} {j : Nat} {x : α} (h : l[j]? = some x) (p : (l.take j).all f = true) (hx : f x = true) : (l.take (j + 1)).all f = true := by
  rw [List.take_add_one, h, List.all_append, p, Bool.true_and]
  show (f x && true) = true
  rw [hx]
  rfl

/-! ### delays, of anything -/
def gateDelD (many : Nat) : PyData → Bool
  | .tuple ds => decide (ds.length = many) && ds.all timeD
  | _ => false
def delaysD (gs : List Gt) : PyData → Bool
  | .tuple ds => decide (ds.length = gs.length) && (gs.zip ds).all fun z => gateDelD z.1.2.length z.2
  | _ => false
theorem gateDel_not {m : Nat} : ∀ {d : PyData}, ¬ isTupD d = true → gateDelD m d = false
  | .tuple _, h => absurd rfl h
  | .bool _, _ => rfl
  | .none, _ => rfl
  | .str _, _ => rfl
  | .list _, _ => rfl
  | .int _, _ => rfl
  | .dict _, _ => rfl
theorem delays_not {gs : List Gt} : ∀ {d : PyData}, ¬ isTupD d = true → delaysD gs d = false
  | .tuple _, h => absurd rfl h
  | .bool _, _ => rfl
  | .none, _ => rfl
  | .str _, _ => rfl
  | .list _, _ => rfl
  | .int _, _ => rfl
  | .dict _, _ => rfl
def sp_is_gate_delays (T : Tx K mg) : Sp := fun vs H Q _ => ∃ (m : Nat) (v : V) (d : PyData), vs = [.int m, v] ∧ Sh H v d ∧ GxR.TabG H T.P_is_gate_delays ∧ ∀ H', Gr H H' → Q (.bl (gateDelD m d)) H'
theorem ok_is_gate_delays (T : Tx K mg) (B : Tb base T) : FnOk P w K mg base CX0 3 T.f_is_gate_delays T.fd_is_gate_delays ["many", "thing"] (sp_is_gate_delays T) := by
  refine okC T.F_is_gate_delays sc_is_gate_delays (fun vs H Q E h => ?_) (fun A outer s H vs Q E hr h => ?_)
  · obtain ⟨m, v, d, rfl, _⟩ := h
    rfl
  · obtain ⟨m, v, d, rfl, sh, tab, q⟩ := h
    refine ⟨_, (pss_cons (ps_if (pw_or (pt_not (pt_val (pe_callB call_isi (by rfl) T.m_isinstance (by decide +kernel) (pa_cons (pv 1) (pa_cons (pe_bltn (v := .ty "tuple") (u := .type "tuple") (by rfl) T.m_tuple (by decide +kernel) rfl) pa_nil))))) (pw_or1 (pt_cmpR op_ne (pe_callB call_len_seq (by rfl) T.m_len PySem.boot_len (pa_cons (pv 1) pa_nil)) (pv 0) (nomark _)))).pt (pss_one (ps_ret pe_bl)) pss_nil) (pss_one (ps_ret (pe_allX (own := [("delay", 2)]) (k := 1) (hr.mono (by decide)) rfl sc_is_gate_delays.nd (by rfl) T.m_all (by decide +kernel) B.TB_is_gate_delays T.cd_is_gate_delays rfl rfl (by decide +kernel) (blkOk_by (own := [("delay", 2)]) (N := ["many", "thing", "delay"]) (sc := defScope s_is_gate_delays) (by decide +kernel)) (pi_tup (pv 1)) (fun _ _ _ _ _ _ _ hr gd => (pg_name (i := 2) sc_is_gate_delays.nd rfl (by first | exact .inl rfl | exact .inr rfl))) (fun _ _ _ _ _ _ _ hr gd => pts_nil) (fun _ _ _ _ _ _ _ hr gd => (pe_and (pe_call (ok_is_whole T) (hr.mono (by decide)) (by rfl) T.g_is_whole T.F_is_whole.kp T.b_is_whole .nil pass0 (pa_cons (pv 2) pa_nil)) (pe_one (pe_cmpR op_ge (pv 2) pe_int (nomark _))))) (fun _ => rfl))))), ?_⟩
    refine ⟨v, rfl, _, _, _, _, _, rfl, .ty _, sh.ty, kit_ty (kitTup d), _, rfl, ite2 (fun e => ?_) (fun e => ?_)⟩
    · have q' := q H Gr.refl
      rw [gateDel_not (notT e)] at q'
      exact q'
    obtain ⟨ds, rfl⟩ := tup_of (notF e)
    cases sh with
    | @tup a xs _ h tx =>
      have lx := tx.length
      refine ⟨.ref a, rfl, a, xs, rfl, .inr (SqT.of h), .int (m : Nat), rfl, rfl, _, rfl, ?_⟩
      rw [len_eqI, lx]
      refine ite2 (fun e1 => ?_) (fun e1 => ?_)
      · have nn : ¬ ds.length = m := fun z => by rw [z] at e1; simp at e1
        have q' := q H Gr.refl
        have : gateDelD m (.tuple ds) = false := by
          show (decide (ds.length = m) && _) = false
          rw [decide_eq_false nn, Bool.false_and]
        rw [this] at q'
        exact q'
      have l2 : ds.length = m := by
        have := of_decide_eq_true (notF e1)
        omega
      have val : gateDelD m (.tuple ds) = ds.all timeD := by
        show (decide (ds.length = m) && _) = _
        rw [decide_eq_true l2, Bool.true_and]
      rw [val] at q
      refine ⟨.ref a, rfl, a, rfl, ⟨_, SqT.of h⟩, tab, fun H2 tb2 => ?_⟩
      have g2 := Gr.tab tab tb2
      refine gx_tup (K := K) (a := a) (xs := xs) (fun j _ H' => Gr H H' ∧ (ds.take j).all timeD = true) ⟨g2, rfl⟩ (fun j _ H' _ e => SqT.of (e.1.tup h)) ?_ ?_
      · rintro j x _ H' hx ⟨g3, p⟩
        obtain ⟨e0, he0, te0⟩ := tx.get hx
        have no : ¬ timeD e0 = true → Q (.bl false) H' := fun z => by
          have q' := q H' g3
          rw [all_stop he0 z] at q'
          exact q'
        refine ⟨rfl, x, rfl, x, e0, rfl, te0.gr g3, _, rfl, ite2 (fun z => ?_) (fun z => ?_)⟩
        · obtain ⟨i, rfl⟩ := whole_int z
          cases te0
          refine ⟨.int i, rfl, _, _, rfl, rfl, _, rfl, ite2 (fun z2 => ⟨g3, all_take he0 p z2⟩) (fun z2 => no z2)⟩
        · exact ⟨false, rfl, iteF (no fun k => z (by cases e0 <;> first | rfl | cases k))⟩
      · rintro _ H' ⟨g3, p⟩
        have q' := q H' g3
        rw [lx, List.take_length] at p
        rw [p] at q'
        exact q'
def sp_is_delays (T : Tx K mg) : Sp := fun vs H Q _ => ∃ (m : Nat) (gs : List Gt) (n v : V) (d : PyData), vs = [n, v] ∧ Tk H n (netD m gs) ∧ Sh H v d ∧ GxR.TabG H T.P_is_delays ∧ GxR.TabG H T.P_is_gate_delays ∧ ∀ H', Gr H H' → Q (.bl (delaysD gs d)) H'
theorem ok_is_delays (T : Tx K mg) (B : Tb base T) : FnOk P w K mg base CX0 5 T.f_is_delays T.fd_is_delays ["net", "thing"] (sp_is_delays T) := by
  refine okC T.F_is_delays sc_is_delays (fun vs H Q E h => ?_) (fun A outer s H vs Q E hr h => ?_)
  · obtain ⟨m, gs, n, v, d, rfl, _⟩ := h
    rfl
  · obtain ⟨m, gs, n, v, d, rfl, tn, sh, tab, tab2, q⟩ := h
    refine ⟨_, (pss_cons (ps_set (i := 2) sc_is_delays.nd rfl (by first | exact .inl rfl | exact .inr rfl) (pe_ix ix_tup (pv 0) pe_int (fun _ _ => rfl))) (pss_cons (ps_if (pw_or (pt_not (pt_val (pe_callB call_isi (by rfl) T.m_isinstance (by decide +kernel) (pa_cons (pv 1) (pa_cons (pe_bltn (v := .ty "tuple") (u := .type "tuple") (by rfl) T.m_tuple (by decide +kernel) rfl) pa_nil))))) (pw_or1 (pt_cmpR op_ne (pe_callB call_len_seq (by rfl) T.m_len PySem.boot_len (pa_cons (pv 1) pa_nil)) (pe_callB call_len_seq (by rfl) T.m_len PySem.boot_len (pa_cons (pv 2) pa_nil)) (nomark _)))).pt (pss_one (ps_ret pe_bl)) pss_nil) (pss_one (ps_ret (pe_allX (own := [("part", 3), ("table", 4), ("ins", 5)]) (k := 3) (hr.mono (by decide)) rfl sc_is_delays.nd (by rfl) T.m_all (by decide +kernel) B.TB_is_delays T.cd_is_delays rfl rfl (by decide +kernel) (blkOk_by (own := [("part", 3), ("table", 4), ("ins", 5)]) (N := ["net", "thing", "gates", "part", "table", "ins"]) (sc := defScope s_is_delays) (by decide +kernel)) (ZpG.pi_zip2 (by rfl) T.m_zip (pa_cons (pv 2) (pa_cons (pv 1) pa_nil))) (fun _ _ _ _ _ _ _ hr gd => (show PG _ _ (gTup K 2 _) from pg_tup rfl (pgs_cons (show PG _ _ (gTup K 2 _) from pg_tup rfl (pgs_cons (pg_name (i := 4) sc_is_delays.nd rfl (by first | exact .inl rfl | exact .inr rfl)) (pgs_cons (pg_name (i := 5) sc_is_delays.nd rfl (by first | exact .inl rfl | exact .inr rfl)) pgs_nil))) (pgs_cons (pg_name (i := 3) sc_is_delays.nd rfl (by first | exact .inl rfl | exact .inr rfl)) pgs_nil)))) (fun _ _ _ _ _ _ _ hr gd => pts_nil) (fun _ _ _ _ _ _ _ hr gd => (pe_call (ok_is_gate_delays T B) (hr.mono (by decide)) (by rfl) T.g_is_gate_delays T.F_is_gate_delays.kp T.b_is_gate_delays .nil pass0 (pa_cons (pe_callB (show CallR _ _ (rLenK K) from call_len_seq) (by rfl) T.m_len PySem.boot_len (pa_cons (pv 5) pa_nil)) (pa_cons (pv 3) pa_nil)))) (fun _ => rfl)))))), ?_⟩
    obtain ⟨na, ga, gx, rfl, hn, hg, tgx⟩ := tn.net_inv
    have lg : gx.length = gs.length := by rw [tgx.length, List.length_map]
    refine ⟨.ref na, rfl, na, _, 1, .ref ga, rfl, rfl, SqT.of hn, rfl, ?_⟩
    refine ⟨v, rfl, _, _, _, _, _, rfl, .ty _, sh.ty, kit_ty (kitTup d), _, rfl, ite2 (fun e => ?_) (fun e => ?_)⟩
    · have q' := q H Gr.refl
      rw [delays_not (notT e)] at q'
      exact q'
    obtain ⟨ds, rfl⟩ := tup_of (notF e)
    cases sh with
    | @tup a xs _ h tx =>
      have lx := tx.length
      refine ⟨.ref a, rfl, a, xs, rfl, .inr (SqT.of h), .ref ga, rfl, ga, _, rfl, .inr (SqT.of hg), rfl, _, rfl, ?_⟩
      rw [len_eqI, lx, lg]
      refine ite2 (fun e1 => ?_) (fun e1 => ?_)
      · have nn : ¬ ds.length = gs.length := fun z => by rw [z] at e1; simp at e1
        have q' := q H Gr.refl
        have : delaysD gs (.tuple ds) = false := by
          show (decide (ds.length = gs.length) && _) = false
          rw [decide_eq_false nn, Bool.false_and]
        rw [this] at q'
        exact q'
      have l2 : ds.length = gs.length := by
        have := of_decide_eq_true (notF e1)
        omega
      have val : delaysD gs (.tuple ds) = (gs.zip ds).all fun z => gateDelD z.1.2.length z.2 := by
        show (decide (ds.length = gs.length) && _) = _
        rw [decide_eq_true l2, Bool.true_and]
      rw [val] at q
      refine ⟨.ref ga, rfl, .ref a, rfl, .tu ga, .tu a, _, _, rfl, SqT.of hg, SqT.of h, tab, fun H2 tb2 => ?_⟩
      have g2 := Gr.tab tab tb2
      refine ZpG.gx_zip2 (K := K) (n := gs.length) (xs1 := gx) (xs2 := xs) lg (by rw [lx, l2]) (fun j _ H' => Gr H H' ∧ ((gs.zip ds).take j).all (fun z => gateDelD z.1.2.length z.2) = true) ⟨g2, rfl⟩ (fun j _ H' _ e => ⟨SqT.of (e.1.tup hg), SqT.of (e.1.tup h)⟩) ?_ ?_
      · rintro j x y T' _ H6 hx hy nt ⟨g6, ih⟩
        obtain ⟨g, hgj, tgt⟩ := tgx.at hx
        obtain ⟨e0, he0, te0⟩ := tx.get hy
        obtain ⟨wa, wi, rfl, hw, hwi⟩ := tgt.gt_inv
        have g7 := g6.trans (Gr.none (o := .tup [.ref wa, y]) nt)
        have te7 := te0.gr g7
        have hz : (gs.zip ds)[j]? = some (g, e0) := by
          rw [List.getElem?_zip_eq_some]
          exact ⟨hgj, he0⟩
        refine ⟨T', _, rfl, SqT.of upd_same, rfl, _, _, rfl, wa, _, rfl, SqT.of (g7.tup hw), rfl, _, _, rfl, _, _, rfl, rfl, _, _, rfl, rfl, rfl, ?_⟩
        refine ⟨.ref wi, rfl, wi, _, rfl, .inr (SqT.of (g7.tup hwi)), y, rfl, ?_⟩
        rw [List.length_map, List.length_map]
        refine ⟨g.2.length, y, e0, rfl, te7, g7.2 _ tab2, fun H8 g8 => ?_⟩
        have g78 := g7.trans g8
        refine ⟨_, rfl, ite2 (fun z => ⟨g78, all_take hz ih z⟩) (fun z => ?_)⟩
        have q' := q H8 g78
        rw [all_stop hz z] at q'
        exact q'
      · rintro _ H6 ⟨g6, ih⟩
        have q' := q H6 g6
        rw [List.take_of_length_le (by rw [List.length_zip]; omega)] at ih
        rw [ih] at q'
        exact q'

end
end Gk

set_option Elab.async false
set_option linter.all false
set_option maxRecDepth 100000
set_option maxHeartbeats 1000000
set_option pp.maxSteps 1500
set_option pp.deepTerms false
namespace Gk
open PySem PySem.Spec PyProof.Rows L2
section
variable {P : Program} {w : World} {K : PySem.W.Frag} {mg : Str → Option Value} {base : Heap}
def rRepS : V → V → Hp → VK → Prop := fun x y H Q => ∃ (z : Str) (n : Int), x = .str z ∧ y = .int n ∧ z.length ≤ 16 ∧ 0 ≤ n ∧ n ≤ 1048576 ∧ Q (.str (Txt.mul z n)) H
theorem op_repS {X : Cx} : OpR X (binaryOp .Mult) rRepS := by
  intro pins s σ H x y v u Q I rx ry h
  obtain ⟨i, j, rfl, rfl, h1, h2, h3, q⟩ := h
  obtain ⟨t, rfl⟩ := rx
  obtain ⟨t', rfl⟩ := ry
  exact SB.mul (mulOk_of 16 1048576 h1 h3 (by omega) (by decide) (by decide)) fun t' tk => ⟨.str _, H, I.tok _, ⟨_, rfl⟩, q⟩

/-! ### what a draw keeps -/
theorem Ts.frF {H H' : Hp} {d l : Addr} {n : Int} (D : DeckF H d l n) (f : Fr d l H H') : Ts H H' := fun b xs e => by
  obtain ⟨ne, cs, z, y, hd, hl, r⟩ := D
  exact f b _ (ne_of e hd (by intro z; cases z)) (ne_of e hl (by intro z; cases z)) e
theorem tab_frF {H H' : Hp} {d l P : Addr} {n : Int} (D : DeckF H d l n) (f : Fr d l H H') (t : GxR.TabG H P) : GxR.TabG H' P := by
  obtain ⟨ps, e, tr⟩ := t
  obtain ⟨ne, cs, z, y, hd, hl, r⟩ := D
  exact ⟨ps, f _ _ (ne_of e hd (by intro z; cases z)) (ne_of e hl (by intro z; cases z)) e, tr⟩
theorem none_of_frF {d l p : Addr} {H H' : Hp} {n : Int} (f : Fr d l H H') (D : DeckF H' d l n) (h : H' p = none) : H p = none := by
  have o := D.off h
  cases z : H p with
  | none => rfl
  | some u => rw [f _ _ o.1 o.2 z] at h; cases h

/-! ### drawn tables (k07, k09 to k13) -/
def sg (b : Bool) : Str := SX.S [if b = true then 49 else 48]
theorem joinL_nil : ∀ l : List (List Nat), TL.joinL [] l = l.flatten
  | [] => rfl
  | [p] => by simp [TL.joinL]
  | p :: q :: r => by
    show p ++ ([] ++ TL.joinL [] (q :: r)) = _
    rw [joinL_nil (q :: r)]
    rfl
theorem join_sg (bs : List Bool) : Txt.join (Str.ofString "") (bs.map sg) = tabOf bs := by
  have e : bs.map sg = (bs.map fun b => [if b = true then 49 else 48]).map SX.S := by rw [List.map_map]; rfl
  have z : Str.ofString "" = SX.S [] := by decide +kernel
  rw [e, z, SX.join_S, joinL_nil]
  have : (bs.map fun b => [if b = true then 49 else 48]).flatten = bs.map fun b => if b = true then 49 else 48 := by
    clear e z
    induction bs with
    | nil => rfl
    | cons b r ih => rw [List.map_cons, List.flatten_cons, ih]; rfl
  rw [this]
  rfl
theorem zo_S : Str.ofString "01" = SX.S [48, 49] := by decide +kernel
theorem Fr.upd {d l p : Addr} {H H' : Hp} {o : HO} (f : Fr d l H H') (h : H p = none) : Fr d l H (upd H' p o) := fun b u h1 h2 e => by
  rw [upd_ne (ne_of_none e h)]
  exact f b u h1 h2 e
theorem size07 {k : Nat} (h : k = 1 ∨ k = 2 ∨ k = 3) : ∃ (N : Nat) (A B C : List Bool), 2 ^ k = N ∧ N ≤ 8 ∧ 2 ≤ N ∧ A.length = N ∧ B.length = N ∧ C.length = N ∧ atI [V.int 2, V.int 4, V.int 8] ((k : Int) - 1) = some (.int (N : Int)) ∧
    Txt.mul (Str.ofString "0") ((N : Int) - 1) ++ Str.ofString "1" = tabOf A ∧ Str.ofString "0" ++ Txt.mul (Str.ofString "1") ((N : Int) - 1) = tabOf B ∧
    (Txt.mul (Str.ofString "0") ((N : Int) - 1)).length = N - 1 ∧ (Txt.mul (Str.ofString "1") ((N : Int) - 1)).length = N - 1 ∧
    atI [V.str (Str.ofString "10"), V.str (Str.ofString "0110"), V.str (Str.ofString "01101001")] ((k : Int) - 1) = some (.str (tabOf C)) := by
  rcases h with rfl | rfl | rfl
  · exact ⟨2, [false, true], [false, true], [true, false], by decide, by decide, by decide, by decide, by decide, by decide, rfl, by decide +kernel, by decide +kernel, by decide +kernel, by decide +kernel, by decide +kernel⟩
  · exact ⟨4, [false, false, false, true], [false, true, true, true], [false, true, true, false], by decide, by decide, by decide, by decide, by decide, by decide, rfl, by decide +kernel, by decide +kernel, by decide +kernel, by decide +kernel, by decide +kernel⟩
  · exact ⟨8, [false, false, false, false, false, false, false, true], [false, true, true, true, true, true, true, true], [false, true, true, false, true, false, false, true], by decide, by decide, by decide, by decide, by decide, by decide, rfl, by decide +kernel, by decide +kernel, by decide +kernel, by decide +kernel, by decide +kernel⟩
def sp_table (K : PySem.W.Frag) : Sp := fun vs H Q _ => ∃ (d l : Addr) (n : Int) (k : Nat), vs = [.ref d, .int k] ∧ DeckF H d l n ∧ n < 100000000 ∧ 1 ≤ k ∧ k ≤ 3 ∧ ∀ H' bs, DeckF H' d l (n + 320) → Fr d l H H' → bs.length = 2 ^ k → Q (.str (tabOf bs)) H'
theorem ok_table (T : Tx K mg) : FnOk P w K mg base CX0 8 T.f_table T.fd_table ["_law_deck_here", "_law_many"] (sp_table K) := by
  refine T.F_table.ok sc_table (fun vs H Q E h => ?_) (fun cdv A outer s H vs Q E hr h => ?_)
  · obtain ⟨d, l, n, k, rfl, _⟩ := h
    rfl
  · obtain ⟨d, l, n, k, rfl, D, hn, k1, k3, q⟩ := h
    refine ⟨_, (pss_cons (ps_set (i := 2) sc_table.nd rfl (by first | exact .inl rfl | exact .inr rfl) (pe_call (ok_draw T) (hr.mono (by decide)) (by rfl) T.g_draw T.F_draw.kp T.b_draw .nil pass0 (pa_cons (pv 0) (pa_cons pe_int pa_nil)))) (pss_cons (ps_set (i := 3) sc_table.nd rfl (by first | exact .inl rfl | exact .inr rfl) (pe_ix ix_list (pe_lst (pa_cons pe_int (pa_cons pe_int (pa_cons pe_int pa_nil)))) (pe_op op_sub (pv 1) pe_int) (fun _ _ => rfl))) (pss_cons (ps_if (pt_cmpR op_eq (pv 2) pe_int (nomark _)) (pss_one (ps_ret (pe_op op_add_str (pe_op op_repS pe_str (pe_op op_sub (pv 3) pe_int)) pe_str))) pss_nil) (pss_cons (ps_if (pt_cmpR op_eq (pv 2) pe_int (nomark _)) (pss_one (ps_ret (pe_op op_add_str pe_str (pe_op op_repS pe_str (pe_op op_sub (pv 3) pe_int))))) pss_nil) (pss_cons (ps_if (pt_cmpR op_eq (pv 2) pe_int (nomark _)) (pss_one (ps_ret (pe_ix ix_list (pe_lst (pa_cons pe_str (pa_cons pe_str (pa_cons pe_str pa_nil)))) (pe_op op_sub (pv 1) pe_int) (fun _ _ => rfl)))) pss_nil) (pss_one (ps_ret (pe_join pe_str (pe_lc (own := [("_law_k", 4)]) (by rfl) sc_table.nd (pi_range1 (by rfl) T.m_range (pa_cons (pv 3) pa_nil)) (blkOk_by (own := [("_law_k", 4)]) (N := ["_law_deck_here", "_law_many", "_law_way", "_law_size", "_law_k"]) (sc := defScope s_table) (by decide +kernel)) (fun _ _ _ _ _ => (pg_name (i := 4) sc_table.nd rfl (by first | exact .inl rfl | exact .inr rfl))) (fun _ _ _ _ _ => pts_nil) (fun _ _ _ _ _ => (pe_item_str pe_str (pe_call (ok_draw T) (hr.mono (by decide)) (by rfl) T.g_draw T.F_draw.kp T.b_draw .nil pass0 (pa_cons (pv 0) (pa_cons pe_int pa_nil))) (fun _ _ => rfl)))))))))))), ?_⟩
    obtain ⟨N, A, B, C, hN, n8, n2, lA, lB, lC, a1, eA, eB, lA', lB', eC⟩ := size07 (show k = 1 ∨ k = 2 ∨ k = 3 by omega)
    rw [← hN] at lA lB lC
    refine ⟨.ref d, rfl, d, l, 6, n, rfl, D, by omega, by decide, by decide, fun H1 way D1 fr1 w0 w1 => ?_⟩
    refine ⟨sl3, fun p np => ?_⟩
    have s2 := same_upd (o := HO.lst [V.int 2, V.int 4, V.int 8]) np
    have h2 : upd H1 p (HO.lst [V.int 2, V.int 4, V.int 8]) p = some (.lst [V.int 2, V.int 4, V.int 8]) := upd_same
    generalize upd H1 p (HO.lst [V.int 2, V.int 4, V.int 8]) = H2 at s2 h2 ⊢
    have D2 := D1.same s2
    have fr2 := fr1.trans (Fr.of s2)
    refine ⟨.int k, rfl, _, _, rfl, rfl, p, _, (k : Int) - 1, _, rfl, rfl, SqL.of h2, a1, ?_⟩
    refine ⟨.int way, rfl, rfl, _, rfl, ite2 (fun _ => ?_) (fun _ => ?_)⟩
    · refine ⟨.int N, rfl, _, _, rfl, rfl, _, _, rfl, rfl, by decide, by omega, by omega, _, _, rfl, rfl, ?_, ?_⟩
      · rw [lA']
        exact Nat.le_trans (show N - 1 + 1 ≤ 8 by omega) (by decide)
      · rw [eA]
        exact q H2 A (D2.mono (by omega)) fr2 lA
    refine ⟨.int way, rfl, rfl, _, rfl, ite2 (fun _ => ?_) (fun _ => ?_)⟩
    · refine ⟨.int N, rfl, _, _, rfl, rfl, _, _, rfl, rfl, by decide, by omega, by omega, _, _, rfl, rfl, ?_, ?_⟩
      · rw [lB']
        exact Nat.le_trans (show 1 + (N - 1) ≤ 8 by omega) (by decide)
      · rw [eB]
        exact q H2 B (D2.mono (by omega)) fr2 lB
    refine ⟨.int way, rfl, rfl, _, rfl, ite2 (fun _ => ?_) (fun _ => ?_)⟩
    · refine ⟨sl3, fun p3 np3 => ?_⟩
      refine ⟨.int k, rfl, _, _, rfl, rfl, p3, _, (k : Int) - 1, _, rfl, rfl, SqL.of upd_same, eC, ?_⟩
      exact q _ C ((D2.same (same_upd np3)).mono (by omega)) (fr2.trans (Fr.new np3)) lC
    refine ⟨⟨_, rfl⟩, .int N, rfl, N, rfl, by omega, by omega, fun L nL => ?_⟩
    have oL := D2.off nL
    have nL0 : H L = none := none_of_frF fr2 D2 nL
    refine lc_range (lo := 0) (n := ((N : Nat) : Int).toNat) (fun i H' => DeckF H' d l (n + 32 + 32 * i) ∧ Fr d l H H' ∧ ∃ bs : List Bool, bs.length = i ∧ H' L = some (.lst (bs.map fun b => V.str (sg b)))) ⟨(D2.same (same_upd nL)).mono (by omega), fr2.trans (Fr.new nL), [], rfl, upd_same⟩ ?_ ?_
    · rintro i H6 hi ⟨D6, fr6, bs, lbs, hL⟩
      have hi' : i < N := by simpa using hi
      refine ⟨rfl, .ref d, rfl, d, l, 2, _, rfl, D6, by omega, by decide, by decide, fun H7 x D7 fr7 x0 x1 => ?_⟩
      have hL7 := fr7 _ _ oL.1 oL.2 hL
      refine ⟨Str.ofString "01", x, (if x = 1 then 49 else 48), rfl, rfl, x0, by omega, ?_, ?_, _, hL7, ?_, (D7.upd oL.1 oL.2).mono (by push_cast; omega), Fr.upd (fr6.trans fr7) nL0, bs ++ [decide (x = 1)], by rw [List.length_append, lbs]; rfl, ?_⟩
      · rw [zo_S, SX.S_len]
        exact x1
      · rw [zo_S]
        have : x = 0 ∨ x = 1 := by omega
        rcases this with rfl | rfl <;> rfl
      · rw [List.length_map, lbs]
        exact Nat.lt_of_lt_of_le (show i < 64 by omega) (by decide)
      · rw [upd_same, List.map_append]
        have : x = 0 ∨ x = 1 := by omega
        rcases this with rfl | rfl <;> rfl
    · rintro H6 ⟨D6, fr6, bs, lbs, hL⟩
      have lb : bs.length = 2 ^ k := by rw [lbs, hN]; simp
      refine ⟨Str.ofString "", L, bs.map sg, rfl, rfl, .inl (SqL.of (by rw [hL, List.map_map]; rfl)), ?_, ?_⟩
      · rw [List.map_map, List.length_map]
        have : (bs.map ((fun x => x.length) ∘ sg)).sum = bs.length := by
          clear hL lbs lb
          induction bs with
          | nil => rfl
          | cons b r ih =>
            rw [List.map_cons, List.sum_cons, ih, List.length_cons]
            cases b <;> (show 1 + _ = _; omega)
        rw [this]
        show bs.length + bs.length * 0 ≤ _
        have : bs.length ≤ 8 := by rw [lb, hN]; exact n8
        omega
      · rw [join_sg]
        exact q H6 bs (D6.mono (by
          have : (((N : Nat) : Int).toNat : Int) ≤ 8 := by omega
          omega)) fr6 lb

end
end Gk

set_option Elab.async false
set_option linter.all false
set_option maxRecDepth 100000
set_option maxHeartbeats 1000000
set_option pp.maxSteps 1500
set_option pp.deepTerms false
namespace Gk
open PySem PySem.Spec PyProof.Rows L2
section
variable {P : Program} {w : World} {K : PySem.W.Frag} {mg : Str → Option Value} {base : Heap}
/-! ### nets that run: what the machines want of the wave files -/
def nV (ws : List Nat) : List V := (ws.map Int.ofNat).map V.int
theorem nV_len (ws : List Nat) : (nV ws).length = ws.length := by unfold nV; rw [List.length_map, List.length_map]
theorem nV_app (a b : List Nat) : nV (a ++ b) = nV a ++ nV b := by unfold nV; rw [List.map_append, List.map_append]
theorem sameU {H H' : Hp} {p : Addr} {o : HO} (s : Same H H') (n : H p = none) : Same H (upd H' p o) := fun b x e => by
  rw [upd_ne (ne_of_none e n)]
  exact s b x e
theorem none_of_same {H H' : Hp} {p : Addr} (s : Same H H') (n : H' p = none) : H p = none := by
  cases z : H p with
  | none => rfl
  | some o => rw [s _ _ z] at n; cases n
theorem vint_at {l : List Int} {i : Nat} {x : V} (h : (l.map V.int)[i]? = some x) : ∃ b, l[i]? = some b ∧ x = V.int b := by
  rw [List.getElem?_map] at h
  obtain ⟨b, hb, e⟩ := Option.map_eq_some_iff.mp h
  exact ⟨b, hb, e.symm⟩
theorem ixN_k {n k : Nat} (h : k < n) : ixN n ((k : Nat) : Int) = some k := by
  unfold ixN
  rw [if_pos (by omega), if_pos (by omega)]
  rfl
def delsD (D : List (List Int)) : PyData := .tuple (D.map rowD)
theorem nV_at {ws : List Nat} {j : Nat} {v : V} (h : (nV ws)[j]? = some v) : ∃ k, ws[j]? = some k ∧ v = .int (k : Nat) := by
  obtain ⟨b, hb, rfl⟩ := vint_at h
  rw [List.getElem?_map] at hb
  obtain ⟨k, hk, e⟩ := Option.map_eq_some_iff.mp hb
  exact ⟨k, hk, by rw [← e]; rfl⟩
def Shape (gs : List Gt) (D : List (List Int)) : Prop := D.length = gs.length ∧ ∀ (g : Nat) (gt : Gt) (d : List Int), gs[g]? = some gt → D[g]? = some d → d.length = gt.2.length
def NonNeg (D : List (List Int)) : Prop := ∀ d ∈ D, ∀ x ∈ d, 0 ≤ x

/-! ### l != [] of any list -/
namespace NeL
section
open PySem.W PySem.Calls HT
variable {X : Cx}
def rNeN (K : PySem.W.Frag) : R2 := fun x y H Q => ∃ a b xs, x = .ref a ∧ y = .ref b ∧ SqL K H a xs ∧ SqL K H b [] ∧ Q (.bl (!xs.isEmpty)) H
theorem op_neN (hu : X.A.units + 64 < cLine) : OpR X (compareOp .NotEq) (rNeN X.K) := by
  intro pins s σ H x y v u Q I rx ry h
  obtain ⟨a, b, xs, rfl, rfl, ha, hb, q⟩ := h
  cases rx
  cases ry
  obtain ⟨us, r1, t1, _⟩ := I.list ha
  obtain ⟨ws, r2, t2, _⟩ := I.list hb
  cases r2
  cases r1 with
  | nil => exact SeqAt.RcNeAt.lists (e := fun _ => true) t1.isList t2.isList rfl (by omega) (fun j h1 _ => absurd h1 (Nat.not_lt_zero _)) _ _ _ _ ⟨.bl false, H, I, rfl, q⟩
  | cons _ _ => exact SeqAt.RcNeAt.lists_lengths t1.isList t2.isList (by simp) (by omega) _ _ _ _ ⟨.bl true, H, I, rfl, q⟩
def rEqN (K : PySem.W.Frag) : R2 := fun x y H Q => ∃ a b xs, x = .ref a ∧ y = .ref b ∧ SqL K H a xs ∧ SqL K H b [] ∧ Q (.bl xs.isEmpty) H
theorem op_eqN (hu : X.A.units + 64 < cLine) : OpR X (compareOp .Eq) (rEqN X.K) := by
  intro pins s σ H x y v u Q I rx ry h
  obtain ⟨a, b, xs, rfl, rfl, ha, hb, q⟩ := h
  cases rx
  cases ry
  obtain ⟨us, r1, t1, _⟩ := I.list ha
  obtain ⟨ws, r2, t2, _⟩ := I.list hb
  cases r2
  cases r1 with
  | nil => exact SeqAt.RcAt.lists (e := fun _ => true) t1.isList t2.isList rfl (by omega) (fun j h1 _ => absurd h1 (Nat.not_lt_zero _)) _ _ _ _ ⟨.bl true, H, I, rfl, q⟩
  | cons _ _ => exact SeqAt.RcAt.lists_lengths t1.isList t2.isList (by simp) (by omega) _ _ _ _ ⟨.bl false, H, I, rfl, q⟩
end
end NeL

/-! ### drawn nets (k07, k09 to k13) -/
theorem NetOk.snoc {n : Nat} {gs : List Gt} {g : Gt} (h : NetOk n gs) (hg : GtOk (n + gs.length) g) : NetOk n (gs ++ [g]) := fun k g' e => by
  by_cases hk : k < gs.length
  · rw [List.getElem?_append_left hk] at e
    exact h k g' e
  · rw [List.getElem?_append_right (by omega)] at e
    cases hz : k - gs.length with
    | zero =>
      rw [hz] at e
      cases Option.some.inj e
      rw [show k = gs.length by omega]
      exact hg
    | succ j => rw [hz] at e; cases e
theorem back_nV {fl : List Nat} {x : Int} (x0 : 0 ≤ x) (xl : x < fl.length) : ∃ w ∈ fl, atI (nV fl) (-1 - x) = some (.int (w : Nat)) := by
  have e : ixN (nV fl).length (-1 - x) = some (fl.length - 1 - x.toNat) := by
    unfold ixN
    rw [nV_len, if_neg (by omega), if_pos (by omega)]
    congr 1
    omega
  have hk : fl.length - 1 - x.toNat < fl.length := by omega
  refine ⟨fl[fl.length - 1 - x.toNat], List.getElem_mem hk, ?_⟩
  unfold atI
  rw [e]
  show (nV fl)[fl.length - 1 - x.toNat]? = _
  unfold nV
  rw [List.getElem?_map, List.getElem?_map, List.getElem?_eq_getElem hk]
  rfl
def sp_net (K : PySem.W.Frag) : Sp := fun vs H Q _ => ∃ (d l : Addr) (n : Int) (c : Nat) (f : Bool), vs = [.ref d, .int c, .bl f] ∧ DeckF H d l n ∧ n < 10000000 ∧ 1 ≤ c ∧ c ≤ 100 ∧
  ∀ r H' m gs, DeckF H' d l (n + 64 + 640 * c) → Fr d l H H' → Tk H' (.ref r) (netD (m : Nat) gs) → 1 ≤ m → m ≤ 4 → gs.length = c → NetOk m gs → Q (.ref r) H'
theorem ok_net (T : Tx K mg) : FnOk P w K mg base CX0 9 T.f_net T.fd_net ["_law_deck_here", "_law_gates", "_law_formula"] (sp_net K) := by
  refine T.F_net.ok sc_net (fun vs H Q E h => ?_) (fun cdv A outer s H vs Q E hr h => ?_)
  · obtain ⟨d, l, n, c, f, rfl, _⟩ := h
    rfl
  · obtain ⟨d, l, n, c, f, rfl, D, hn, c1, c100, q⟩ := h
    refine ⟨_, (pss_cons (ps_set (i := 3) sc_net.nd rfl (by first | exact .inl rfl | exact .inr rfl) (pe_op op_add pe_int (pe_call (ok_draw T) (hr.mono (by decide)) (by rfl) T.g_draw T.F_draw.kp T.b_draw .nil pass0 (pa_cons (pv 0) (pa_cons pe_int pa_nil))))) (pss_cons (ps_set (i := 4) sc_net.nd rfl (by first | exact .inl rfl | exact .inr rfl) (pe_lst pa_nil)) (pss_cons (ps_set (i := 5) sc_net.nd rfl (by first | exact .inl rfl | exact .inr rfl) (pe_lst pa_nil)) (pss_cons (ps_for PassesOwn.never rfl (pi_range1 (by rfl) T.m_range (pa_cons (pv 1) pa_nil)) (pg_name (i := 6) sc_net.nd rfl (by first | exact .inl rfl | exact .inr rfl)) (pss_cons (ps_set (i := 7) sc_net.nd rfl (by first | exact .inl rfl | exact .inr rfl) (pe_lst pa_nil)) (pss_cons (ps_for PassesOwn.never rfl (pi_range1 (by rfl) T.m_range (pa_cons (pe_op op_add pe_int (pe_call (ok_draw T) (hr.mono (by decide)) (by rfl) T.g_draw T.F_draw.kp T.b_draw .nil pass0 (pa_cons (pv 0) (pa_cons pe_int pa_nil)))) pa_nil)) (pg_name (i := 8) sc_net.nd rfl (by first | exact .inl rfl | exact .inr rfl)) (pss_cons (ps_set (i := 9) sc_net.nd rfl (by first | exact .inl rfl | exact .inr rfl) (pe_call (ok_draw T) (hr.mono (by decide)) (by rfl) T.g_draw T.F_draw.kp T.b_draw .nil pass0 (pa_cons (pv 0) (pa_cons pe_int pa_nil)))) (pss_one (ps_if (pt_cut (pw_and (pt_cmpR op_gt (pv 9) pe_int (nomark _)) (pw_and1 (pt_cmpR (NeL.op_neN hr.units) (pv 4) (pe_lst pa_nil) (nomark _)))).pt) (pss_cons (ps_set (i := 10) sc_net.nd rfl (by first | exact .inl rfl | exact .inr rfl) (pe_ix ix_list (pv 4) (pe_op op_sub (pe_un un_neg pe_int) (pe_call (ok_draw T) (hr.mono (by decide)) (by rfl) T.g_draw T.F_draw.kp T.b_draw .nil pass0 (pa_cons (pv 0) (pa_cons (pe_callB (call_min2 rfl) (by rfl) T.m_min (by decide +kernel) (pa_cons (pe_callB call_len_seq (by rfl) T.m_len PySem.boot_len (pa_cons (pv 4) pa_nil)) (pa_cons pe_int pa_nil))) pa_nil)))) (fun _ _ => rfl))) (C8.pss_cut (ps_if (pt_val (pv 2)) (pss_one (ps_setLc (i := 4) (own := [("_law_one", 11)]) (by rfl) sc_net.nd rfl rfl (sw_true rfl rfl rfl (by decide +kernel)) (pi_list (pv 4)) (blkOk_by (own := [("_law_one", 11)]) (N := ["_law_deck_here", "_law_gates", "_law_formula", "_law_many", "_law_free", "_law_made", "_law_k", "_law_ins", "_law_place", "_law_way", "_law_wire", "_law_one"]) (sc := defScope s_net) (by decide +kernel)) (fun _ _ _ _ _ => (pg_name (i := 11) sc_net.nd rfl (by first | exact .inl rfl | exact .inr rfl))) (fun _ _ _ _ _ => (pts_one (pt_cmpR op_ne (pv 11) (pv 10) (nomark _)))) (fun _ _ _ _ _ => (pv 11)))) pss_nil) (pss_one (ps_expr (pe_bm PySem.F.plainAttrs_list PySem.F.slot_list_append PySem.F.type_list_append mt_append (pv 7) (pa_cons (pv 10) pa_nil)))))) (pss_one (ps_expr (pe_bm PySem.F.plainAttrs_list PySem.F.slot_list_append PySem.F.type_list_append mt_append (pv 7) (pa_cons (pe_call (ok_draw T) (hr.mono (by decide)) (by rfl) T.g_draw T.F_draw.kp T.b_draw .nil pass0 (pa_cons (pv 0) (pa_cons (pv 3) pa_nil))) pa_nil)))))))) (pss_cons (ps_expr (pe_bm PySem.F.plainAttrs_list PySem.F.slot_list_append PySem.F.type_list_append mt_append (pv 5) (pa_cons (pe_tup (pa_cons (pe_call (ok_table T) (hr.mono (by decide)) (by rfl) T.g_table T.F_table.kp T.b_table .nil pass0 (pa_cons (pv 0) (pa_cons (pe_callB call_len_seq (by rfl) T.m_len PySem.boot_len (pa_cons (pv 7) pa_nil)) pa_nil))) (pa_cons (pe_callTy call_tuple_of (by rfl) T.m_tuple (by decide +kernel) (pa_cons (pv 7) pa_nil)) pa_nil))) pa_nil))) (pss_one (ps_expr (pe_bm PySem.F.plainAttrs_list PySem.F.slot_list_append PySem.F.type_list_append mt_append (pv 4) (pa_cons (pe_op op_add (pv 3) (pv 6)) pa_nil)))))))) (pss_one (ps_ret (pe_tup (pa_cons (pv 3) (pa_cons (pe_callTy call_tuple_of (by rfl) T.m_tuple (by decide +kernel) (pa_cons (pv 5) pa_nil)) pa_nil))))))))), ?_⟩
    refine ⟨.ref d, rfl, d, l, 4, _, rfl, D, by omega, by decide, by decide, fun H1 x D1 fr1 x0 x1 => ⟨_, _, rfl, rfl, ?_⟩⟩
    obtain ⟨m, hm, m1, m4⟩ : ∃ m : Nat, 1 + x = (m : Int) ∧ 1 ≤ m ∧ m ≤ 4 := ⟨(1 + x).toNat, by omega, by omega, by omega⟩
    have em : (fun i j : Int => V.int (i + j)) 1 x = V.int m := by
      show V.int (1 + x) = _
      rw [hm]
    rw [em]
    refine ⟨Nat.zero_le _, fun F nF => ?_⟩
    have oF := D1.off nF
    have nF0 := none_of_frF fr1 D1 nF
    have s2 := same_upd (o := (HO.lst [])) nF
    have hF : upd H1 F (HO.lst []) F = some (HO.lst []) := upd_same
    generalize upd H1 F (HO.lst []) = H2 at s2 hF ⊢
    have D2 := D1.same s2
    have fr2 := fr1.trans (Fr.of s2)
    refine ⟨Nat.zero_le _, fun G nG => ?_⟩
    have oG := D2.off nG
    have nG0 := none_of_frF fr2 D2 nG
    have FG : F ≠ G := ne_of_none hF nG
    have s3 := same_upd (o := (HO.lst [])) nG
    have hG : upd H2 G (HO.lst []) G = some (HO.lst []) := upd_same
    generalize upd H2 G (HO.lst []) = H3 at s3 hG ⊢
    have D3 := D2.same s3
    have fr3 := fr2.trans (Fr.of s3)
    have hF3 := s3 _ _ hF
    refine ⟨.int c, rfl, c, rfl, by omega, by omega, ?_⟩
    refine for_range (lo := 0) (n := (c : Int).toNat) (fun i σ H' => ∃ (Fa : Addr) (fl : List Nat) (y6 y7 y8 y9 y10 : Option V), σ = [some (.ref d), some (.int c), some (.bl f), some (.int m), some (.ref Fa), some (.ref G), y6, y7, y8, y9, y10, none] ∧ DeckF H' d l (n + 32 + 640 * i) ∧ Fr d l H H' ∧ H Fa = none ∧ Fa ≠ G ∧ H' Fa = some (.lst (nV fl)) ∧ fl.length ≤ i ∧ (∀ x ∈ fl, x < m + i) ∧ ∃ acc gs, H' G = some (.lst acc) ∧ TkAll H' acc (gs.map gD) ∧ gs.length = i ∧ NetOk m gs)
      ⟨F, [], _, _, _, _, _, rfl, D3.mono (by omega), fr3, nF0, FG, hF3, Nat.zero_le _, (fun x hx => by cases hx), [], [], hG, .nil, rfl, fun k g e => by simp at e⟩ ?_ ?_
    · rintro i σ H4 hi ⟨Fa, fl, y6, y7, y8, y9, y10, rfl, D4, fr4, nFa, FaG, hFa4, lfl, okfl, acc, gs, hG4, tg4, lg, ok⟩
      have hi' : i < c := by simpa using hi
      refine ⟨Nat.zero_le _, fun I nI => ?_⟩
      have oI := D4.off nI
      have nI0 := none_of_frF fr4 D4 nI
      have GI : G ≠ I := ne_of_none hG4 nI
      have FI : Fa ≠ I := ne_of_none hFa4 nI
      have s5 := same_upd (o := (HO.lst [])) nI
      have hI : upd H4 I (HO.lst []) I = some (HO.lst []) := upd_same
      generalize upd H4 I (HO.lst []) = H5 at s5 hI ⊢
      have D5 := D4.same s5
      have fr5 := fr4.trans (Fr.of s5)
      have hFa5 := s5 _ _ hFa4
      have hG5 := s5 _ _ hG4
      have tg5 := tg4.same s5
      refine ⟨.ref d, rfl, d, l, 3, _, rfl, D5, by omega, by decide, by decide, fun H6 u D6 fr6 u0 u1 => ⟨_, _, rfl, rfl, ?_⟩⟩
      obtain ⟨cn, hcn, cn1, cn3⟩ : ∃ cn : Nat, 1 + u = (cn : Int) ∧ 1 ≤ cn ∧ cn ≤ 3 := ⟨(1 + u).toNat, by omega, by omega, by omega⟩
      have ec : (fun i j : Int => V.int (i + j)) 1 u = V.int cn := by
        show V.int (1 + u) = _
        rw [hcn]
      rw [ec]
      have fr6' := fr5.trans fr6
      have hI6 := fr6 _ _ oI.1 oI.2 hI
      have hG6 := fr6 _ _ oG.1 oG.2 hG5
      have oFa : Fa ≠ d ∧ Fa ≠ l := D.off nFa
      have hFa6 := fr6 _ _ oFa.1 oFa.2 hFa5
      have tg6 := tg5.ts (Ts.frF D5 fr6) (noL_gates gs)
      refine ⟨(cn : Int), rfl, by omega, by omega, ?_⟩
      refine for_range (lo := 0) (n := (cn : Int).toNat) (fun j σ H' => ∃ (Fa : Addr) (fl : List Nat) (y8 y9 y10 : Option V), σ = [some (.ref d), some (.int c), some (.bl f), some (.int m), some (.ref Fa), some (.ref G), some (.int (0 + (i : Int))), some (.ref I), y8, y9, y10, none] ∧ DeckF H' d l (n + 64 + 640 * i + 64 * j) ∧ Fr d l H H' ∧ H Fa = none ∧ Fa ≠ G ∧ Fa ≠ I ∧ H' Fa = some (.lst (nV fl)) ∧ fl.length ≤ i ∧ (∀ x ∈ fl, x < m + i) ∧ H' G = some (.lst acc) ∧ TkAll H' acc (gs.map gD) ∧ ∃ ws : List Nat, H' I = some (.lst (nV ws)) ∧ ws.length = j ∧ ∀ w ∈ ws, w < m + i)
        ⟨Fa, fl, _, _, _, rfl, D6.mono (by omega), fr6', nFa, FaG, FI, hFa6, lfl, okfl, hG6, tg6, [], hI6, rfl, (fun x hx => by cases hx)⟩ ?_ ?_
      · rintro j σ H7 hj ⟨Fa, fl, y8, y9, y10, rfl, D7, fr7, nFa, FaG, FaI, hFa7, lfl, okfl, hG7, tg7, ws, hI7, lw, okw⟩
        have hj' : j < cn := by simpa using hj
        have oFa : Fa ≠ d ∧ Fa ≠ l := D.off nFa
        -- an in more
        have fin : ∀ {H' : Hp} {Fb : Addr} {fb : List Nat} {y8 y9 y10 : Option V} {v : V} {x : Nat}, v = .int (x : Nat) → x < m + i → DeckF H' d l (n + 64 + 640 * i + 64 * j + 64) → Fr d l H H' → H Fb = none → Fb ≠ G → Fb ≠ I → H' Fb = some (.lst (nV fb)) → fb.length ≤ i → (∀ x ∈ fb, x < m + i) → H' G = some (.lst acc) → TkAll H' acc (gs.map gD) → H' I = some (.lst (nV ws)) →
            rAppend (.ref I) [v] H' (fun _ H' => ∃ (Fa : Addr) (fl : List Nat) (y8' y9' y10' : Option V), [some (V.ref d), some (.int c), some (.bl f), some (.int m), some (.ref Fb), some (.ref G), some (.int (0 + (i : Int))), some (.ref I), y8, y9, y10, none] = [some (.ref d), some (.int c), some (.bl f), some (.int m), some (.ref Fa), some (.ref G), some (.int (0 + (i : Int))), some (.ref I), y8', y9', y10', none] ∧ DeckF H' d l (n + 64 + 640 * i + 64 * ((j + 1 : Nat) : Int)) ∧ Fr d l H H' ∧ H Fa = none ∧ Fa ≠ G ∧ Fa ≠ I ∧ H' Fa = some (.lst (nV fl)) ∧ fl.length ≤ i ∧ (∀ x ∈ fl, x < m + i) ∧ H' G = some (.lst acc) ∧ TkAll H' acc (gs.map gD) ∧ ∃ ws : List Nat, H' I = some (.lst (nV ws)) ∧ ws.length = j + 1 ∧ ∀ w ∈ ws, w < m + i) := by
          intro H' Fb fb y8 y9 y10 v x ev hx Dn frn nFb FbG FbI hFb lfb okfb hGn tgn hIn
          subst ev
          refine ⟨I, _, _, rfl, rfl, hIn, ?_, Fb, fb, _, _, _, rfl, (Dn.upd oI.1 oI.2).mono (by push_cast; omega), Fr.upd frn nI0, nFb, FbG, FbI, by rw [upd_ne FbI]; exact hFb, lfb, okfb, by rw [upd_ne GI]; exact hGn, tgn.ts (Ts.set hIn) (noL_gates gs), ws ++ [x], ?_, by rw [List.length_append, lw]; rfl, fun w hw => ?_⟩
          · rw [nV_len, lw]
            exact Nat.lt_of_lt_of_le (show j < 64 by omega) (by decide)
          · rw [upd_same, nV_app]
            rfl
          · rcases List.mem_append.mp hw with z | z
            · exact okw w z
            · rw [List.mem_singleton.mp z]
              exact hx
        refine ⟨.ref d, rfl, d, l, 3, _, rfl, D7, by omega, by decide, by decide, fun H8 way D8 fr8 w0 w1 => ?_⟩
        have hI8 := fr8 _ _ oI.1 oI.2 hI7
        have hFa8 := fr8 _ _ oFa.1 oFa.2 hFa7
        have hG8 := fr8 _ _ oG.1 oG.2 hG7
        have tg8 := tg7.ts (Ts.frF D7 fr8) (noL_gates gs)
        have frB := fr7.trans fr8
        refine ⟨fun b H' => Same H8 H' ∧ (b = true → fl ≠ []), ?_, ?_⟩
        · refine ⟨.int way, rfl, _, _, rfl, rfl, _, rfl, ite2 (fun _ => ?_) (fun _ => ⟨Same.refl _, fun z => by cases z⟩)⟩
          refine ⟨.ref Fa, rfl, Nat.zero_le _, fun p np => ?_⟩
          have sp := same_upd (o := HO.lst []) np
          refine ⟨Fa, p, _, rfl, rfl, SqL.of (sp _ _ hFa8), SqL.of upd_same, _, rfl, sp, fun z e => ?_⟩
          rw [e] at z
          cases z
        · rintro b H9 ⟨s89, hb⟩
          have D9 := D8.same s89
          have hI9 := s89 _ _ hI8
          have hFa9 := s89 _ _ hFa8
          have hG9 := s89 _ _ hG8
          have tg9 := tg8.same s89
          have frC := frB.trans (Fr.of s89)
          refine ite2 (fun eb => ?_) (fun _ => ?_)
          · have hne := hb eb
            have lpos : 0 < fl.length := List.length_pos_iff.mpr hne
            refine ⟨.ref Fa, rfl, 1, rfl, .ref d, rfl, .ref Fa, rfl, Fa, _, rfl, .inl (SqL.of hFa9), _, _, rfl, ?_⟩
            rw [nV_len]
            refine ⟨d, l, _, _, rfl, D9, by omega, by split <;> omega, by split <;> omega, fun H10 x D10 fr10 x0 x1 => ⟨_, _, rfl, rfl, ?_⟩⟩
            have hI10 := fr10 _ _ oI.1 oI.2 hI9
            have hFa10 := fr10 _ _ oFa.1 oFa.2 hFa9
            have hG10 := fr10 _ _ oG.1 oG.2 hG9
            have tg10 := tg9.ts (Ts.frF D9 fr10) (noL_gates gs)
            have frE := frC.trans fr10
            have xl : x < fl.length := by split at x1 <;> omega
            obtain ⟨w0, hw0, hat⟩ := back_nV (fl := fl) x0 xl
            have hwb := okfl w0 hw0
            refine ⟨Fa, _, -1 - x, .int (w0 : Nat), rfl, rfl, SqL.of hFa10, hat, ?_⟩
            refine ⟨fun σ H' => ∃ (Fb : Addr) (fb : List Nat), σ = [some (.ref d), some (.int c), some (.bl f), some (.int m), some (.ref Fb), some (.ref G), some (.int (0 + (i : Int))), some (.ref I), some (.int (0 + (j : Int))), some (.int way), some (.int (w0 : Nat)), none] ∧ DeckF H' d l (n + 64 + 640 * i + 64 * j + 64) ∧ Fr d l H H' ∧ H Fb = none ∧ Fb ≠ G ∧ Fb ≠ I ∧ H' Fb = some (.lst (nV fb)) ∧ fb.length ≤ i ∧ (∀ x ∈ fb, x < m + i) ∧ H' G = some (.lst acc) ∧ TkAll H' acc (gs.map gD) ∧ H' I = some (.lst (nV ws)), ?_, ?_⟩
            rotate_left
            · rintro σ H11 ⟨Fb, fb, rfl, D11, fr11, nFb, FbG, FbI, hFb, lfb, okfb, hG11, tg11, hI11⟩
              exact ⟨.ref I, rfl, .inl ⟨rfl, _, SqL.of hI11⟩, .int (w0 : Nat), rfl, fin rfl hwb D11 fr11 nFb FbG FbI hFb lfb okfb hG11 tg11 hI11⟩
            refine ⟨.bl f, rfl, f, rfl, ?_⟩
            cases f with
            | false =>
              refine iteF ?_
              exact ⟨Fa, fl, rfl, D10.mono (by omega), frE, nFa, FaG, FaI, hFa10, lfl, okfl, hG10, tg10, hI10⟩
            | true =>
              refine iteT ?_
              refine ⟨.ref Fa, rfl, Fa, rfl, ⟨_, SqL.of hFa10⟩, fun L nL => ?_⟩
              have nL0 := none_of_frF frE D10 nL
              have GL : G ≠ L := ne_of_none hG10 nL
              have IL : I ≠ L := ne_of_none hI10 nL
              refine lc_list (K := K) (a := Fa) (xs := nV fl) (fun k H' => Same H10 (hd1 L H') ∧ ∃ fb : List Nat, H' L = some (.lst (nV fb)) ∧ fb.length ≤ k ∧ ∀ x ∈ fb, x ∈ fl) ⟨hd1_of (same_upd nL) nL, [], upd_same, Nat.zero_le _, (fun x h => by cases h)⟩ (fun k H' _ z => SqL.of (hd1_le _ _ (z.1 _ _ hFa10))) ?_ ?_
              · rintro k v H11 hv ⟨s11, fb, hL, lfb, okfb⟩
                obtain ⟨o, ho, rfl⟩ := nV_at hv
                have hk := (List.getElem?_eq_some_iff.mp ho).1
                refine ⟨rfl, .int (o : Nat), rfl, .int (w0 : Nat), rfl, rfl, _, rfl, ite2 (fun _ => ?_) (fun _ => ⟨s11, fb, hL, by omega, okfb⟩)⟩
                refine ⟨.int (o : Nat), rfl, _, hL, ?_, s11.trans hd1_upd, fb ++ [o], ?_, by rw [List.length_append]; exact Nat.succ_le_succ lfb, fun x hx => ?_⟩
                · rw [nV_len]
                  exact Nat.lt_of_le_of_lt (show fb.length ≤ 200 by omega) (by decide)
                · rw [upd_same, nV_app]
                  rfl
                · rcases List.mem_append.mp hx with z | z
                  · exact okfb x z
                  · rw [List.mem_singleton.mp z]
                    exact List.mem_of_getElem? ho
              · rintro H11 ⟨s11, fb, hL, lfb, okfb⟩
                rw [nV_len] at lfb
                have s1 : Same H10 H11 := fun b o e => hd1_le _ _ (s11 b o e)
                exact ⟨L, fb, rfl, (D10.same s1).mono (by omega), frE.trans (Fr.of s1), nL0, GL.symm, IL.symm, hL, by omega, fun x hx => okfl x (okfb x hx), s1 _ _ hG10, tg10.same s1, s1 _ _ hI10⟩
          · refine ⟨.ref I, rfl, .inl ⟨rfl, _, SqL.of hI9⟩, .ref d, rfl, .int m, rfl, d, l, _, _, rfl, D9, by omega, by omega, by omega, fun H10 x D10 fr10 x0 x1 => ?_⟩
            obtain ⟨x', rfl⟩ := Int.eq_ofNat_of_zero_le x0
            exact fin rfl (by omega) (D10.mono (by omega)) (frC.trans fr10) nFa FaG FaI (fr10 _ _ oFa.1 oFa.2 hFa9) lfl okfl (fr10 _ _ oG.1 oG.2 hG9) (tg9.ts (Ts.frF D9 fr10) (noL_gates gs)) (fr10 _ _ oI.1 oI.2 hI9)
      · rintro σ H7 ⟨Fa, fl, y8, y9, y10, rfl, D7, fr7, nFa, FaG, FaI, hFa7, lfl, okfl, hG7, tg7, ws, hI7, lw, okw⟩
        have oFa : Fa ≠ d ∧ Fa ≠ l := D.off nFa
        have lw' : ws.length = cn := by rw [lw]; simp
        have ecn : ((cn : Int).toNat : Int) = cn := by omega
        refine ⟨.ref G, rfl, .inl ⟨rfl, _, SqL.of hG7⟩, .ref d, rfl, .ref I, rfl, I, _, rfl, .inl (SqL.of hI7), ?_⟩
        rw [nV_len, lw']
        refine ⟨d, l, _, cn, rfl, D7, by omega, cn1, cn3, fun H8 bs D8 fr8 lb => ?_⟩
        have hI8 := fr8 _ _ oI.1 oI.2 hI7
        have hFa8 := fr8 _ _ oFa.1 oFa.2 hFa7
        have hG8 := fr8 _ _ oG.1 oG.2 hG7
        have tg8 := tg7.ts (Ts.frF D7 fr8) (noL_gates gs)
        have frB := fr7.trans fr8
        refine ⟨.ref I, rfl, I, _, rfl, .inl ⟨SqL.of hI8, fun ti nti => ?_⟩⟩
        have s9 := same_upd (o := (HO.tup (nV ws))) nti
        have hti : upd H8 ti (HO.tup (nV ws)) ti = some (HO.tup (nV ws)) := upd_same
        generalize upd H8 ti (HO.tup (nV ws)) = H9 at s9 hti ⊢
        refine ⟨sl2, fun tt ntt => ?_⟩
        have s10 := same_upd (o := (HO.tup [V.str (tabOf bs), .ref ti])) ntt
        have htt : upd H9 tt (HO.tup [V.str (tabOf bs), .ref ti]) tt = some (HO.tup [V.str (tabOf bs), .ref ti]) := upd_same
        generalize upd H9 tt (HO.tup [V.str (tabOf bs), .ref ti]) = H10 at s10 htt ⊢
        have sA := s9.trans s10
        have hG10 := sA _ _ hG8
        have hFa10 := sA _ _ hFa8
        have D10 := D8.same sA
        have fr10 := frB.trans (Fr.of sA)
        have tg10 := tg8.same sA
        have tnew : Tk H10 (.ref tt) (gD (bs, ws)) := .tup htt (.cons (.str _) (.cons (.tup (s10 _ _ hti) (TkAll.ints _)) .nil))
        have lacc : acc.length = i := by rw [tg10.length, List.length_map, lg]
        refine ⟨G, _, _, rfl, rfl, hG10, ?_, ?_⟩
        · exact Nat.lt_of_lt_of_le (show acc.length < 200 by omega) (by decide)
        have hFa11 : upd H10 G (.lst (acc ++ [V.ref tt])) Fa = some (.lst (nV fl)) := by rw [upd_ne FaG]; exact hFa10
        refine ⟨.ref Fa, rfl, .inl ⟨rfl, _, SqL.of hFa11⟩, .int m, rfl, .int (0 + (i : Int)), rfl, _, _, rfl, rfl, Fa, _, _, rfl, rfl, hFa11, ?_, ?_⟩
        · rw [nV_len]
          exact Nat.lt_of_lt_of_le (show fl.length < 200 by omega) (by decide)
        have tsG := Ts.set (ys := acc ++ [V.ref tt]) hG10
        have tsF := Ts.set (ys := nV fl ++ [V.int ((m : Int) + (0 + (i : Int)))]) hFa11
        have tsA := tsG.trans tsF
        refine ⟨Fa, fl ++ [m + i], _, _, _, _, _, rfl, ((D10.upd oG.1 oG.2).upd oFa.1 oFa.2).mono (by push_cast; omega), Fr.upd (Fr.upd fr10 nG0) nFa, nFa, FaG, ?_, by rw [List.length_append]; exact Nat.succ_le_succ lfl, fun x hx => ?_, acc ++ [.ref tt], gs ++ [(bs, ws)], by rw [upd_ne FaG.symm, upd_same], ?_, by rw [List.length_append, lg]; rfl, ok.snoc ⟨by rw [lb, lw'], by rw [lw']; exact cn1, by rw [lw']; exact cn3, fun w hw => by rw [lg]; exact okw w hw⟩⟩
        · rw [upd_same, nV_app]
          show some (HO.lst (nV fl ++ [V.int ((m : Int) + (0 + (i : Int)))])) = some (HO.lst (nV fl ++ [V.int ((m + i : Nat) : Int)]))
          rw [show (m : Int) + (0 + (i : Int)) = ((m + i : Nat) : Int) by push_cast; omega]
        · rcases List.mem_append.mp hx with z | z
          · have := okfl x z
            omega
          · rw [List.mem_singleton.mp z]
            omega
        · rw [List.map_append]
          exact (tg10.ts tsA (noL_gates gs)).append (.cons (tnew.ts tsA (noL_gate _)) .nil)
    · rintro σ H4 ⟨Fa, fl, y6, y7, y8, y9, y10, rfl, D4, fr4, nFa, FaG, hFa4, lfl, okfl, acc, gs, hG4, tg4, lg, ok⟩
      have lg' : gs.length = c := by rw [lg]; simp
      have ecn : ((c : Int).toNat : Int) = c := by omega
      refine ⟨.int m, rfl, .ref G, rfl, G, _, rfl, .inl ⟨SqL.of hG4, fun tp ntp => ?_⟩⟩
      have s5 := same_upd (o := (HO.tup acc)) ntp
      have htp : upd H4 tp (HO.tup acc) tp = some (HO.tup acc) := upd_same
      generalize upd H4 tp (HO.tup acc) = H5 at s5 htp ⊢
      refine ⟨sl2, fun r nr => ?_⟩
      have s6 := same_upd (o := HO.tup [V.int m, .ref tp]) nr
      exact q r _ m gs ((D4.same (s5.trans s6)).mono (by omega)) (fr4.trans (Fr.of (s5.trans s6))) (.tup upd_same (.cons (.int _) (.cons (.tup (s6 _ _ htp) (tg4.same (s5.trans s6))) .nil))) m1 m4 lg' ok
def sp_delays (K : PySem.W.Frag) : Sp := fun vs H Q _ => ∃ (d l : Addr) (n : Int) (nv : V) (m : Nat) (gs : List Gt) (most : Int), vs = [.ref d, nv, .int most] ∧ DeckF H d l n ∧ n < 100000000 ∧ Tk H nv (netD m gs) ∧ NetOk m gs ∧ gs.length ≤ 100 ∧ 0 < most ∧ most ≤ 1000000000000000000000000000000000000 ∧
  ∀ r H' D, DeckF H' d l (n + 96 * gs.length) → Fr d l H H' → Tk H' (.ref r) (delsD D) → Shape gs D → (∀ d ∈ D, ∀ x ∈ d, 0 ≤ x ∧ x < most) → Q (.ref r) H'
theorem ok_delays (T : Tx K mg) : FnOk P w K mg base CX0 8 T.f_delays T.fd_delays ["_law_deck_here", "_law_net_here", "_law_most"] (sp_delays K) := by
  refine T.F_delays.ok sc_delays (fun vs H Q E h => ?_) (fun cdv A outer s H vs Q E hr h => ?_)
  · obtain ⟨d, l, n, nv, m, gs, most, rfl, _⟩ := h
    rfl
  · obtain ⟨d, l, n, nv, m, gs, most, rfl, D, hn, tn, okn, g100, m0, m6, q⟩ := h
    refine ⟨_, (pss_cons (ps_set (i := 3) sc_delays.nd rfl (by first | exact .inl rfl | exact .inr rfl) (pe_lst pa_nil)) (pss_cons (ps_for PassesOwn.never rfl (pi_tup (pe_ix ix_tup (pv 1) pe_int (fun _ _ => rfl))) (pg_tup rfl (pgs_cons (pg_name (i := 4) sc_delays.nd rfl (by first | exact .inl rfl | exact .inr rfl)) (pgs_cons (pg_name (i := 5) sc_delays.nd rfl (by first | exact .inl rfl | exact .inr rfl)) pgs_nil))) (pss_one (ps_expr (pe_bm PySem.F.plainAttrs_list PySem.F.slot_list_append PySem.F.type_list_append mt_append (pv 3) (pa_cons (pe_callTy call_tuple_of (by rfl) T.m_tuple (by decide +kernel) (pa_cons (pe_lc (own := [("_law_wire", 6)]) (by rfl) sc_delays.nd (pi_tup (pv 5)) (blkOk_by (own := [("_law_wire", 6)]) (N := ["_law_deck_here", "_law_net_here", "_law_most", "_law_made", "_law_table_here", "_law_ins", "_law_wire"]) (sc := defScope s_delays) (by decide +kernel)) (fun _ _ _ _ _ => (pg_name (i := 6) sc_delays.nd rfl (by first | exact .inl rfl | exact .inr rfl))) (fun _ _ _ _ _ => pts_nil) (fun _ _ _ _ _ => (pe_call (ok_draw T) (hr.mono (by decide)) (by rfl) T.g_draw T.F_draw.kp T.b_draw .nil pass0 (pa_cons (pv 0) (pa_cons (pv 2) pa_nil))))) pa_nil)) pa_nil))))) (pss_one (ps_ret (pe_callTy call_tuple_of (by rfl) T.m_tuple (by decide +kernel) (pa_cons (pv 3) pa_nil)))))), ?_⟩
    obtain ⟨nn, g, xs, rfl, hn', hg, tg⟩ := tn.net_inv
    have lx : xs.length = gs.length := by rw [tg.length, List.length_map]
    refine ⟨Nat.zero_le _, fun G nG => ?_⟩
    have oG := D.off nG
    have s1 := same_upd (o := (HO.lst [])) nG
    have hG : upd H G (HO.lst []) G = some (HO.lst []) := upd_same
    generalize upd H G (HO.lst []) = H1 at s1 hG ⊢
    have D1 := D.same s1
    have fr1 : Fr d l H H1 := Fr.of s1
    have ts1 : Ts H H1 := Ts.same s1
    refine ⟨.ref nn, rfl, nn, _, 1, .ref g, rfl, rfl, SqT.of (ts1 _ _ hn'), rfl, g, rfl, ⟨_, SqT.of (ts1 _ _ hg)⟩, ?_⟩
    refine for_tup (K := K) (a := g) (xs := xs) (fun i σ H' => ∃ y4 y5 acc D, σ = [some (.ref d), some (.ref nn), some (.int most), some (.ref G), y4, y5, none] ∧ DeckF H' d l (n + 96 * i) ∧ Fr d l H H' ∧ H' G = some (.lst acc) ∧ TkAll H' acc (D.map rowD) ∧ D.length = i ∧ (∀ (j : Nat) (gt : Gt) (dd : List Int), gs[j]? = some gt → D[j]? = some dd → dd.length = gt.2.length) ∧ ∀ dd ∈ D, ∀ x ∈ dd, 0 ≤ x ∧ x < most)
      ⟨_, _, [], [], rfl, D1.mono (by omega), fr1, hG, .nil, rfl, (fun j gt dd _ h => by cases h), (fun dd h => by cases h)⟩ (fun i σ H' _ ⟨_, _, _, _, _, _, z, _⟩ => SqT.of (Ts.frF D z _ _ hg)) ?_ ?_
    · rintro i v σ H2 hv ⟨y4, y5, acc, DD, rfl, D2, fr2, hG2, tD2, lD, shD, okD⟩
      obtain ⟨gt, hgt, tgt⟩ := tg.at hv
      obtain ⟨ga, ii, rfl, hga, hii⟩ := tgt.gt_inv
      have okg := okn i gt hgt
      have hi := (List.getElem?_eq_some_iff.mp hgt).1
      have ts2 := Ts.frF D fr2
      refine ⟨ga, _, rfl, SqT.of (ts2 _ _ hga), rfl, _, _, rfl, _, _, rfl, rfl, ?_⟩
      refine ⟨.ref G, rfl, .inl ⟨rfl, _, SqL.of hG2⟩, .ref ii, rfl, ii, rfl, ⟨_, SqT.of (ts2 _ _ hii)⟩, fun I nI => ?_⟩
      have oI := D2.off nI
      have nI0 := none_of_frF fr2 D2 nI
      have GI : G ≠ I := ne_of_none hG2 nI
      refine lc_tup (K := K) (a := ii) (xs := (gt.2.map Int.ofNat).map V.int) (fun j H' => DeckF H' d l (n + 96 * i + 32 * j) ∧ Fr d l H H' ∧ H' G = some (.lst acc) ∧ TkAll H' acc (DD.map rowD) ∧ ∃ ls : List Int, H' I = some (.lst (ls.map V.int)) ∧ ls.length = j ∧ ∀ x ∈ ls, 0 ≤ x ∧ x < most)
        ⟨(D2.same (same_upd nI)).mono (by omega), fr2.trans (Fr.new nI), same_upd nI _ _ hG2, tD2.same (same_upd nI), [], upd_same, rfl, (fun x h => by cases h)⟩ (fun j H' _ z => SqT.of (Ts.frF D z.2.1 _ _ hii)) ?_ ?_
      · rintro j v H3 hv ⟨D3, fr3, hG3, tD3, ls, hI3, ll, okl⟩
        have hj : j < 3 := by
          have := (List.getElem?_eq_some_iff.mp hv).1
          rw [List.length_map, List.length_map] at this
          have := okg.2.2.1
          omega
        refine ⟨rfl, .ref d, rfl, .int most, rfl, d, l, _, _, rfl, D3, by omega, m0, m6, fun H4 x D4 fr4 x0 x1 => ?_⟩
        have hI4 := fr4 _ _ oI.1 oI.2 hI3
        have hG4 := fr4 _ _ oG.1 oG.2 hG3
        have tD4 := tD3.ts (Ts.frF D3 fr4) (noLs_map noL_row _)
        refine ⟨_, hI4, ?_, (D4.upd oI.1 oI.2).mono (by push_cast; omega), Fr.upd (fr3.trans fr4) nI0, by rw [upd_ne GI]; exact hG4, tD4.ts (Ts.set hI4) (noLs_map noL_row _), ls ++ [x], ?_, by rw [List.length_append, ll]; rfl, fun y hy => ?_⟩
        · rw [List.length_map, ll]
          exact Nat.lt_of_lt_of_le (show j < 64 by omega) (by decide)
        · rw [upd_same, List.map_append]
          rfl
        · rcases List.mem_append.mp hy with z | z
          · exact okl y z
          · rw [List.mem_singleton.mp z]
            exact ⟨x0, x1⟩
      · rintro H3 ⟨D3, fr3, hG3, tD3, ls, hI3, ll, okl⟩
        rw [List.length_map, List.length_map] at ll D3
        refine ⟨I, _, rfl, .inl ⟨SqL.of hI3, fun ta nta => ?_⟩⟩
        have s4 := same_upd (o := (HO.tup (ls.map V.int))) nta
        have hta : upd H3 ta (HO.tup (ls.map V.int)) ta = some (HO.tup (ls.map V.int)) := upd_same
        generalize upd H3 ta (HO.tup (ls.map V.int)) = H4 at s4 hta ⊢
        have hG4 := s4 _ _ hG3
        have tD4 := tD3.same s4
        have lacc : acc.length = i := by rw [tD4.length, List.length_map, lD]
        refine ⟨G, _, _, rfl, rfl, hG4, ?_, ?_⟩
        · exact Nat.lt_of_lt_of_le (show acc.length < 200 by omega) (by decide)
        have := okg.2.2.1
        have nG0 : H G = none := nG
        refine ⟨_, _, acc ++ [.ref ta], DD ++ [ls], rfl, ((D3.same s4).upd oG.1 oG.2).mono (by push_cast; omega), Fr.upd (fr3.trans (Fr.of s4)) nG0, upd_same, ?_, by rw [List.length_append, lD]; rfl, fun j gt' dd h1 h2 => ?_, fun dd hd => ?_⟩
        · rw [List.map_append]
          have ts := Ts.set (ys := acc ++ [V.ref ta]) hG4
          exact (tD4.ts ts (noLs_map noL_row _)).append (.cons (.tup (ts _ _ hta) (TkAll.ints _)) .nil)
        · by_cases z : j < DD.length
          · rw [List.getElem?_append_left z] at h2
            exact shD j gt' dd h1 h2
          · rw [List.getElem?_append_right (by omega)] at h2
            have ej : j = i := by
              have := (List.getElem?_eq_some_iff.mp h2).1
              simp at this
              omega
            subst ej
            rw [lD, Nat.sub_self] at h2
            cases Option.some.inj h2
            cases Option.some.inj (h1.symm.trans hgt)
            exact ll
        · rcases List.mem_append.mp hd with z | z
          · exact okD dd z
          · rw [List.mem_singleton.mp z]
            exact okl
    · rintro σ H2 ⟨y4, y5, acc, DD, rfl, D2, fr2, hG2, tD2, lD, shD, okD⟩
      rw [lx] at lD D2
      refine ⟨.ref G, rfl, G, _, rfl, .inl ⟨SqL.of hG2, fun r nr => ?_⟩⟩
      have s3 := same_upd (o := HO.tup acc) nr
      exact q r _ DD (D2.same s3) (fr2.trans (Fr.of s3)) (.tup upd_same (tD2.same s3)) ⟨lD, fun g gt dd h1 h2 => shD g gt dd h1 h2⟩ okD

end
end Gk

set_option Elab.async false
set_option linter.all false
set_option maxRecDepth 100000
set_option maxHeartbeats 1000000
set_option pp.maxSteps 1500
set_option pp.deepTerms false
namespace Gk
open PySem PySem.Spec PyProof.Rows L2
section
variable {P : Program} {w : World} {K : PySem.W.Frag} {mg : Str → Option Value} {base : Heap}
/-- tuple * int, the int from 1 on: by 1 it is the tuple itself -/
theorem tuple_mul1 (l : Addr) (items : Array Value) (n : Nat) (dd : Option Addr) (sl : Array (Option Value)) (u : Tok) :
    Meets (Builtin.«tuple.__mul__» ⟨[.ref l, .int 1 u], []⟩) (fun _ R s => s.heap.get? l = some { cls := .type "tuple", dict := dd, data := .seq items n, slots := sl } ∧ R (.ok (.ret (Value.ref l))) s) :=
  .of_wp fun prog w A R s h => by
    obtain ⟨hp, g, d, tk, os⟩ := s
    obtain ⟨hl, h⟩ := h
    have f1 := AutoSeq1.idx_int
    have c1 : (items.isEmpty || (1 : Int) == 1) = true := by simp
    wp_walk using wpAny_loadPart' hl
    repeat (first
      | (refine wpAny_ite_false (decide_eq_false (by decide)) ?_; wp_walk using wpAny_loadPart' hl)
      | (refine wpAny_ite_true (decide_eq_true c1) ?_; wp_walk using wpAny_loadPart' hl))
    exact ⟨_, rfl, h⟩
def rRepT1 (K : PySem.W.Frag) : R2 := fun x y H Q => ∃ l k xs, x = .ref l ∧ y = .int k ∧ SqT K H l xs ∧ xs ≠ [] ∧ 1 ≤ k ∧ k ≤ 1000 ∧ xs.length ≤ 1000 ∧ (k = 1 → Q (.ref l) H) ∧ (2 ≤ k → ∀ p, H p = none → Q (.ref p) (upd H p (.tup (List.replicate k.toNat xs).flatten)))
theorem op_repT1 {X : Cx} : OpR X (binaryOp .Mult) (rRepT1 X.K) := by
  intro pins s σ H x y v u Q I rx ry h
  obtain ⟨l, k, xs, ex, ey, hT, full, one, most, few, q1, q2⟩ := h
  by_cases hk : k = 1
  · subst hk
    subst ex ey
    cases rx
    obtain ⟨tk, rfl⟩ := ry
    obtain ⟨its, r, ⟨ob, hob, hcl, c, hdt⟩, _⟩ := I.tuple hT
    obtain ⟨cls, dd, data, sl⟩ := ob
    cases (show cls = Value.type "tuple" from hcl)
    cases (show data = Data.seq its.toArray c from hdt)
    exact wpAny_binaryOp_repeat_ref (T := "tuple") (U := "int") (by decide) ⟨_, hob, rfl⟩ (fun z => typeIs_int z 1 tk) noFill_tuple_mul F.fills_int_mul F.slot_int_rmul repeat_tuple F.slot_int_index.lookup
      (call_meets F.slot_int_rmul (typeIs_int s 1 tk) F.entry_int_rmul (F.args_int_rmul_2 _ _) (int_rmul_tuple 1 tk l its.toArray c dd sl) ⟨hob, rfl, ⟨_, hob, rfl⟩,
        call_meets F.slot_tuple_mul ⟨_, hob, rfl⟩ F.entry_tuple_mul (F.args_tuple_mul_2 _ _) (tuple_mul1 l its.toArray c dd sl tk) ⟨hob, ⟨.ref l, H, I, rfl, q1 rfl⟩⟩⟩)
  · exact op_repT pins s σ H x y v u Q I rx ry ⟨l, k, xs, ex, ey, hT, full, by omega, most, few, q2 (by omega)⟩
theorem repA {K : PySem.W.Frag} {l : Addr} {xs : List V} {k : Int} {H : Hp} {Q : VK} (h : H l = some (.tup xs)) (ne : xs ≠ []) (k1 : 1 ≤ k) (k2 : k ≤ 1000) (hl : xs.length ≤ 1000) (q : ∀ p H', Same H H' → H' p = some (.tup (List.replicate k.toNat xs).flatten) → Q (.ref p) H') : rRepT1 K (.ref l) (.int k) H Q :=
  ⟨l, k, xs, rfl, rfl, SqT.of h, ne, k1, k2, hl, fun e => q l H (fun _ _ z => z) (by rw [h, e]; show _ = some (HO.tup (List.replicate 1 xs).flatten); simp), fun _ p np => q p _ (same_upd np) upd_same⟩

/-! ### delays that are all 0 -/
def nodD (gs : List Gt) : List (List Int) := gs.map fun gt => List.replicate gt.2.length 0
theorem row_new {H : Hp} {a : Addr} {r : List Int} (h : H a = some (.tup (r.map V.int))) : Tk H (.ref a) (rowD r) := .tup h (TkAll.ints r)
theorem rep_int (n : Nat) : (List.replicate ((n : Int)).toNat [V.int 0]).flatten = (List.replicate n (0 : Int)).map V.int := by
  rw [Int.toNat_natCast]
  induction n with
  | zero => rfl
  | succ n ih =>
    rw [List.replicate_succ, List.flatten_cons, ih, List.replicate_succ]
    rfl
def sp_no_delays (T : Tx K mg) : Sp := fun vs H Q _ => ∃ (nv : V) (m : Nat) (gs : List Gt), vs = [nv] ∧ Tk H nv (netD m gs) ∧ NetOk m gs ∧ gs.length ≤ 64 ∧ GxR.TabG H T.P_no_delays ∧ ∀ r H', Gr H H' → Tk H' (.ref r) (delsD (nodD gs)) → Q (.ref r) H'
theorem ok_no_delays (T : Tx K mg) (B : Tb base T) : FnOk P w K mg base CX0 2 T.f_no_delays T.fd_no_delays ["net"] (sp_no_delays T) := by
  refine okC T.F_no_delays sc_no_delays (fun vs H Q E h => ?_) (fun A outer s H vs Q E hr h => ?_)
  · obtain ⟨nv, m, gs, rfl, _⟩ := h
    rfl
  · obtain ⟨nv, m, gs, rfl, tn, okn, g64, tab, q⟩ := h
    refine ⟨_, (pss_one (ps_ret (pe_tupX (own := [("table", 1), ("ins", 2)]) (k := 0) (hr.mono (by decide)) rfl sc_no_delays.nd (by rfl) T.m_tuple (by decide +kernel) B.TB_no_delays T.cd_no_delays rfl rfl (by decide +kernel) (blkOk_by (own := [("table", 1), ("ins", 2)]) (N := ["net", "table", "ins"]) (sc := defScope s_no_delays) (by decide +kernel)) (pi_tup (pe_ix ix_tup (pv 0) pe_int (fun _ _ => rfl))) (fun _ _ _ _ _ _ _ hr gd => (show PG _ _ (gTup K 2 _) from pg_tup rfl (pgs_cons (pg_name (i := 1) sc_no_delays.nd rfl (by first | exact .inl rfl | exact .inr rfl)) (pgs_cons (pg_name (i := 2) sc_no_delays.nd rfl (by first | exact .inl rfl | exact .inr rfl)) pgs_nil)))) (fun _ _ _ _ _ _ _ hr gd => pts_nil) (fun _ _ _ _ _ _ _ hr gd => (pe_op (op_repT1 : OpR _ _ (rRepT1 K)) (pe_tup (pa_cons pe_int pa_nil)) (pe_callB (show CallR _ _ (rLenK K) from call_len_seq) (by rfl) T.m_len PySem.boot_len (pa_cons (pv 2) pa_nil)))) (fun _ => rfl)))), ?_⟩
    obtain ⟨n, g, xs, rfl, hn, hg, tg⟩ := tn.net_inv
    have lx : xs.length = gs.length := by rw [tg.length, List.length_map]
    refine ⟨.ref n, rfl, n, _, 1, .ref g, rfl, rfl, SqT.of hn, rfl, g, rfl, ⟨_, SqT.of hg⟩, tab, fun H2 tb2 => ?_⟩
    have g2 := Gr.tab tab tb2
    refine gx_tup (K := K) (a := g) (xs := xs) (fun i ys H' => Gr H H' ∧ TkAll H' ys ((gs.take i).map fun gt => rowD (List.replicate gt.2.length 0))) ⟨g2, .nil⟩ (fun i _ H' _ z => SqT.of (z.1.tup hg)) ?_ ?_
    · rintro i v ys H' hv ⟨gr, ta⟩
      obtain ⟨gt, hgt, tgt⟩ := tg.at hv
      obtain ⟨ga, ii, rfl, hga, hii⟩ := (tgt.gr gr).gt_inv
      obtain ⟨ok1, ok2, ok3, ok4⟩ := okn i gt hgt
      have hi := (List.getElem?_eq_some_iff.mp hgt).1
      refine ⟨ga, _, rfl, SqT.of hga, rfl, _, _, rfl, _, _, rfl, rfl, rfl, ?_⟩
      refine ⟨sl1, fun t nt => ?_⟩
      have s1 := same_upd (o := HO.tup [V.int 0]) nt
      refine ⟨.ref ii, rfl, ii, _, rfl, .inr (SqT.of (s1 _ _ hii)), ?_⟩
      rw [List.length_map, List.length_map]
      refine repA (k := ((gt.2.length : Nat) : Int)) upd_same (fun z => by cases z) (by omega) (by omega) (by decide) fun p H3 s3 hp => ?_
      rw [rep_int] at hp
      have sA := s1.trans s3
      refine ⟨?_, gr.trans (Gr.of sA), ?_⟩
      · have := ta.length
        rw [List.length_map, List.length_take] at this
        exact Nat.lt_of_lt_of_le (show ys.length < 100 by omega) (by decide)
      · rw [List.take_add_one, hgt]
        show TkAll _ _ ((gs.take i ++ [gt]).map _)
        rw [List.map_append]
        exact (ta.same sA).append (.cons (row_new hp) .nil)
    · rintro ys H' ⟨gr, ta⟩
      rw [lx, List.take_length] at ta
      have ly : ys.length = gs.length := by rw [ta.length, List.length_map]
      refine ⟨Nat.le_trans (show ys.length ≤ 64 by omega) (by decide), fun p np => ?_⟩
      refine q p _ (gr.trans (Gr.none np)) (.tup upd_same ?_)
      unfold nodD
      rw [List.map_map]
      exact ta.same (same_upd np)

end
end Gk

set_option Elab.async false
set_option linter.all false
set_option maxRecDepth 100000
set_option maxHeartbeats 1000000
set_option pp.maxSteps 1500
set_option pp.deepTerms false
namespace Gk
open PySem PySem.Spec PyProof.Rows L2
section
variable {P : Program} {w : World} {K : PySem.W.Frag} {mg : Str → Option Value} {base : Heap}
/-! ### enumerate(tuple) -/
theorem draws_tuple {P : Program} {w : World} {A : Around} (hA : A.handled = none) (it a : Addr) (items : Array Value) (hne : a ≠ it) : Draws P w A it [it, a] items.size (fun i v => items[i]? = some v) (fun i h => h.IsTupleIter it a i ∧ h.IsTuple a items) where
  live := fun _ _ st => let ⟨o, ho, _⟩ := st.1; ⟨o, ho⟩
  frame := fun _ _ _ st hk => ⟨st.1.at fun o e => hk it (by simp) o e, by
    obtain ⟨o, ho, r⟩ := st.2
    exact ⟨o, hk a (by simp) o ho, r⟩⟩
  item := fun i s Q E hi st hQ => by
    refine RZ.nextOf_tuple_item st.1 st.2 (x := items[i]) (by simp [hi]) fun h' hit' hs' => ?_
    refine hQ _ h' s.toks (by simp [hi]) ⟨hit', ?_⟩ hs'
    obtain ⟨o, ho, r⟩ := st.2
    exact ⟨o, hs'.extBut a o hne ho, r⟩
  done := fun s Q E st hE => RZ.nextOf_tuple_end hA st.1 st.2 (by simp) hE
open PySem.AutoSeq1 in
set_option maxHeartbeats 1000000 in
theorem meets_enumerate_newT (l : Addr) (items : Array Value) (o : Obj) (hc : o.cls = .type "tuple") (n : Nat) (hd : o.data = .seq items n) :
    Meets (Builtin.«enumerate.__new__» ⟨[.type "enumerate", .ref l], []⟩) (fun _ R s => s.heap.get? l = some o ∧
      R (.ok (.ret (.ref (s.heap.push { cls := .type "tuple_iterator", data := .fields #[.ref l, .int 0 0] }).objs.size)))
        { s with heap := (s.heap.push { cls := .type "tuple_iterator", data := .fields #[.ref l, .int 0 0] }).push { cls := .type "enumerate", data := .fields #[.none, .bool false, .ref s.heap.objs.size, rawInt 0, .none, .none] } }) :=
  .of_wp fun prog w A R s h => by
    obtain ⟨hp, g, d, tk, os⟩ := s; obtain ⟨hl, h⟩ := h
    have hsub := sub_enumerate
    have hL : Heap.IsTuple (Shared.heap ⟨hp, g, d, tk, os⟩) l items := ⟨_, hl, hc, n, hd⟩
    wp_walk using wpAny_loadPart' hl
    refine wpAny_stack_any fun st => wpAny_pure ?_
    split
    · rename_i c _ _ _ _ _
      cases (c == Value.type "enumerate")
      · wp_walk using wpAny_loadPart' hl, wpAny_pyIter_tuple hL
        exact ⟨_, rfl, h⟩
      · wp_walk using wpAny_loadPart' hl, wpAny_pyIter_tuple hL
        exact ⟨_, rfl, h⟩
    · wp_walk using wpAny_loadPart' hl, wpAny_pyIter_tuple hL
      exact ⟨_, rfl, h⟩
theorem call_enumerate_tuple {prog : Program} {w : World} {A : Around} {E : Value → Shared → Prop} {s : Shared} {l : Addr} {items : Array Value} {Q : Value → Shared → Prop} (hL : s.heap.IsTuple l items)
    (h : ∀ h', IsEnum h' (s.heap.objs.size + 1) s.heap.objs.size 0 .none → h'.IsTupleIter s.heap.objs.size l 0 → h'.objs.size = s.heap.objs.size + 2 →
      (∀ b o, s.heap.get? b = some o → h'.get? b = some o) → Q (.ref (s.heap.objs.size + 1)) { s with heap := h' }) :
    wpAny (model prog w) A (call (.type "enumerate") [.ref l]) Q E s := by
  obtain ⟨o, hl, hc, n, hd⟩ := hL
  refine callType_new F.called_enumerate (by decide) (F.typeCall_enumerate_1 _) (F.newCall_enumerate_1 _) (fun obj => F.args_object_init_2 obj _) F.entry_enumerate_new
    (meets_enumerate_newT l items o hc n hd) ⟨hl, ?_⟩
  have hz : (s.heap.push { cls := .type "tuple_iterator", data := .fields #[.ref l, .int 0 0] }).objs.size = s.heap.objs.size + 1 := Heap.size_push ..
  show _ ∧ _
  rw [hz]
  have he : IsEnum ((s.heap.push { cls := .type "tuple_iterator", data := .fields #[.ref l, .int 0 0] }).push
      { cls := .type "enumerate", data := .fields #[.none, .bool false, .ref s.heap.objs.size, rawInt 0, .none, .none] }) (s.heap.objs.size + 1) s.heap.objs.size 0 .none := by
    have := Heap.get?_push_size (s.heap.push { cls := .type "tuple_iterator", data := .fields #[.ref l, .int 0 0] })
      (o := { cls := .type "enumerate", data := .fields #[.none, .bool false, .ref s.heap.objs.size, rawInt 0, .none, .none] }) rfl
    rw [hz] at this; exact this
  refine ⟨⟨_, he, rfl⟩, h _ he ⟨_, Heap.get?_push_of_some _ (Heap.get?_push_size _ rfl), rfl, rfl⟩ (by rw [Heap.size_push, hz]) fun b o x => Heap.get?_push_of_some _ (Heap.get?_push_of_some _ x)⟩
/-- the tuple at a, each item in a new pair -/
def IteT (K : PySem.W.Frag) (a : Addr) : It :=
  ⟨fun i H => ∃ (xs : List V) (x : V), SqT K H a xs ∧ xs[i]? = some x, fun i H v H' => ∃ T x, v = .ref T ∧ H T = none ∧ H' = upd H T (.tup [.int (i : Nat), x]) ∧ ∀ xs, SqT K H a xs → xs[i]? = some x, fun i H => ∃ xs : List V, SqT K H a xs ∧ xs.length = i⟩
theorem turn_enumT {P : Program} {w : World} {K : PySem.W.Frag} {elts : List Expr} {kk : Nat} {tpos : Pos} (a e it : Addr) :
    Turn P w K (.Tuple elts kk tpos) (IteT K a) [e, it] e (fun i h => (∃ old, IsEnum h e it ((i : Nat) : Int) old) ∧ h.IsTupleIter it a i ∧ e ≠ it) where
  mem := by simp
  obj := fun i h st b hb => by
    obtain ⟨⟨old, he⟩, ⟨o, ho, hc, hd⟩, _⟩ := st
    have e' : b = e ∨ b = it := by simpa using hb
    rcases e' with z | z
    · rw [z]; exact ⟨_, he, fun v q => nomatch q⟩
    · rw [z]; exact ⟨o, ho, fun v q => by rw [hd] at q; cases q⟩
  keep := fun i h h' st k => let ⟨⟨old, he⟩, hi, hne⟩ := st; ⟨⟨old, k e (by simp) _ he⟩, hi.at fun o q => k it (by simp) o q, hne⟩
  item := by
    intro X hP hw hK hc i pins s σ H E I hf st hg
    subst hP hw hK
    obtain ⟨⟨old, he⟩, hit, hne⟩ := st
    obtain ⟨xs, x, hq, hx⟩ := hg
    obtain ⟨its, rv, p, hz⟩ := I.tuple hq
    obtain ⟨u, hu, ru⟩ := rv.get hx
    have hel : e < s.heap.objs.size := Heap.lt_size he
    have hil : it < s.heap.objs.size := by obtain ⟨_, q, _⟩ := hit; exact Heap.lt_size q
    have hpt : s.heap.IsTuple a its.toArray := p
    have hai : a ≠ it := fun z => by
      obtain ⟨o1, h1, c1, _⟩ := hpt
      obtain ⟨o2, h2, c2, _⟩ := hit
      rw [z, h2] at h1
      cases h1
      rw [c2] at c1
      exact absurd (Value.type.inj c1) (by decide)
    have hae : e ≠ a := fun z => by
      obtain ⟨o1, h1, c1, _⟩ := hpt
      rw [← z, he] at h1
      cases h1
      exact absurd (Value.type.inj c1) (by decide)
    have hil2 : i < its.toArray.size := by
      rw [List.size_toArray]
      exact (List.getElem?_eq_some_iff.mp hu).1
    refine wpAny_pyNext_enum_itemD (draws_tuple (A := X.A.in1) (I.ok.hd hc) it a its.toArray hai) he ⟨hit, hpt⟩ hil2 hne (by simp only [List.mem_cons, List.not_mem_nil, or_false, not_or]; exact ⟨hne, hae⟩) fun y h' tk hy ho hst hT hsz hk => ?_
    have hyu : y = u := by
      have : its[i]? = some y := by simpa using hy
      rw [hu] at this
      exact (Option.some.inj this).symm
    subst hyu
    have hit' := hst.1
    refine ⟨_, rfl, wpAny_letOwnedTupleGo_enum (s := { s with heap := h', toks := tk + 1 }) ho fun h'' he' sb => ?_⟩
    have hT2 : h''.get? s.heap.objs.size = some { cls := .type "tuple", data := .seq #[.int i tk, y] } := (sb.2 _ (Nat.ne_of_gt hel)).trans hT
    have new : ObjOk X.prog X.w (upd H s.heap.objs.size (.tup [.int (i : Nat), x])) h'' s.heap.objs.size (.tup [.int (i : Nat), x]) :=
      ⟨by show 2 ≤ sizeLine; decide, [.int i tk, y], .cons ⟨_, rfl⟩ (.cons ru .nil), ⟨_, hT2, rfl, _, rfl⟩⟩
    have I1 : Inv X pins σ (upd H s.heap.objs.size (.tup [.int (i : Nat), x])) { s with heap := h'', toks := tk + 1 } :=
      I.turnedNew (ch := [e, it]) (fun b ob hb q => (sb.2 b (fun z => hb (by simp [z]))).trans (hk b ob (fun z => hb (by simp [z])) (fun z => hb (by simp [z])) q)) hf (Nat.le_refl _) new
    refine ⟨.ref s.heap.objs.size, _, I1, rfl, ⟨_, x, rfl, I.hok.fresh (Nat.le_refl _), rfl, fun ys hy => by rw [I.tuple_inj hy hq]; exact hx⟩, ⟨⟨y, ?_⟩, hit'.at fun o q => (sb.2 it (Ne.symm hne)).trans q, hne⟩, fun b hb => ?_⟩
    · have e1 : ((i + 1 : Nat) : Int) = (i : Int) + 1 := by omega
      rw [e1]; exact he'
    · have hb' : b < s.heap.objs.size := by
        have e' : b = e ∨ b = it := by simpa using hb
        rcases e' with z | z
        · rw [z]; exact hel
        · rw [z]; exact hil
      rw [upd_ne (Nat.ne_of_lt hb')]
      exact (hf b hb).1
  done := by
    intro X hP hw hK hc i pins s σ H E I hf st hg
    subst hP hw hK
    obtain ⟨⟨old, he⟩, hit, hne⟩ := st
    obtain ⟨xs, hq, hx⟩ := hg
    obtain ⟨its, rv, p, hz⟩ := I.tuple hq
    obtain ⟨f0, f1, f2, f3, f4, f5⟩ := hf it (by simp)
    have hl := rv.length
    have hpt : s.heap.IsTuple a its.toArray := p
    have hai : a ≠ it := fun z => by
      obtain ⟨o1, h1, c1, _⟩ := hpt
      obtain ⟨o2, h2, c2, _⟩ := hit
      rw [z, h2] at h1
      cases h1
      rw [c2] at c1
      exact absurd (Value.type.inj c1) (by decide)
    have hn : i = its.toArray.size := by rw [List.size_toArray]; omega
    exact wpAny_pyNext_enum_endD (draws_tuple (A := X.A.in1) (I.ok.hd hc) it a its.toArray hai) he (by rw [← hn]; exact ⟨hit, hpt⟩) fun h' eb => ⟨rfl, I.turned (t' := s.toks) (fun b o hb q => eb b o hb q) f0 f1 f3 f4 f5⟩
  self := fun A i s Q E st h => let ⟨⟨_, he⟩, _⟩ := st; wpAny_pyIter_enum he h
def iEnumT (K : PySem.W.Frag) (ta : TA) : TI := fun σ H R => ta σ H fun vs H1 => ∃ a xs, vs = [.ref a] ∧ SqT K H1 a xs ∧ R (IteT K a) H1
theorem pi_enumT {X : Cx} {e : Expr} {ta : TA} {p pos tpos : Pos} {elts : List Expr} {kk : Nat} (hg : Gl X "enumerate") (hm : X.mg "enumerate" = none) (ha : PA X [e] ta) (hs : starEach [e] X.env = [(false, eval e X.env)] := by rfl) :
    PI X (.Tuple elts kk tpos) (.Call (.Name "enumerate" p) [e] [] pos) (iEnumT X.K ta) := by
  refine ⟨fun pins s σ H R I h => ?_⟩
  refine Call_ (ld_blt I hg hm boot_enumerate (PyProof.Rows.callWith_type1 (thn (ha.run pos pins s σ H _ I h) fun us s1 ⟨vs, H1, I1, r1, q1⟩ => ?_) hs rfl))
  obtain ⟨a, xs, ex, hq, q⟩ := q1
  subst ex
  cases r1 with
  | cons r rr =>
    cases rr
    cases r
    obtain ⟨its, rv, p', hz⟩ := I1.tuple hq
    refine call_enumerate_tuple p' fun h' he hit hsz hk => wpAny_pyIter_enum he ?_
    have I2 : Inv X pins σ H1 { s1 with heap := h' } := I1.kept (t' := s1.toks) hk
    refine ⟨s1.heap.objs.size + 1, [s1.heap.objs.size + 1, s1.heap.objs.size], _, _, H1, rfl, I2, turn_enumT a (s1.heap.objs.size + 1) s1.heap.objs.size, ⟨⟨.none, he⟩, hit, Nat.succ_ne_self _⟩, fun b hb => ?_, q⟩
    have e' : b = s1.heap.objs.size + 1 ∨ b = s1.heap.objs.size := by simpa using hb
    have hle : s1.heap.objs.size ≤ b := by
      rcases e' with z | z
      · rw [z]; exact Nat.le_add_right _ _
      · rw [z]; exact Nat.le_refl _
    exact I1.fpOk hle (I1.hok.fresh hle)
theorem gx_enum {α : Type} {K : PySem.W.Frag} {a : Addr} {xs : List V} {g : TG} {tt : TT} {te : TE} {vs : List Nat} {σ0 : L2.St} {End : α → Hp → Prop} {Yd : α → V → Hp → (α → Hp → Prop) → Prop} {a0 : α} {H0 : Hp} (Pv : Nat → α → Hp → Prop) (h0 : Pv 0 a0 H0)
    (hl : ∀ i c H, i ≤ xs.length → Pv i c H → SqT K H a xs)
    (hs : ∀ i x T c H, xs[i]? = some x → H T = none → Pv i c H → g (.ref T) σ0 (upd H T (.tup [.int (i : Nat), x])) fun σ2 H2 => wipe σ2 vs = σ0 ∧ tt σ2 H2 fun b H3 => if b = true then te σ2 H3 fun y H4 => Yd c y H4 (Pv (i + 1)) else Pv (i + 1) c H3) (hd : ∀ c H, Pv xs.length c H → End c H) :
    ∃ W : Nat → Nat → α → Hp → Prop, (∃ m, W 0 m a0 H0) ∧ tGx (IteT K a) g tt te σ0 vs End Yd W := by
  refine ⟨fun i m c H => m = xs.length - i ∧ i ≤ xs.length ∧ Pv i c H, ⟨xs.length, rfl, Nat.zero_le _, h0⟩, ?_⟩
  rintro i m c H ⟨rfl, hi, p⟩
  by_cases hlt : i < xs.length
  · have hx : xs[i]? = some xs[i] := List.getElem?_eq_getElem hlt
    refine .inr ⟨⟨xs, xs[i], hl i c H hi p, hx⟩, Pv (i + 1), fun c' H' p' => ⟨xs.length - (i + 1), by omega, rfl, hlt, p'⟩, fun x H' y => ?_⟩
    obtain ⟨T, x1, rfl, nT, rfl, e1⟩ := y
    exact hs i x1 T c H (e1 xs (hl i c _ hi p)) nT p
  · have e : i = xs.length := by omega
    subst e
    exact .inl ⟨⟨xs, hl _ c H hi p, rfl⟩, hd c H p⟩
theorem gx_str {α : Type} {z : Str} {g : TG} {tt : TT} {te : TE} {vs : List Nat} {σ0 : L2.St} {End : α → Hp → Prop} {Yd : α → V → Hp → (α → Hp → Prop) → Prop} {a0 : α} {H0 : Hp} (Pv : Nat → α → Hp → Prop) (h0 : Pv 0 a0 H0)
    (hs : ∀ i x c H, z.cps[i]? = some x → Pv i c H → g (.str ⟨#[x]⟩) σ0 H fun σ2 H2 => wipe σ2 vs = σ0 ∧ tt σ2 H2 fun b H3 => if b = true then te σ2 H3 fun y H4 => Yd c y H4 (Pv (i + 1)) else Pv (i + 1) c H3) (hd : ∀ c H, Pv z.cps.size c H → End c H) :
    ∃ W : Nat → Nat → α → Hp → Prop, (∃ m, W 0 m a0 H0) ∧ tGx (Its z) g tt te σ0 vs End Yd W := by
  refine ⟨fun i m c H => m = z.cps.size - i ∧ i ≤ z.cps.size ∧ Pv i c H, ⟨z.cps.size, rfl, Nat.zero_le _, h0⟩, ?_⟩
  rintro i m c H ⟨rfl, hi, p⟩
  by_cases hlt : i < z.cps.size
  · refine .inr ⟨hlt, Pv (i + 1), fun c' H' p' => ⟨z.cps.size - (i + 1), by omega, rfl, hlt, p'⟩, fun x H' y => ?_⟩
    obtain ⟨rfl, ch, hc, rfl⟩ := y
    exact hs i ch c _ hc p
  · have e : i = z.cps.size := by omega
    subst e
    exact .inl ⟨Nat.le_refl _, hd c H p⟩

/-! ### the readings of a net: two fors in one generator expression -/
def insAt (gs : List Gt) (i : Nat) : Nat := match gs[i]? with
  | some g => g.2.length
  | none => 0
def rdRow (gs : List Gt) (i : Nat) : List (List Int) := (List.range (insAt gs i)).map fun p => [(i : Int), (p : Nat)]
def rdTo (gs : List Gt) (i : Nat) : List (List Int) := ((List.range i).map (rdRow gs)).flatten
theorem rdTo_succ (gs : List Gt) (i : Nat) : rdTo gs (i + 1) = rdTo gs i ++ rdRow gs i := by
  unfold rdTo
  rw [List.range_succ, List.map_append, List.flatten_append]
  simp
theorem rdRow_take {gs : List Gt} {i k : Nat} (h : k < insAt gs i) : (rdRow gs i).take (k + 1) = (rdRow gs i).take k ++ [[(i : Int), (k : Nat)]] := by
  unfold rdRow
  rw [List.take_add_one, List.getElem?_map, List.getElem?_range h]
  rfl
theorem rdRow_len (gs : List Gt) (i : Nat) : (rdRow gs i).length = insAt gs i := by
  unfold rdRow
  rw [List.length_map, List.length_range]
theorem insAt_3 {m : Nat} {gs : List Gt} (okn : NetOk m gs) (i : Nat) : insAt gs i ≤ 3 := by
  unfold insAt
  cases e : gs[i]? with
  | none => exact Nat.zero_le _
  | some g => exact (okn i g e).2.2.1
theorem rdTo_len {m : Nat} {gs : List Gt} (okn : NetOk m gs) : ∀ i, (rdTo gs i).length ≤ 3 * i
  | 0 => Nat.le_refl _
  | i + 1 => by
    rw [rdTo_succ, List.length_append, rdRow_len]
    have := rdTo_len okn i
    have := insAt_3 okn i
    omega
def sp_readings_of (T : Tx K mg) : Sp := fun vs H Q _ => ∃ (nv : V) (m : Nat) (gs : List Gt), vs = [nv] ∧ Tk H nv (netD m gs) ∧ NetOk m gs ∧ gs.length ≤ 64 ∧ GxR.TabG H T.P_readings_of ∧ ∀ r H', Gr H H' → Tk H' (.ref r) (delsD (rdTo gs gs.length)) → Q (.ref r) H'
theorem ok_readings_of (T : Tx K mg) (B : Tb base T) : FnOk P w K mg base CX0 2 T.f_readings_of T.fd_readings_of ["net"] (sp_readings_of T) := by
  refine okC T.F_readings_of sc_readings_of (fun vs H Q E h => ?_) (fun A outer s H vs Q E hr h => ?_)
  · obtain ⟨nv, m, gs, rfl, _⟩ := h
    rfl
  · obtain ⟨nv, m, gs, rfl, tn, okn, g64, tab, q⟩ := h
    refine ⟨_, (pss_one (ps_ret (pe_tupX2 (own := [("gate", 1), ("table", 2), ("ins", 3), ("place", 4)]) (vs2 := [4]) (k := 0) (hr.mono (by decide)) rfl sc_readings_of.nd (by rfl) T.m_tuple (by decide +kernel) B.TB_readings_of T.cd_readings_of rfl rfl (by decide +kernel) (blkOk_by (own := [("gate", 1), ("table", 2), ("ins", 3), ("place", 4)]) (N := ["net", "gate", "table", "ins", "place"]) (sc := defScope s_readings_of) (by decide +kernel)) (pi_enumT (by rfl) T.m_enumerate (pa_cons (pe_ix ix_tup (pv 0) pe_int (fun _ _ => rfl)) pa_nil)) (fun _ _ _ _ _ _ _ hr gd => (show PG _ _ (gTup K 2 _) from pg_tup rfl (pgs_cons (pg_name (i := 1) sc_readings_of.nd rfl (by first | exact .inl rfl | exact .inr rfl)) (pgs_cons (show PG _ _ (gTup K 2 _) from pg_tup rfl (pgs_cons (pg_name (i := 2) sc_readings_of.nd rfl (by first | exact .inl rfl | exact .inr rfl)) (pgs_cons (pg_name (i := 3) sc_readings_of.nd rfl (by first | exact .inl rfl | exact .inr rfl)) pgs_nil))) pgs_nil)))) (fun _ _ _ _ _ _ _ hr gd => (pi_range1 (by rfl) T.m_range (pa_cons (pe_callB (show CallR _ _ (rLenK K) from call_len_seq) (by rfl) T.m_len PySem.boot_len (pa_cons (pv 3) pa_nil)) pa_nil))) (fun _ _ _ _ _ _ _ hr gd => (pg_name (i := 4) sc_readings_of.nd rfl (by first | exact .inl rfl | exact .inr rfl))) (fun _ _ _ _ _ _ _ hr gd => (pe_tup (pa_cons (pv 1) (pa_cons (pv 4) pa_nil)))) (fun _ => rfl) (fun _ _ => rfl)))), ?_⟩
    obtain ⟨n, g, xs, rfl, hn, hg, tg⟩ := tn.net_inv
    have lx : xs.length = gs.length := by rw [tg.length, List.length_map]
    refine ⟨.ref n, rfl, n, _, 1, .ref g, rfl, rfl, SqT.of hn, rfl, g, xs, rfl, SqT.of hg, tab, fun H2 tb2 => ?_⟩
    have g2 := Gr.tab tab tb2
    refine ⟨fun i m c H' => m = (gs.length - i) * 8 ∧ i ≤ gs.length ∧ Gr H H' ∧ TkAll H' c ((rdTo gs i).map rowD), ⟨_, rfl, Nat.zero_le _, g2, .nil⟩, ?_⟩
    rintro i m' c H3 ⟨rfl, hi, g3, tc⟩
    by_cases hlt : i < gs.length
    · have hx : xs[i]? = some (xs[i]'(by omega)) := List.getElem?_eq_getElem _
      refine .inr ⟨⟨xs, _, SqT.of (g3.tup hg), hx⟩, fun x H' y => ?_⟩
      obtain ⟨T', x1, rfl, nT, rfl, e1⟩ := y
      have hx1 := e1 xs (SqT.of (g3.tup hg))
      obtain ⟨gt, hgt, tgt⟩ := tg.at hx1
      have g4 := g3.trans (Gr.none (o := .tup [.int (i : Nat), x1]) nT)
      have hT : upd H3 T' (.tup [.int (i : Nat), x1]) T' = some (.tup [.int (i : Nat), x1]) := upd_same
      have tc4 := tc.same (same_upd (o := HO.tup [.int (i : Nat), x1]) nT)
      revert g4 hT tc4
      generalize upd H3 T' (.tup [.int (i : Nat), x1]) = H4
      intro g4 hT tc4
      obtain ⟨ga, ii, rfl, hga, hii⟩ := (tgt.gr g4).gt_inv
      have ei : insAt gs i = gt.2.length := by unfold insAt; rw [hgt]
      have i3 := insAt_3 okn i
      refine ⟨T', _, rfl, SqT.of hT, rfl, _, _, rfl, _, _, rfl, ga, _, rfl, SqT.of hga, rfl, _, _, rfl, _, _, rfl, rfl, rfl, rfl, ?_⟩
      refine ⟨.ref ii, rfl, ii, _, rfl, .inr (SqT.of hii), ?_⟩
      rw [List.length_map, List.length_map, ← ei]
      refine ⟨(insAt gs i : Nat), rfl, by omega, by omega, ?_⟩
      rw [Int.toNat_natCast]
      refine ⟨fun k m2 c H' => m2 = (gs.length - (i + 1)) * 8 + (insAt gs i - k) + 1 ∧ k ≤ insAt gs i ∧ Gr H H' ∧ TkAll H' c ((rdTo gs i ++ (rdRow gs i).take k).map rowD), ⟨_, by omega, rfl, Nat.zero_le _, g4, by rw [List.take_zero, List.append_nil]; exact tc4⟩, ?_⟩
      rintro k m2 c5 H5 ⟨rfl, hk, g5, tc5⟩
      by_cases hkt : k < insAt gs i
      · refine .inr ⟨hkt, fun x H' y => ?_⟩
        obtain ⟨e, y⟩ := y
        subst e y
        refine ⟨rfl, .int (i : Nat), rfl, .int (0 + (k : Nat)), rfl, sl2, fun p np H6 s6 => ⟨?_, _, ?_, rfl, hkt, g5.trans (Gr.none np), ?_⟩⟩
        · have := tc5.length
          have h3 := rdTo_len okn i
          have h4 := rdRow_len gs i
          rw [List.length_map, List.length_append, List.length_take] at this
          exact Nat.lt_of_lt_of_le (show _ < 1000 by omega) (by decide)
        · omega
        · rw [rdRow_take hkt, ← List.append_assoc, List.map_append]
          refine (tc5.same (same_upd np)).append (.cons ?_ .nil)
          rw [show (0 : Int) + (k : Nat) = (k : Nat) by omega]
          exact row_new (r := [(i : Int), (k : Nat)]) upd_same
      · have e : k = insAt gs i := by omega
        subst e
        refine .inl ⟨Nat.le_refl _, _, ?_, rfl, hlt, g5, ?_⟩
        · omega
        · rw [rdTo_succ]
          rw [List.take_of_length_le (by rw [rdRow_len]; exact Nat.le_refl _)] at tc5
          exact tc5
    · have e : i = gs.length := by omega
      subst e
      refine .inl ⟨⟨xs, SqT.of (g3.tup hg), by omega⟩, ?_, fun p np => ?_⟩
      · have := tc.length
        have h3 := rdTo_len okn gs.length
        rw [List.length_map] at this
        exact Nat.le_trans (show _ ≤ 1000 by omega) (by decide)
      · exact q p _ (g3.trans (Gr.none np)) (.tup upd_same (tc.same (same_upd np)))

end
end Gk

set_option Elab.async false
set_option linter.all false
set_option maxRecDepth 100000
set_option maxHeartbeats 1000000
set_option pp.maxSteps 1500
set_option pp.deepTerms false
namespace Gk
open PySem PySem.Spec PyProof.Rows L2
section
variable {P : Program} {w : World} {K : PySem.W.Frag} {mg : Str → Option Value} {base : Heap}
/-! ### the law's own judge of delays -/
theorem len_neN (a b : Nat) : (!decide (V.int (a : Int) = V.int (b : Int))) = !decide (a = b) := by
  congr 1
  by_cases h : a = b
  · rw [decide_eq_true h, h]; exact decide_eq_true rfl
  · rw [decide_eq_false h]; exact decide_eq_false fun z => h (by have := V.int.inj z; omega)
theorem len_eqN (a b : Nat) : decide (V.int (a : Int) = V.int (b : Int)) = decide (a = b) := by
  by_cases h : a = b
  · rw [decide_eq_true h, h]; exact decide_eq_true rfl
  · rw [decide_eq_false h]; exact decide_eq_false fun z => h (by have := V.int.inj z; omega)
theorem atI_0 {xs : List V} {j : Nat} {x : V} (h : xs[j]? = some x) : atI xs (0 + (j : Nat)) = some x := by
  have hl := (List.getElem?_eq_some_iff.mp h).1
  unfold atI
  rw [show (0 : Int) + (j : Nat) = (j : Nat) by omega]
  unfold ixN
  rw [if_pos (by omega), if_pos (by omega)]
  exact h
def sp_is (K : PySem.W.Frag) : Sp := fun vs H Q _ => ∃ (m : Nat) (gs : List Gt) (n v : V) (d : PyData), vs = [n, v] ∧ Tk H n (netD m gs) ∧ Sh H v d ∧ gs.length ≤ 100 ∧ Q (.bl (delaysD gs d)) H
theorem ok_is (T : Tx K mg) : FnOk P w K mg base CX0 1 T.f_is T.fd_is ["_law_net_here", "_law_thing"] (sp_is K) := by
  refine T.F_is.ok sc_is (fun vs H Q E h => ?_) (fun cdv A outer s H vs Q E hr h => ?_)
  · obtain ⟨m, gs, n, v, d, rfl, _⟩ := h
    rfl
  · obtain ⟨m, gs, n, v, d, rfl, tn, sh, g100, q⟩ := h
    refine ⟨_, (pss_cons (ps_if (pw_or (pt_not (pt_val (pe_callB call_isi (by rfl) T.m_isinstance (by decide +kernel) (pa_cons (pv 1) (pa_cons (pe_bltn (v := .ty "tuple") (u := .type "tuple") (by rfl) T.m_tuple (by decide +kernel) rfl) pa_nil))))) (pw_or1 (pt_cmpR op_ne (pe_callB call_len_seq (by rfl) T.m_len PySem.boot_len (pa_cons (pv 1) pa_nil)) (pe_callB call_len_seq (by rfl) T.m_len PySem.boot_len (pa_cons (pe_ix ix_tup (pv 0) pe_int (fun _ _ => rfl)) pa_nil)) (nomark _)))).pt (pss_one (ps_ret pe_bl)) pss_nil) (pss_cons (ps_for PassesOwn.never rfl (pi_range1 (by rfl) T.m_range (pa_cons (pe_callB call_len_seq (by rfl) T.m_len PySem.boot_len (pa_cons (pv 1) pa_nil)) pa_nil)) (pg_name (i := 2) sc_is.nd rfl (by first | exact .inl rfl | exact .inr rfl)) (pss_cons (ps_if (pw_or (pt_not (pt_val (pe_callB call_isi (by rfl) T.m_isinstance (by decide +kernel) (pa_cons (pe_ix ix_tup (pv 1) (pv 2) (fun _ _ => rfl)) (pa_cons (pe_bltn (v := .ty "tuple") (u := .type "tuple") (by rfl) T.m_tuple (by decide +kernel) rfl) pa_nil))))) (pw_or1 (pt_cmpR op_ne (pe_callB call_len_seq (by rfl) T.m_len PySem.boot_len (pa_cons (pe_ix ix_tup (pv 1) (pv 2) (fun _ _ => rfl)) pa_nil)) (pe_callB call_len_seq (by rfl) T.m_len PySem.boot_len (pa_cons (pe_ix ix_tup (pe_ix ix_tup (pe_ix ix_tup (pv 0) pe_int (fun _ _ => rfl)) (pv 2) (fun _ _ => rfl)) pe_int (fun _ _ => rfl)) pa_nil)) (nomark _)))).pt (pss_one (ps_ret pe_bl)) pss_nil) (pss_one (ps_for PassesOwn.never rfl (pi_tup (pe_ix ix_tup (pv 1) (pv 2) (fun _ _ => rfl))) (pg_name (i := 3) sc_is.nd rfl (by first | exact .inl rfl | exact .inr rfl)) (pss_one (ps_if (pw_or (pt_val (pe_callB call_isi (by rfl) T.m_isinstance (by decide +kernel) (pa_cons (pv 3) (pa_cons (pe_bltn (v := .ty "bool") (u := .type "bool") (by rfl) T.m_bool (by decide +kernel) rfl) pa_nil)))) (pw_or (pt_not (pt_val (pe_callB call_isi (by rfl) T.m_isinstance (by decide +kernel) (pa_cons (pv 3) (pa_cons (pe_bltn (v := .ty "int") (u := .type "int") (by rfl) T.m_int (by decide +kernel) rfl) pa_nil))))) (pw_or1 (pt_cmpR op_lt (pv 3) pe_int (nomark _))))).pt (pss_one (ps_ret pe_bl)) pss_nil)))))) (pss_one (ps_ret pe_bl)))), ?_⟩
    obtain ⟨na, ga, gx, rfl, hn, hg, tgx⟩ := tn.net_inv
    have lg : gx.length = gs.length := by rw [tgx.length, List.length_map]
    refine ⟨v, rfl, _, _, _, _, _, rfl, .ty _, sh.ty, kit_ty (kitTup d), _, rfl, ite2 (fun e => ?_) (fun e => ?_)⟩
    · rw [delays_not (notT e)] at q
      exact q
    obtain ⟨ds, rfl⟩ := tup_of (notF e)
    cases sh with
    | @tup a xs _ h tx =>
      have lx := tx.length
      refine ⟨.ref a, rfl, a, xs, rfl, .inr (SqT.of h), .ref na, rfl, na, _, 1, .ref ga, rfl, rfl, SqT.of hn, rfl, ga, _, rfl, .inr (SqT.of hg), rfl, _, rfl, ?_⟩
      rw [len_neN, lx, lg]
      refine ite2 (fun e1 => ?_) (fun e1 => ?_)
      · have : delaysD gs (.tuple ds) = false := by
          show (decide (ds.length = gs.length) && _) = false
          rw [decide_eq_false (of_decide_eq_false (by simpa using e1)), Bool.false_and]
        rw [this] at q
        exact q
      have l2 : ds.length = gs.length := of_decide_eq_true (notF e1)
      have val : delaysD gs (.tuple ds) = (gs.zip ds).all fun z => gateDelD z.1.2.length z.2 := by
        show (decide (ds.length = gs.length) && _) = _
        rw [decide_eq_true l2, Bool.true_and]
      rw [val] at q
      refine ⟨.ref a, rfl, a, xs, rfl, .inr (SqT.of h), _, rfl, by omega, by omega, ?_⟩
      rw [Int.toNat_natCast, lx]
      refine for_range (lo := 0) (n := ds.length) (fun j σ H' => ∃ y2 y3, σ = [some (.ref na), some (.ref a), y2, y3] ∧ H' = H ∧ ((gs.zip ds).take j).all (fun z => gateDelD z.1.2.length z.2) = true) ⟨_, _, rfl, rfl, rfl⟩ ?_ ?_
      · rintro j σ H' hj ⟨y2, y3, rfl, rfl, ih⟩
        have hx : xs[j]? = some (xs[j]'(by omega)) := List.getElem?_eq_getElem _
        have hgx : gx[j]? = some (gx[j]'(by omega)) := List.getElem?_eq_getElem _
        revert hx hgx
        generalize xs[j]'(by omega) = x
        generalize gx[j]'(by omega) = y
        intro hx hgx
        obtain ⟨g, hgj, tgt⟩ := tgx.at hgx
        obtain ⟨e0, he0, te0⟩ := tx.get hx
        obtain ⟨wa, wi, rfl, hw, hwi⟩ := tgt.gt_inv
        have hz : (gs.zip ds)[j]? = some (g, e0) := by
          rw [List.getElem?_zip_eq_some]
          exact ⟨hgj, he0⟩
        have no : gateDelD g.2.length e0 = false → Q (.bl false) H' := fun z => by
          rw [all_stop hz (by rw [z]; exact Bool.false_ne_true)] at q
          exact q
        refine ⟨.ref a, rfl, .int (0 + (j : Nat)), rfl, a, _, _, x, rfl, rfl, SqT.of h, atI_0 hx, _, _, _, _, _, rfl, .ty _, te0.ty, kit_ty (kitTup e0), _, rfl, ite2 (fun e6 => no (gateDel_not (notT e6))) (fun e6 => ?_)⟩
        obtain ⟨es, rfl⟩ := tup_of (notF e6)
        cases te0 with
        | @tup b ys _ hb ty =>
          have ly := ty.length
          refine ⟨.ref a, rfl, .int (0 + (j : Nat)), rfl, a, _, _, .ref b, rfl, rfl, SqT.of h, atI_0 hx, b, ys, rfl, .inr (SqT.of hb), .ref na, rfl, na, _, 1, .ref ga, rfl, rfl, SqT.of hn, rfl, .int (0 + (j : Nat)), rfl, ga, _, _, .ref wa, rfl, rfl, SqT.of hg, atI_0 hgx, wa, _, 1, .ref wi, rfl, rfl, SqT.of hw, rfl, wi, _, rfl, .inr (SqT.of hwi), rfl, _, rfl, ?_⟩
          rw [len_neN, List.length_map, List.length_map, ly]
          have vg : gateDelD g.2.length (.tuple es) = (decide (es.length = g.2.length) && es.all timeD) := rfl
          refine ite2 (fun e7 => no (by rw [vg, decide_eq_false (of_decide_eq_false (by simpa using e7)), Bool.false_and])) (fun e7 => ?_)
          have l7 : es.length = g.2.length := of_decide_eq_true (notF e7)
          rw [decide_eq_true l7, Bool.true_and] at vg
          refine ⟨.ref a, rfl, .int (0 + (j : Nat)), rfl, a, _, _, .ref b, rfl, rfl, SqT.of h, atI_0 hx, b, rfl, ⟨_, SqT.of hb⟩, for_tup (K := K) (a := b) (xs := ys) (fun i σ G => ∃ y3, σ = [some (.ref na), some (.ref a), some (.int (0 + (j : Nat))), y3] ∧ G = H' ∧ (es.take i).all timeD = true) ⟨_, rfl, rfl, rfl⟩ (fun i σ G _ z => by obtain ⟨_, _, rfl, _⟩ := z; exact SqT.of hb) ?_ ?_⟩
          · rintro i x σ G hxi ⟨y3, rfl, rfl, ihi⟩
            obtain ⟨e1, he1, te1⟩ := ty.get hxi
            have no1 : ¬ timeD e1 = true → Q (.bl false) G := fun z => no (by rw [vg]; exact all_stop he1 z)
            refine ⟨x, rfl, _, _, _, _, _, rfl, .ty _, te1.ty, kit_ty (kitBool e1), _, rfl, ite2 (fun z => no1 (by cases e1 <;> first | (intro k; cases k; done) | cases z)) (fun z => ?_)⟩
            refine ⟨x, rfl, _, _, _, _, _, rfl, .ty _, te1.ty, kit_ty (kitInt e1), _, rfl, ite2 (fun z2 => no1 (by cases e1 <;> first | (intro k; cases k; done) | cases z2)) (fun z2 => ?_)⟩
            obtain ⟨u, rfl⟩ : ∃ u, e1 = .int u := by cases e1 <;> first | exact ⟨_, rfl⟩ | exact absurd rfl z | exact absurd rfl z2
            cases te1
            refine ⟨.int u, rfl, _, _, rfl, rfl, _, rfl, ite2 (fun z3 => no1 fun k => ?_) (fun z3 => ⟨_, rfl, rfl, all_take he1 ihi (decide_eq_true (Int.not_lt.mp fun k => z3 (decide_eq_true k)))⟩)⟩
            have k1 : 0 ≤ u := of_decide_eq_true k
            have k2 : u < 0 := of_decide_eq_true z3
            omega
          · rintro σ G ⟨y3, rfl, rfl, ihi⟩
            rw [ly, List.take_length] at ihi
            exact ⟨_, _, rfl, rfl, all_take hz ih (by rw [vg]; exact ihi)⟩
      · rintro σ H' ⟨y2, y3, rfl, rfl, ih⟩
        rw [List.take_of_length_le (by rw [List.length_zip]; omega)] at ih
        rw [ih] at q
        exact q

end
end Gk

set_option Elab.async false
set_option linter.all false
set_option maxRecDepth 100000
set_option maxHeartbeats 1000000
set_option pp.maxSteps 1500
set_option pp.deepTerms false
namespace Gk
open PySem PySem.Spec PyProof.Rows L2
section
variable {P : Program} {w : World} {K : PySem.W.Frag} {mg : Str → Option Value} {base : Heap}
/-! ### a tuple told backwards: t[::-1]; and == against nothing -/
namespace TupRev
section
open PySem.W PySem.Calls HT
variable {prog : Program} {w : World} {A : Around} {E : Value → Shared → Prop} {s : Shared}
theorem adj_rev (n : Nat) : Builtin.Slice.sliceAdjust none none (-1) (n : Int) = ((n : Int) - 1, -1) := by
  first
    | rfl
    | simp [Builtin.Slice.sliceAdjust]
theorem places_rev (n : Nat) : Builtin.Slice.slicePlaces ((n : Int) - 1) (-1) (-1) = n := by
  unfold Builtin.Slice.slicePlaces
  by_cases h : n = 0
  · subst h
    decide
  · simp
    omega
theorem applied_rev {sl : Addr} {vl vu vs : Value} {n : Nat} {Q : Int × Int × Nat → Shared → Prop} (slice : s.heap.IsSliceOf sl vl vu vs) (pl : IsPart vl none) (pu : IsPart vu none) (ps : IsPart vs (some (-1))) (fin : Q ((n : Int) - 1, -1, n) s) :
    wpAny (model prog w) A (Builtin.Slice.sliceApplied (.ref sl) (pure (n : Int))) Q E s := by
  obtain ⟨o, ho, hc, parts⟩ := id slice
  unfold Builtin.Slice.sliceApplied Builtin.Slice.sliceFields
  refine wpAny_bind (wpAny_bind (wpAny_field ho parts (x := vl) rfl (wpAny_bind (wpAny_field ho parts (x := vu) rfl (wpAny_bind (wpAny_field ho parts (x := vs) rfl (wpAny_pure ?_)))))))
  refine wpAny_bind (slicePart_ ps ?_)
  show wpAny _ _ (if ((-1 : Int) == 0) = true then _ else _) _ _ s
  rw [if_neg (show ¬ _ by decide)]
  refine wpAny_bind (slicePart_ pl (wpAny_bind (slicePart_ pu (wpAny_bind (wpAny_pure (?_))))))
  show wpAny _ _ (match Builtin.Slice.sliceAdjust none none (-1) (n : Int) with | (a, b) => pure (a, (-1 : Int), Builtin.Slice.slicePlaces a b (-1))) _ _ s
  rw [adj_rev]
  show wpAny _ _ (pure ((n : Int) - 1, (-1 : Int), Builtin.Slice.slicePlaces ((n : Int) - 1) (-1) (-1))) _ _ s
  rw [places_rev]
  exact wpAny_pure fin
theorem pick_rev (xs : Array Value) : ((List.range xs.size).filterMap fun (k : Nat) => xs[((xs.size : Int) - 1 + (k : Int) * (-1)).toNat]?).toArray = xs.toList.reverse.toArray := by
  have e : ((List.range xs.size).filterMap fun (k : Nat) => xs[((xs.size : Int) - 1 + (k : Int) * (-1)).toNat]?) = ((List.range xs.size).map fun k => xs.size - 1 - k).filterMap (xs[·]?) := by
    rw [List.filterMap_map]
    congr 1
    funext k
    show xs[((xs.size : Int) - 1 + (k : Int) * (-1)).toNat]? = xs[xs.size - 1 - k]?
    rw [show ((xs.size : Int) - 1 + (k : Int) * (-1)).toNat = xs.size - 1 - k by omega]
  rw [e, krv_range, List.filterMap_reverse, krv_all]
theorem item_rev {t sl : Addr} {xs : Array Value} {vl vu vs : Value} {Q : Value → Shared → Prop} (tup : IsTup s.heap t xs) (slice : s.heap.IsSliceOf sl vl vu vs) (pl : IsPart vl none) (pu : IsPart vu none) (ps : IsPart vs (some (-1)))
    (fin : Q (.ref s.heap.objs.size) { s with heap := s.heap.push { cls := .type "tuple", data := .seq xs.toList.reverse.toArray } }) (few : xs.size ≤ sizeLine) : wpAny (model prog w) A (getItem (.ref t) (.ref sl)) Q E s := by
  have fits : sizeOk (.seq xs.toList.reverse.toArray) := by
    show xs.toList.reverse.toArray.size ≤ sizeLine
    rw [List.size_toArray, List.length_reverse, Array.length_toList]
    exact few
  obtain ⟨o, ho, hc, parts⟩ := id slice
  have ty : s.TypeIs (.ref sl) "slice" := ⟨o, ho, hc⟩
  unfold getItem
  (try with_reducible refine wpAny_holding (?_)); (first | refine wpAny_bind (wpAny_pure (?_)) | skip)
  refine wpAny_bind (wpAny_sequenceKey tup.typeIs (by decide) ?_)
  refine wpAny_bind (wpAny_callSpecial?_slot (name := Str.ofString "__getitem__") tup.typeIs PyProof.Rows.slot_tuple_getitem (wpAny_call_entry PyProof.Rows.slot_tuple_getitem tup.typeIs entry_tuple_getitem ?_ (args_tuple_getitem _ _)))
  show wpAny _ _ (Builtin.Tuple.tupleItemsOf (Value.ref t) >>= _) _ _ s
  refine wpAny_bind (tupleItemsOf_ tup (wpAny_bind (wpAny_typeOf ty ?_)))
  rw [if_pos (show _ by decide)]
  refine wpAny_bind (applied_rev slice pl pu ps ?_)
  have no : ¬ ((((xs.size : Int) - 1) == 0 && (-1 : Int) == 1 && xs.size == xs.size) = true) := by
    intro z
    rw [Bool.and_eq_true, Bool.and_eq_true] at z
    have := z.1.2
    revert this
    decide
  show wpAny _ _ (if ((((xs.size : Int) - 1) == 0 && (-1 : Int) == 1 && xs.size == xs.size)) = true then _ else _) _ _ s
  rw [if_neg no, pick_rev]
  first
    | exact wpAny_bind (m := Builtin.Tuple.tupleExact _) (wpAny_newObj_type (wpAny_pure ⟨_, rfl, wpAny_pure fin⟩) fits)
    | exact wpAny_bind (m := Builtin.Tuple.tupleExact _) (wpAny_newObj_type (wpAny_bind (wpAny_pure (wpAny_pure ⟨_, rfl, wpAny_pure fin⟩))) fits)
    | exact wpAny_bind (wpAny_bind (m := Builtin.Tuple.tupleExact _) (wpAny_newObj_type (wpAny_pure (wpAny_pure ⟨_, rfl, wpAny_pure fin⟩)) fits))
    | exact wpAny_bind (wpAny_bind (m := Builtin.Tuple.tupleExact _) (wpAny_newObj_type (wpAny_pure ⟨_, rfl, wpAny_pure fin⟩) fits))
end
section
variable {X : Cx}
def tRevT (K : PySem.W.Frag) (te : TE) : TE := fun σ H Q => te σ H fun x H1 => ∃ a xs, x = .ref a ∧ SqT K H1 a xs ∧ ∀ p, H1 p = none → Q (.ref p) (upd H1 p (.tup xs.reverse))
theorem pe_revT {e : Expr} {te : TE} {k : Nat} {p1 p2 p3 pos : Pos} (he : PE X e te) : PE X (.Subscript e (.Slice none none (some (.UnaryOp .USub (.Constant (.int 1) k p1) p2)) p3) pos) (tRevT X.K te) := by
  refine ⟨fun pins s σ H Q I told => Subscript_ (thn (he.run pins s σ H _ I told) ?_)⟩
  rintro v s1 ⟨x, H1, I1, r1, a, xs, rfl, tup, q⟩
  cases r1
  have back : PO X (some (.UnaryOp .USub (.Constant (.int 1) k p1) p2)) (tPart (tUn (rU fun i => .int (-i)) (tC (.int 1)))) := po_some (pe_un un_neg pe_int)
  refine wpAny_Slice (thn (po_none.run pins s1 σ H1 (fun o H2 => o = none ∧ H2 = H1) I1 ⟨rfl, rfl⟩) ?_)
  rintro vl s2 ⟨l, H2, I2, pl, rfl, rfl⟩
  refine thn (po_none.run pins s2 σ H2 (fun o H3 => o = none ∧ H3 = H2) I2 ⟨rfl, rfl⟩) ?_
  rintro vu s3 ⟨u, H3, I3, pu, rfl, rfl⟩
  refine thn (back.run pins s3 σ H3 (fun o H4 => o = some (-1) ∧ H4 = H3) I3 ⟨1, rfl, -1, rfl, rfl, rfl⟩) ?_
  rintro vs s4 ⟨o, H4, I4, ps, rfl, rfl⟩
  have J : Inv X pins σ H4 { s4 with heap := s4.heap.push { cls := .type "slice", data := .fields #[vl, vu, vs] } } := I4.kept (t' := s4.toks) fun b ob z => Heap.get?_push_of_some _ z
  obtain ⟨us, r, ht, few⟩ := J.tuple tup
  have ln := r.length
  show wpAny (model X.prog X.w) X.A (subscriptTail e (.Slice none none (some (.UnaryOp .USub (.Constant (.int 1) k p1) p2)) p3) (.ref a) (.ref s4.heap.objs.size)) (EP X pins σ Q) _ _
  refine tail_any (ops := [.ref a, .ref s4.heap.objs.size]) ht.typeIs (PyProof.Rows.slot_tuple_getitem.lookup) ?_ (by with_unfolding_all rfl)
  refine item_rev ht (Heap.IsSliceOf.new _ vl vu vs) pl pu ps ?_ (by rw [List.size_toArray]; omega)
  refine ⟨.ref _, _, J.laid (t' := s4.toks) (o := .tup xs.reverse) (fun b ob z => Heap.get?_push_of_some _ z) (Nat.le_refl _) ?_, rfl, q _ (J.hok.fresh (Nat.le_refl _))⟩
  exact ⟨by rw [List.length_reverse]; exact few, _, r.reverse, IsTup.new _ _⟩
/-- t == () of any tuple -/
def rEqE (K : PySem.W.Frag) : R2 := fun x y H Q => ∃ a b xs, x = .ref a ∧ y = .ref b ∧ SqT K H a xs ∧ SqT K H b [] ∧ Q (.bl xs.isEmpty) H
theorem op_eqE (hu : X.A.units + 64 < cLine) : OpR X (compareOp .Eq) (rEqE X.K) := by
  intro pins s σ H x y v u Q I rx ry h
  obtain ⟨a, b, xs, rfl, rfl, ha, hb, q⟩ := h
  cases rx
  cases ry
  obtain ⟨us, r1, t1, _⟩ := I.tuple ha
  obtain ⟨ws, r2, t2, _⟩ := I.tuple hb
  cases r2
  refine SeqAt.eq_tupleAt (items2 := #[]) (e := fun _ => true) t1 t2 (by omega) (fun j _ h2 => absurd h2 (Nat.not_lt_zero _)) ?_
  have : ((List.range (min us.toArray.size (#[] : Array Value).size)).all (fun _ => true) && us.toArray.size == (#[] : Array Value).size) = xs.isEmpty := by
    cases r1 with
    | nil => rfl
    | cons _ _ => simp
  show EP X pins σ Q (.bool ((List.range (min us.toArray.size (#[] : Array Value).size)).all (fun _ => true) && us.toArray.size == (#[] : Array Value).size)) s
  rw [this]
  exact ⟨.bl _, H, I, rfl, q⟩
/-- l == [] of any list -/
def rEqN (K : PySem.W.Frag) : R2 := fun x y H Q => ∃ a b xs, x = .ref a ∧ y = .ref b ∧ SqL K H a xs ∧ SqL K H b [] ∧ Q (.bl xs.isEmpty) H
theorem op_eqN (hu : X.A.units + 64 < cLine) : OpR X (compareOp .Eq) (rEqN X.K) := by
  intro pins s σ H x y v u Q I rx ry h
  obtain ⟨a, b, xs, rfl, rfl, ha, hb, q⟩ := h
  cases rx
  cases ry
  obtain ⟨us, r1, t1, _⟩ := I.list ha
  obtain ⟨ws, r2, t2, _⟩ := I.list hb
  cases r2
  cases r1 with
  | nil => exact SeqAt.eq_listAt (e := fun _ => true) t1.isList t2.isList rfl (by omega) (fun j h1 _ => absurd h1 (Nat.not_lt_zero _)) ⟨.bl true, H, I, rfl, q⟩
  | cons _ _ => exact SeqAt.eq_list_lengthsAt t1.isList t2.isList (by simp) (by omega) ⟨.bl false, H, I, rfl, q⟩
end
end TupRev

/-! ### numbers, truths among them -/
namespace NumZ
section
variable {X : Cx}
def nz : V → Option Int
  | .int i => some i
  | .bl b => some (if b = true then 1 else 0)
  | _ => none
def rAddZ : R2 := fun x y H Q => ∃ i j, nz x = some i ∧ y = .int j ∧ Q (.int (i + j)) H
theorem op_addZ : OpR X (binaryOp .Add) rAddZ := by
  intro pins s σ H x y v u Q I rx ry h
  obtain ⟨i, j, hx, rfl, q⟩ := h
  cases x with
  | int k =>
    cases Option.some.inj hx
    exact op_add pins s σ H (.int i) (.int j) v u Q I rx ry ⟨i, j, rfl, rfl, q⟩
  | bl b =>
    cases Option.some.inj hx
    cases (show v = Value.bool b from rx)
    obtain ⟨t, rfl⟩ := ry
    exact PySem.IntBool.add_bool_int ⟨.int _, H, I.tok _, ⟨_, rfl⟩, q⟩
  | _ => cases hx
def rSubZ : R2 := fun x y H Q => ∃ i j, nz x = some i ∧ nz y = some j ∧ ((∃ k, x = .int k) ∨ ∃ k, y = .int k) ∧ Q (.int (i - j)) H
theorem op_subZ : OpR X (binaryOp .Sub) rSubZ := by
  intro pins s σ H x y v u Q I rx ry h
  obtain ⟨i, j, hx, hy, one, q⟩ := h
  cases x with
  | int k =>
    cases Option.some.inj hx
    cases y with
    | int m =>
      cases Option.some.inj hy
      exact op_sub pins s σ H (.int i) (.int j) v u Q I rx ry ⟨i, j, rfl, rfl, q⟩
    | bl b =>
      cases Option.some.inj hy
      obtain ⟨t, rfl⟩ := rx
      cases (show u = Value.bool b from ry)
      exact PySem.IntBool.sub_int_bool ⟨.int _, H, I.tok _, ⟨_, rfl⟩, q⟩
    | _ => cases hy
  | bl b =>
    cases Option.some.inj hx
    cases y with
    | int m =>
      cases Option.some.inj hy
      cases (show v = Value.bool b from rx)
      obtain ⟨t, rfl⟩ := ry
      exact PySem.IntBool.sub_bool_int ⟨.int _, H, I.tok _, ⟨_, rfl⟩, q⟩
    | bl c =>
      rcases one with ⟨k, z⟩ | ⟨k, z⟩ <;> cases z
    | _ => cases hy
  | _ => cases hx
def strZ : V → Str
  | .int i => toString i
  | .bl b => if b = true then Str.ofString "True" else Str.ofString "False"
  | _ => Str.empty
def rStrZ : List V → Hp → VK → Prop := fun xs H Q => ∃ x i, xs = [x] ∧ nz x = some i ∧ i.natAbs.log2 < 1920 ∧ Q (.str (strZ x)) H
theorem call_strZ : CallR X (.type "str") rStrZ := by
  intro pins s σ H xs us Q I r h
  obtain ⟨x, i, rfl, hx, small, q⟩ := h
  cases x with
  | int k =>
    cases Option.some.inj hx
    exact call_str_int pins s σ H [.int i] us Q I r ⟨i, rfl, small, q⟩
  | bl b =>
    obtain ⟨u, rfl, ru⟩ := vals1 r
    cases (show u = Value.bool b from ru)
    refine PySem.P.str_of_bool ⟨.str _, H, I.tok _, ⟨_, rfl⟩, ?_⟩
    cases b <;> exact q
  | _ => cases hx
/-- list(t), a list that is none of the interpreter's own -/
def rListN (K : PySem.W.Frag) : List V → Hp → VK → Prop := fun xs H Q => ∃ p ys, xs = [.ref p] ∧ SqT K H p ys ∧ ∀ l, H l = none → l ≠ sysModules → Q (.ref l) (upd H l (.lst ys))
theorem call_listN : CallR X (.type "list") (rListN X.K) := by
  intro pins s σ H xs us Q I r h
  obtain ⟨p, ys, rfl, src, q⟩ := h
  obtain ⟨u, rfl, rx⟩ := vals1 r
  cases rx
  obtain ⟨items, rv, ⟨o, ho, hc, n, hd⟩, few⟩ := I.tuple src
  refine call_list_seq p (.inr rfl) ho hc hd (fun hp c keep made => ?_) (by rw [List.size_toArray, ← rv.length]; exact few)
  exact ⟨.ref s.heap.objs.size, _, I.laid (t' := s.toks) keep (Nat.le_refl _) (show ObjOk X.prog X.w _ hp _ (.lst ys) from ⟨few, items, c, rv, made⟩), rfl, q _ (I.hok.fresh (Nat.le_refl _)) (Nat.ne_of_gt I.big)⟩
end
end NumZ

/-! ### delays with something in them put otherwise -/
theorem sh_is {H : Hp} : ∀ ts : List Int, ShAll H (ts.map V.int) (ts.map PyData.int)
  | [] => .nil
  | x :: r => .cons (.int x) (sh_is r)
theorem sh_rows {H : Hp} : ∀ {xs : List V} (D : List (List Int)), TkAll H xs (D.map rowD) → ShAll H xs (D.map rowD)
  | _, [], .nil => .nil
  | _, r :: D, .cons h t => by
    obtain ⟨a, rfl, ha⟩ := h.row_inv
    exact .cons (.tup ha (sh_is r)) (sh_rows D t)
/-- a tuple of at most N things that can be shown -/
def TT (H : Hp) (N : Nat) (p : Addr) : Prop := ∃ xs ds, H p = some (.tup xs) ∧ ShAll H xs ds ∧ xs.length ≤ N
theorem TT.same {H H' : Hp} {N : Nat} {p : Addr} (t : TT H N p) (s : Same H H') : TT H' N p := by
  obtain ⟨xs, ds, h, a, l⟩ := t
  exact ⟨xs, ds, s _ _ h, a.same s, l⟩
theorem TT.sh {H : Hp} {N : Nat} {p : Addr} (t : TT H N p) : ∃ d, Sh H (.ref p) d := by
  obtain ⟨xs, ds, h, a, _⟩ := t
  exact ⟨_, .tup h a⟩
theorem slT {K : PySem.W.Frag} {a : Addr} {N : Nat} {lo hi : Option Int} {H : Hp} {Q : VK} (h : TT H N a) (q : ∀ p H', Same H H' → TT H' N p → Q (.ref p) H') : rSlA K (.ref a) lo hi H Q := by
  obtain ⟨xs, ds, h, t, l⟩ := h
  refine slA h fun p H' s hp => q p H' s ⟨_, ((ds.drop (HT.sIx xs.length 0 lo)).take (HT.sIx xs.length xs.length hi - HT.sIx xs.length 0 lo)), hp, ((t.drop _).take _).same s, ?_⟩
  unfold cutV
  rw [List.length_take, List.length_drop]
  omega
theorem slTn {K : PySem.W.Frag} {a : Addr} {N : Nat} {lo : Option Int} {H : Hp} {Q : VK} {σ : L2.St} (h : TT H N a) (q : ∀ p H', Same H H' → TT H' N p → Q (.ref p) H') : tNoPart σ H (fun u H3 => rSlA K (.ref a) lo u H3 Q) := slT h q
theorem catT {K : PySem.W.Frag} {a b : Addr} {N M : Nat} {H : Hp} {Q : VK} (ha : TT H N a) (hb : TT H M b) (hl : N + M ≤ 1000) (q : ∀ p H', Same H H' → TT H' (N + M) p → Q (.ref p) H') : rCatA K (.ref a) (.ref b) H Q := by
  obtain ⟨xs, ds, h1, t1, l1⟩ := ha
  obtain ⟨ys, es, h2, t2, l2⟩ := hb
  exact catA h1 h2 (Nat.le_trans (show _ ≤ 1000 by omega) (by decide)) fun p H' s hp => q p H' s ⟨_, _, hp, (t1.append t2).same s, by rw [List.length_append]; omega⟩
theorem TT.one {H : Hp} {p : Addr} {v : V} {d : PyData} (np : H p = none) (s : Sh H v d) : TT (upd H p (.tup [v])) 1 p := ⟨_, _, upd_same, .cons (s.same (same_upd np)) .nil, Nat.le_refl _⟩
theorem TT.rev {H : Hp} {N : Nat} {a p : Addr} (t : TT H N a) {xs : List V} (ha : H a = some (.tup xs)) (np : H p = none) : TT (upd H p (.tup xs.reverse)) N p := by
  obtain ⟨ys, ds, h, s, l⟩ := t
  rw [ha] at h
  cases h
  exact ⟨_, _, upd_same, s.rev.same (same_upd np), by rw [List.length_reverse]; exact l⟩
theorem TT.at {H : Hp} {N : Nat} {p : Addr} (t : TT H N p) : ∃ xs, H p = some (.tup xs) := let ⟨xs, _, h, _⟩ := t; ⟨xs, h⟩
def sp_odd (K : PySem.W.Frag) : Sp := fun vs H Q _ => ∃ (d l : Addr) (n : Int), vs = [.ref d] ∧ DeckF H d l n ∧ n < 10000000 ∧ ∀ v e H', DeckF H' d l (n + 32) → Fr d l H H' → Sh H' v e → Q v H'
theorem ok_odd (T : Tx K mg) : FnOk P w K mg base CX0 8 T.f_odd T.fd_odd ["_law_deck_here"] (sp_odd K) := by
  refine T.F_odd.ok sc_odd (fun vs H Q E h => ?_) (fun cdv A outer s H vs Q E hr h => ?_)
  · obtain ⟨d, l, n, rfl, _⟩ := h
    rfl
  · obtain ⟨d, l, n, rfl, D, hn, q⟩ := h
    refine ⟨_, (pss_one (ps_ret (pe_ix ix_list (pe_lst (pa_cons (pe_un un_neg pe_int) (pa_cons pe_bl (pa_cons pe_bl (pa_cons pe_non (pa_cons pe_str (pa_cons pe_str (pa_cons (pe_tup pa_nil) (pa_cons (pe_tup (pa_cons pe_int pa_nil)) (pa_cons (pe_lstN (pa_cons pe_int pa_nil)) (pa_cons (pe_op op_pow pe_int pe_int) (pa_cons (pe_un un_neg (pe_op op_pow pe_int pe_int)) (pa_cons (pe_lstN pa_nil) (pa_cons pe_dnewK pa_nil)))))))))))))) (pe_call (ok_draw T) (hr.mono (by decide)) (by rfl) T.g_draw T.F_draw.kp T.b_draw .nil pass0 (pa_cons (pv 0) (pa_cons pe_int pa_nil))) (fun _ _ => rfl)))), ?_⟩
    refine ⟨_, rfl, Nat.zero_le _, fun p1 n1 => ?_⟩
    have s1 := same_upd (o := (HO.tup [])) n1
    have h1 : upd H p1 (HO.tup []) p1 = some (HO.tup []) := upd_same
    generalize upd H p1 (HO.tup []) = A1 at s1 h1 ⊢
    refine ⟨sl1, fun p2 n2 => ?_⟩
    have s2 := same_upd (o := (HO.tup [V.int 0])) n2
    have h2 : upd A1 p2 (HO.tup [V.int 0]) p2 = some (HO.tup [V.int 0]) := upd_same
    generalize upd A1 p2 (HO.tup [V.int 0]) = A2 at s2 h2 ⊢
    refine ⟨sl1, fun L3 n3 m3 => ?_⟩
    have s3 := same_upd (o := (HO.lst [V.int 0])) n3
    have h3 : upd A2 L3 (HO.lst [V.int 0]) L3 = some (HO.lst [V.int 0]) := upd_same
    generalize upd A2 L3 (HO.lst [V.int 0]) = A3 at s3 h3 ⊢
    refine ⟨_, _, rfl, rfl, ⟨by decide, by decide, by decide⟩, _, _, rfl, rfl, ⟨by decide, by decide, by decide⟩, _, rfl, Nat.zero_le _, fun L4 n4 m4 => ?_⟩
    have s4 := same_upd (o := (HO.lst [])) n4
    have h4 : upd A3 L4 (HO.lst []) L4 = some (HO.lst []) := upd_same
    generalize upd A3 L4 (HO.lst []) = A4 at s4 h4 ⊢
    refine fun dk n5 => ?_
    have s5 := same_upd (o := (HO.dK [])) n5
    have h5 : upd A4 dk (HO.dK []) dk = some (HO.dK []) := upd_same
    generalize upd A4 dk (HO.dK []) = A5 at s5 h5 ⊢
    refine ⟨by show 13 ≤ sizeLine; decide, fun C nC => ?_⟩
    have s6 := same_upd (o := (HO.lst [V.int (-1), V.bl true, V.bl false, V.non, V.str (Str.ofString "0"), V.str (Str.ofString ""), V.ref p1, V.ref p2, V.ref L3, V.int (10 ^ (39 : Int).toNat), V.int (-(10 ^ (38 : Int).toNat)), V.ref L4, V.ref dk])) nC
    have h6 : upd A5 C (HO.lst [V.int (-1), V.bl true, V.bl false, V.non, V.str (Str.ofString "0"), V.str (Str.ofString ""), V.ref p1, V.ref p2, V.ref L3, V.int (10 ^ (39 : Int).toNat), V.int (-(10 ^ (38 : Int).toNat)), V.ref L4, V.ref dk]) C = some (HO.lst [V.int (-1), V.bl true, V.bl false, V.non, V.str (Str.ofString "0"), V.str (Str.ofString ""), V.ref p1, V.ref p2, V.ref L3, V.int (10 ^ (39 : Int).toNat), V.int (-(10 ^ (38 : Int).toNat)), V.ref L4, V.ref dk]) := upd_same
    generalize upd A5 C (HO.lst [V.int (-1), V.bl true, V.bl false, V.non, V.str (Str.ofString "0"), V.str (Str.ofString ""), V.ref p1, V.ref p2, V.ref L3, V.int (10 ^ (39 : Int).toNat), V.int (-(10 ^ (38 : Int).toNat)), V.ref L4, V.ref dk]) = A6 at s6 h6 ⊢
    have sA := ((((s1.trans s2).trans s3).trans s4).trans s5)
    have sB := sA.trans s6
    have D6 := D.same sB
    refine ⟨.ref d, rfl, d, l, 13, _, rfl, D6, by omega, by decide, by decide, fun H7 u D7 fr7 u0 u1 => ?_⟩
    have ts7 := Ts.frF D6 fr7
    have off : ∀ {p : Addr} {A : Hp}, Same H A → A p = none → p ≠ d ∧ p ≠ l := fun {p A} sm h => (D.same sm).off h
    have o3 := off (s1.trans s2) n3
    have o4 := off ((s1.trans s2).trans s3) n4
    have o5 := off (((s1.trans s2).trans s3).trans s4) n5
    have o6 := off sA nC
    have e1 := ts7 _ _ (s6 _ _ (s5 _ _ (s4 _ _ (s3 _ _ (s2 _ _ h1)))))
    have e2 := ts7 _ _ (s6 _ _ (s5 _ _ (s4 _ _ (s3 _ _ h2))))
    have e3 := fr7 _ _ o3.1 o3.2 (s6 _ _ (s5 _ _ (s4 _ _ h3)))
    have e4 := fr7 _ _ o4.1 o4.2 (s6 _ _ (s5 _ _ h4))
    have e5 := fr7 _ _ o5.1 o5.2 (s6 _ _ h5)
    have all : ShAll H7 [V.int (-1), V.bl true, V.bl false, V.non, V.str (Str.ofString "0"), V.str (Str.ofString ""), V.ref p1, V.ref p2, V.ref L3, V.int (10 ^ (39 : Int).toNat), V.int (-(10 ^ (38 : Int).toNat)), V.ref L4, V.ref dk]
        [.int (-1), .bool true, .bool false, .none, .str (Str.ofString "0"), .str (Str.ofString ""), .tuple [], .tuple [.int 0], .list [.int 0], .int (10 ^ (39 : Int).toNat), .int (-(10 ^ (38 : Int).toNat)), .list [], .dict []] :=
      .cons (.int _) (.cons (.bl _) (.cons (.bl _) (.cons .non (.cons (.str _) (.cons (.str _) (.cons (.tup e1 .nil) (.cons (.tup e2 (.cons (.int _) .nil)) (.cons (.lst e3 m3 (.cons (.int _) .nil)) (.cons (.int _) (.cons (.int _) (.cons (.lst e4 m4 .nil) (.cons (.dic (kvs := []) e5 .nil) .nil))))))))))))
    obtain ⟨k, rfl⟩ := Int.eq_ofNat_of_zero_le u0
    obtain ⟨x, hx⟩ : ∃ x, ([V.int (-1), V.bl true, V.bl false, V.non, V.str (Str.ofString "0"), V.str (Str.ofString ""), V.ref p1, V.ref p2, V.ref L3, V.int (10 ^ (39 : Int).toNat), V.int (-(10 ^ (38 : Int).toNat)), V.ref L4, V.ref dk] : List V)[k]? = some x := ⟨_, List.getElem?_eq_getElem (show k < 13 by omega)⟩
    obtain ⟨e, _, te⟩ := all.get hx
    exact ⟨C, _, k, x, rfl, rfl, SqL.of (fr7 _ _ o6.1 o6.2 h6), atI_nat hx, q x e H7 D7 ((Fr.of sB).trans fr7) te⟩
def sp_bent (K : PySem.W.Frag) : Sp := fun vs H Q _ => ∃ (d l ta : Addr) (n : Int) (D : List (List Int)), vs = [.ref d, .ref ta] ∧ DeckF H d l n ∧ n < 1000000 ∧ Tk H (.ref ta) (delsD D) ∧ D.length ≤ 64 ∧ (∀ r ∈ D, r.length ≤ 3) ∧ ∀ v e H', DeckF H' d l (n + 128) → Fr d l H H' → Sh H' v e → Q v H'
theorem ok_bent (T : Tx K mg) : FnOk P w K mg base CX0 9 T.f_bent T.fd_bent ["_law_deck_here", "_law_thing"] (sp_bent K) := by
  refine T.F_bent.ok sc_bent (fun vs H Q E h => ?_) (fun cdv A outer s H vs Q E hr h => ?_)
  · obtain ⟨d, l, ta, n, D, rfl, _⟩ := h
    rfl
  · obtain ⟨d, l, ta, n, D, rfl, Dk, hn, tt, l64, l3, q⟩ := h
    refine ⟨_, (pss_cons (ps_set (i := 2) sc_bent.nd rfl (by first | exact .inl rfl | exact .inr rfl) (pe_call (ok_draw T) (hr.mono (by decide)) (by rfl) T.g_draw T.F_draw.kp T.b_draw .nil pass0 (pa_cons (pv 0) (pa_cons pe_int pa_nil)))) (pss_cons (ps_set (i := 3) sc_bent.nd rfl (by first | exact .inl rfl | exact .inr rfl) (pe_call (ok_draw T) (hr.mono (by decide)) (by rfl) T.g_draw T.F_draw.kp T.b_draw .nil pass0 (pa_cons (pv 0) (pa_cons (pe_callB (call_max2 rfl) (by rfl) T.m_max (by decide +kernel) (pa_cons pe_int (pa_cons (pe_callB call_len_seq (by rfl) T.m_len PySem.boot_len (pa_cons (pv 1) pa_nil)) pa_nil))) pa_nil)))) (pss_cons (ps_set (i := 4) sc_bent.nd rfl (by first | exact .inl rfl | exact .inr rfl) (pe_call (ok_draw T) (hr.mono (by decide)) (by rfl) T.g_draw T.F_draw.kp T.b_draw .nil pass0 (pa_cons (pv 0) (pa_cons pe_int pa_nil)))) (pss_cons (ps_set (i := 5) sc_bent.nd rfl (by first | exact .inl rfl | exact .inr rfl) (pe_call (ok_odd T) (hr.mono (by decide)) (by rfl) T.g_odd T.F_odd.kp T.b_odd .nil pass0 (pa_cons (pv 0) pa_nil))) (pss_cons (ps_set (i := 6) sc_bent.nd rfl (by first | exact .inl rfl | exact .inr rfl) (pe_slice sl_tupA (pv 1) po_none (po_some (pv 3)))) (pss_cons (ps_set (i := 7) sc_bent.nd rfl (by first | exact .inl rfl | exact .inr rfl) (pe_ix ix_tup (pe_op op_catA (pv 1) (pe_tup (pa_cons (pe_tup pa_nil) pa_nil))) (pv 3) (fun _ _ => rfl))) (pss_cons (ps_if (pt_cmpR op_eq (pv 2) pe_int (nomark _)) (pss_one (ps_ret (pe_op op_catA (pv 6) (pe_slice sl_tupA (pv 1) (po_some (pe_op op_add (pv 3) pe_int)) po_none)))) pss_nil) (pss_cons (ps_if (pt_cmpR op_eq (pv 2) pe_int (nomark _)) (pss_one (ps_ret (pe_op op_catA (pe_op op_catA (pv 6) (pe_tup (pa_cons (pv 7) pa_nil))) (pe_slice sl_tupA (pv 1) (po_some (pv 3)) po_none)))) pss_nil) (pss_cons (ps_if (pt_cmpR op_eq (pv 2) pe_int (nomark _)) (pss_one (ps_ret (pe_ix ix_list (pe_lst (pa_cons (pe_callTy NumZ.call_listN (by rfl) T.m_list (by decide +kernel) (pa_cons (pv 1) pa_nil)) (pa_cons (pe_op op_catA (pe_op op_catA (pv 6) (pe_tup (pa_cons (pe_callTy NumZ.call_listN (by rfl) T.m_list (by decide +kernel) (pa_cons (pv 7) pa_nil)) pa_nil))) (pe_slice sl_tupA (pv 1) (po_some (pe_op op_add (pv 3) pe_int)) po_none)) pa_nil))) (pe_op op_mod (pv 4) pe_int) (fun _ _ => rfl)))) pss_nil) (pss_cons (ps_if (pt_cmpR op_eq (pv 2) pe_int (nomark _)) (pss_one (ps_ret (pe_op op_catA (pe_op op_catA (pv 6) (TupRev.pe_revT (pe_slice sl_tupA (pv 1) (po_some (pv 3)) (po_some (pe_op op_add (pv 3) pe_int))))) (pe_slice sl_tupA (pv 1) (po_some (pe_op op_add (pv 3) pe_int)) po_none)))) pss_nil) (pss_cons (ps_if (pt_cmpR op_eq (pv 2) pe_int (nomark _)) (pss_one (ps_ret (pe_op op_catA (pe_op op_catA (pv 6) (pe_tup (pa_cons (pv 5) pa_nil))) (pe_slice sl_tupA (pv 1) (po_some (pe_op op_add (pv 3) pe_int)) po_none)))) pss_nil) (pss_cons (ps_if (pt_cmpR op_eq (pv 2) pe_int (nomark _)) (pss_one (ps_ret (pe_op op_catA (pe_op op_catA (pv 6) (pe_tup (pa_cons (pe_op op_catA (pe_slice sl_tupA (pv 7) po_none (po_some (pv 4))) (pe_slice sl_tupA (pv 7) (po_some (pe_op op_add (pv 4) pe_int)) po_none)) pa_nil))) (pe_slice sl_tupA (pv 1) (po_some (pe_op op_add (pv 3) pe_int)) po_none)))) pss_nil) (pss_cons (ps_if (pt_cmpR op_eq (pv 2) pe_int (nomark _)) (pss_one (ps_ret (pe_op op_catA (pe_op op_catA (pv 6) (pe_tup (pa_cons (pe_op op_catA (pe_op op_catA (pe_slice sl_tupA (pv 7) po_none (po_some (pv 4))) (pe_tup (pa_cons pe_int pa_nil))) (pe_slice sl_tupA (pv 7) (po_some (pv 4)) po_none)) pa_nil))) (pe_slice sl_tupA (pv 1) (po_some (pe_op op_add (pv 3) pe_int)) po_none)))) pss_nil) (pss_cons (ps_if (pt_cmpR op_eq (pv 2) pe_int (nomark _)) (pss_one (ps_ret (pe_op op_catA (pe_op op_catA (pv 6) (pe_tup (pa_cons (TupRev.pe_revT (pv 7)) pa_nil))) (pe_slice sl_tupA (pv 1) (po_some (pe_op op_add (pv 3) pe_int)) po_none)))) pss_nil) (pss_one (ps_ret (pe_op op_catA (pe_op op_catA (pv 6) (pe_tup (pa_cons (pe_op op_catA (pe_op op_catA (pe_slice sl_tupA (pv 7) po_none (po_some (pv 4))) (pe_tup (pa_cons (pv 5) pa_nil))) (pe_slice sl_tupA (pv 7) (po_some (pe_op op_add (pv 4) pe_int)) po_none)) pa_nil))) (pe_slice sl_tupA (pv 1) (po_some (pe_op op_add (pv 3) pe_int)) po_none)))))))))))))))))), ?_⟩
    obtain ⟨_, xs, e, ht, tx⟩ := tt.tup_inv
    cases e
    have lx : xs.length = D.length := by rw [tx.length, List.length_map]
    refine ⟨.ref d, rfl, d, l, 10, _, rfl, Dk, by omega, by decide, by decide, fun H1 way D1 fr1 w0 w1 => ?_⟩
    have ht1 := Ts.frF Dk fr1 _ _ ht
    refine ⟨.ref d, rfl, .ref ta, rfl, ta, _, rfl, .inr (SqT.of ht1), _, _, rfl, ?_⟩
    refine ⟨d, l, _, n + 32, rfl, D1, by omega, by omega, by omega, fun H2 at_ D2 fr2 a0 a1 => ?_⟩
    refine ⟨.ref d, rfl, d, l, 3, _, rfl, D2, by omega, by decide, by decide, fun H3 kk D3 fr3 k0 k1 => ?_⟩
    refine ⟨.ref d, rfl, d, l, _, rfl, D3, by omega, fun ov oe H4 D4 fr4 so => ?_⟩
    have fr04 := ((fr1.trans fr2).trans fr3).trans fr4
    have ht4 := Ts.frF D3 fr4 _ _ (Ts.frF D2 fr3 _ _ (Ts.frF D1 fr2 _ _ ht1))
    have tx4 : TkAll H4 xs (D.map rowD) := tx.ts (Ts.frF Dk fr04) (noLs_map noL_row D)
    obtain ⟨i, rfl⟩ := Int.eq_ofNat_of_zero_le a0
    obtain ⟨k, rfl⟩ := Int.eq_ofNat_of_zero_le k0
    have tT : TT H4 64 ta := ⟨xs, _, ht4, sh_rows D tx4, by omega⟩
    have hi : i ≤ xs.length := by split at a1 <;> omega
    refine ⟨.ref ta, rfl, .int (i : Nat), rfl, (i : Int), rfl, slT tT fun pa H5 s5 tA => ?_⟩
    have tT5 := tT.same s5
    -- the part there
    refine ⟨.ref ta, rfl, Nat.zero_le _, fun e6 ne6 => ?_⟩
    have s6 := same_upd (o := (HO.tup [])) ne6
    have h6 : upd H5 e6 (HO.tup []) e6 = some (HO.tup []) := upd_same
    generalize upd H5 e6 (HO.tup []) = H6 at s6 h6 ⊢
    refine ⟨sl1, fun e7 ne7 => ?_⟩
    have s7 := same_upd (o := (HO.tup [V.ref e6])) ne7
    have h7 : upd H6 e7 (HO.tup [V.ref e6]) e7 = some (HO.tup [V.ref e6]) := upd_same
    generalize upd H6 e7 (HO.tup [V.ref e6]) = H7 at s7 h7 ⊢
    refine catA ((s7 _ _ (s6 _ _ (s5 _ _ ht4)))) h7 ?_ fun q8 H8 s8 h8 => ?_
    · exact Nat.le_trans (show xs.length + 1 ≤ 65 by omega) (by decide)
    have s48 := ((s5.trans s6).trans s7).trans s8
    obtain ⟨pp, hpp, tP⟩ : ∃ pp, (xs ++ [V.ref e6])[i]? = some (.ref pp) ∧ TT H8 3 pp := by
      by_cases z : i < xs.length
      · have hx : xs[i]? = some xs[i] := List.getElem?_eq_getElem z
        obtain ⟨r, hr, tr⟩ := tx4.at hx
        obtain ⟨a, ea, ha⟩ := tr.row_inv
        refine ⟨a, by rw [List.getElem?_append_left z, hx, ea], _, _, s48 _ _ ha, sh_is r, ?_⟩
        rw [List.length_map]
        exact l3 r (List.mem_of_getElem? hr)
      · have z : i = xs.length := by omega
        exact ⟨e6, by rw [z, List.getElem?_append_right (Nat.le_refl _), Nat.sub_self]; rfl, [], [], s8 _ _ (s7 _ _ h6), .nil, Nat.zero_le _⟩
    refine ⟨.int (i : Nat), rfl, q8, _, (i : Nat), _, rfl, rfl, SqT.of h8, atI_nat hpp, ?_⟩
    have D8 := D4.same s48
    have fr08 := fr04.trans (Fr.of s48)
    have tT8 := tT.same s48
    have tA8 := tA.same ((s6.trans s7).trans s8)
    have so8 := so.same s48
    clear s48 h8 hpp h7 h6 s8 s7 s6 s5 tA tT5 tT
    have fin : ∀ (v : V) (e : PyData) (H' : Hp), Same H8 H' → Sh H' v e → Q v H' := fun v e H' sm sh => q v e H' ((D8.same sm).mono (by omega)) (fr08.trans (Fr.of sm)) sh
    have finT : ∀ (p : Addr) (N : Nat) (H' : Hp), Same H8 H' → TT H' N p → Q (.ref p) H' := fun p N H' sm t => let ⟨e, se⟩ := t.sh; fin _ e H' sm se
    refine ⟨.int way, rfl, rfl, _, rfl, ite2 (fun _ => ?_) (fun _ => ?_)⟩
    · refine ⟨.ref pa, rfl, .ref ta, rfl, .int (i : Nat), rfl, _, _, rfl, rfl, _, rfl, slTn tT8 fun p1 G1 g1 t1 => ?_⟩
      exact catT (tA8.same g1) t1 (by omega) fun p2 G2 g2 t2 => finT p2 _ G2 (g1.trans g2) t2
    refine ⟨.int way, rfl, rfl, _, rfl, ite2 (fun _ => ?_) (fun _ => ?_)⟩
    · refine ⟨.ref pa, rfl, .ref pp, rfl, sl1, fun t1 n1 => ?_⟩
      obtain ⟨pe, se⟩ := tP.sh
      have o1 := TT.one n1 se
      refine catT (tA8.same (same_upd n1)) o1 (by omega) fun p2 G2 g2 t2 => ?_
      refine ⟨.ref ta, rfl, .int (i : Nat), rfl, _, rfl, slTn (tT8.same ((same_upd n1).trans g2)) fun p3 G3 g3 t3 => ?_⟩
      exact catT (t2.same g3) t3 (by omega) fun p4 G4 g4 t4 => finT p4 _ G4 (((same_upd n1).trans g2).trans (g3.trans g4)) t4
    refine ⟨.int way, rfl, rfl, _, rfl, ite2 (fun _ => ?_) (fun _ => ?_)⟩
    · obtain ⟨zs, es, hz, sz, lz⟩ := tT8
      obtain ⟨ps, qs, hp_, sp_, lp_⟩ := tP
      refine ⟨.ref ta, rfl, ta, _, rfl, SqT.of hz, fun L1 nL1 mL1 => ?_⟩
      have r1 := same_upd (o := (HO.lst zs)) nL1
      have k1 : upd H8 L1 (HO.lst zs) L1 = some (HO.lst zs) := upd_same
      generalize upd H8 L1 (HO.lst zs) = B1 at r1 k1 ⊢
      refine ⟨.ref pa, rfl, .ref pp, rfl, pp, _, rfl, SqT.of (r1 _ _ hp_), fun L2 nL2 mL2 => ?_⟩
      have r2 := same_upd (o := (HO.lst ps)) nL2
      have k2 : upd B1 L2 (HO.lst ps) L2 = some (HO.lst ps) := upd_same
      generalize upd B1 L2 (HO.lst ps) = B2 at r2 k2 ⊢
      refine ⟨sl1, fun t3 n3 => ?_⟩
      have r12 := r1.trans r2
      have o3 := TT.one n3 (.lst k2 mL2 (sp_.same r12) : Sh B2 (.ref L2) _)
      have r13 := r12.trans (same_upd (o := HO.tup [V.ref L2]) n3)
      refine catT (tA8.same r13) o3 (by omega) fun p4 G4 g4 t4 => ?_
      refine ⟨.ref ta, rfl, .int (i : Nat), rfl, _, _, rfl, rfl, _, rfl, slTn (⟨zs, es, (r13.trans g4) _ _ hz, sz.same (r13.trans g4), lz⟩ : TT _ 64 ta) fun p5 G5 g5 t5 => ?_⟩
      refine catT (t4.same g5) t5 (by omega) fun p6 G6 g6 t6 => ?_
      refine ⟨sl2, fun C nC => ?_⟩
      have rz := ((r13.trans g4).trans g5).trans g6
      have r7 := same_upd (o := (HO.lst [V.ref L1, V.ref p6])) nC
      have k7 : upd G6 C (HO.lst [V.ref L1, V.ref p6]) C = some (HO.lst [V.ref L1, V.ref p6]) := upd_same
      generalize upd G6 C (HO.lst [V.ref L1, V.ref p6]) = B7 at r7 k7 ⊢
      have hL1 : B7 L1 = some (.lst zs) := r7 _ _ (g6 _ _ (g5 _ _ (g4 _ _ (same_upd n3 _ _ (r2 _ _ k1)))))
      refine ⟨.int (k : Nat), rfl, _, _, rfl, rfl, (by show (0 : Int) < 2; decide), ?_⟩
      have h2 : (k : Int) % 2 = 0 ∨ (k : Int) % 2 = 1 := by omega
      rcases h2 with h2 | h2
      · refine ⟨C, _, _, .ref L1, rfl, rfl, SqL.of k7, by rw [h2]; rfl, ?_⟩
        exact fin _ _ B7 (rz.trans r7) (.lst hL1 mL1 (sz.same (rz.trans r7)))
      · refine ⟨C, _, _, .ref p6, rfl, rfl, SqL.of k7, by rw [h2]; rfl, ?_⟩
        exact finT p6 _ B7 (rz.trans r7) (t6.same r7)
    refine ⟨.int way, rfl, rfl, _, rfl, ite2 (fun _ => ?_) (fun _ => ?_)⟩
    · refine ⟨.ref pa, rfl, .ref ta, rfl, .int (i : Nat), rfl, (i : Int), rfl, .int (i : Nat), rfl, _, _, rfl, rfl, _, rfl, slT tT8 fun p1 G1 g1 t1 => ?_⟩
      obtain ⟨ys, hy⟩ := t1.at
      refine ⟨p1, _, rfl, SqT.of hy, fun p2 n2 => ?_⟩
      have t2 := t1.rev hy n2
      have g2 := g1.trans (same_upd (o := HO.tup ys.reverse) n2)
      refine catT (tA8.same g2) t2 (by omega) fun p3 G3 g3 t3 => ?_
      refine ⟨.ref ta, rfl, .int (i : Nat), rfl, _, _, rfl, rfl, _, rfl, slTn (tT8.same (g2.trans g3)) fun p5 G5 g5 t5 => ?_⟩
      exact catT (t3.same g5) t5 (by omega) fun p6 G6 g6 t6 => finT p6 _ G6 ((g2.trans g3).trans (g5.trans g6)) t6
    refine ⟨.int way, rfl, rfl, _, rfl, ite2 (fun _ => ?_) (fun _ => ?_)⟩
    · refine ⟨.ref pa, rfl, ov, rfl, sl1, fun t1 n1 => ?_⟩
      have o1 := TT.one n1 so8
      have g1 := same_upd (o := HO.tup [ov]) n1
      refine catT (tA8.same g1) o1 (by omega) fun p3 G3 g3 t3 => ?_
      refine ⟨.ref ta, rfl, .int (i : Nat), rfl, _, _, rfl, rfl, _, rfl, slTn (tT8.same (g1.trans g3)) fun p5 G5 g5 t5 => ?_⟩
      exact catT (t3.same g5) t5 (by omega) fun p6 G6 g6 t6 => finT p6 _ G6 ((g1.trans g3).trans (g5.trans g6)) t6
    refine ⟨.int way, rfl, rfl, _, rfl, ite2 (fun _ => ?_) (fun _ => ?_)⟩
    · refine ⟨.ref pa, rfl, .ref pp, rfl, .int (k : Nat), rfl, (k : Int), rfl, slT tP fun p1 G1 g1 t1 => ?_⟩
      refine ⟨.ref pp, rfl, .int (k : Nat), rfl, _, _, rfl, rfl, _, rfl, slTn (tP.same g1) fun p2 G2 g2 t2 => ?_⟩
      refine catT (t1.same g2) t2 (by omega) fun p3 G3 g3 t3 => ?_
      refine ⟨sl1, fun p4 n4 => ?_⟩
      obtain ⟨e3, se3⟩ := t3.sh
      have o4 := TT.one n4 se3
      have g4 := ((g1.trans g2).trans g3).trans (same_upd (o := HO.tup [V.ref p3]) n4)
      refine catT (tA8.same g4) o4 (by omega) fun p5 G5 g5 t5 => ?_
      refine ⟨.ref ta, rfl, .int (i : Nat), rfl, _, _, rfl, rfl, _, rfl, slTn (tT8.same (g4.trans g5)) fun p6 G6 g6 t6 => ?_⟩
      exact catT (t5.same g6) t6 (by omega) fun p7 G7 g7 t7 => finT p7 _ G7 ((g4.trans g5).trans (g6.trans g7)) t7
    refine ⟨.int way, rfl, rfl, _, rfl, ite2 (fun _ => ?_) (fun _ => ?_)⟩
    · refine ⟨.ref pa, rfl, .ref pp, rfl, .int (k : Nat), rfl, (k : Int), rfl, slT tP fun p1 G1 g1 t1 => ?_⟩
      refine ⟨sl1, fun p2 n2 => ?_⟩
      have o2 := TT.one (v := .int 0) n2 (.int 0)
      have g2 := g1.trans (same_upd (o := HO.tup [V.int 0]) n2)
      refine catT (t1.same (same_upd n2)) o2 (by omega) fun p3 G3 g3 t3 => ?_
      refine ⟨.ref pp, rfl, .int (k : Nat), rfl, _, rfl, slTn (tP.same (g2.trans g3)) fun q2 G4 g4 t4 => ?_⟩
      refine catT (t3.same g4) t4 (by omega) fun q3 G5 g5 t5 => ?_
      refine ⟨sl1, fun p4 n4 => ?_⟩
      obtain ⟨e3, se3⟩ := t5.sh
      have o4 := TT.one n4 se3
      have g6 := (((g2.trans g3).trans g4).trans g5).trans (same_upd (o := HO.tup [V.ref q3]) n4)
      refine catT (tA8.same g6) o4 (by omega) fun p5 G7 g7 t7 => ?_
      refine ⟨.ref ta, rfl, .int (i : Nat), rfl, _, _, rfl, rfl, _, rfl, slTn (tT8.same (g6.trans g7)) fun p6 G8 g8 t8 => ?_⟩
      exact catT (t7.same g8) t8 (by omega) fun p7 G9 g9 t9 => finT p7 _ G9 ((g6.trans g7).trans (g8.trans g9)) t9
    refine ⟨.int way, rfl, rfl, _, rfl, ite2 (fun _ => ?_) (fun _ => ?_)⟩
    · obtain ⟨ys, hy⟩ := tP.at
      refine ⟨.ref pa, rfl, .ref pp, rfl, pp, _, rfl, SqT.of hy, fun p2 n2 => ?_⟩
      have t2 := tP.rev hy n2
      have g2 := same_upd (o := HO.tup ys.reverse) n2
      refine ⟨sl1, fun p4 n4 => ?_⟩
      obtain ⟨e3, se3⟩ := t2.sh
      have o4 := TT.one n4 se3
      have g6 := g2.trans (same_upd (o := HO.tup [V.ref p2]) n4)
      refine catT (tA8.same g6) o4 (by omega) fun p5 G7 g7 t7 => ?_
      refine ⟨.ref ta, rfl, .int (i : Nat), rfl, _, _, rfl, rfl, _, rfl, slTn (tT8.same (g6.trans g7)) fun p6 G8 g8 t8 => ?_⟩
      exact catT (t7.same g8) t8 (by omega) fun p7 G9 g9 t9 => finT p7 _ G9 ((g6.trans g7).trans (g8.trans g9)) t9
    refine ⟨.ref pa, rfl, .ref pp, rfl, .int (k : Nat), rfl, (k : Int), rfl, slT tP fun p1 G1 g1 t1 => ?_⟩
    refine ⟨ov, rfl, sl1, fun p2 n2 => ?_⟩
    have o2 := TT.one n2 (so8.same g1)
    have g2 := g1.trans (same_upd (o := HO.tup [ov]) n2)
    refine catT (t1.same (same_upd n2)) o2 (by omega) fun p3 G3 g3 t3 => ?_
    refine ⟨.ref pp, rfl, .int (k : Nat), rfl, _, _, rfl, rfl, _, rfl, slTn (tP.same (g2.trans g3)) fun q2 G4 g4 t4 => ?_⟩
    refine catT (t3.same g4) t4 (by omega) fun q3 G5 g5 t5 => ?_
    refine ⟨sl1, fun p4 n4 => ?_⟩
    obtain ⟨e3, se3⟩ := t5.sh
    have o4 := TT.one n4 se3
    have g6 := (((g2.trans g3).trans g4).trans g5).trans (same_upd (o := HO.tup [V.ref q3]) n4)
    refine catT (tA8.same g6) o4 (by omega) fun p5 G7 g7 t7 => ?_
    refine ⟨.ref ta, rfl, .int (i : Nat), rfl, _, _, rfl, rfl, _, rfl, slTn (tT8.same (g6.trans g7)) fun p6 G8 g8 t8 => ?_⟩
    exact catT (t7.same g8) t8 (by omega) fun p7 G9 g9 t9 => finT p7 _ G9 ((g6.trans g7).trans (g8.trans g9)) t9

end
end Gk

set_option Elab.async false
set_option linter.all false
set_option maxRecDepth 100000
set_option maxHeartbeats 1000000
set_option pp.maxSteps 1500
set_option pp.deepTerms false
namespace Gk
open PySem PySem.Spec PyProof.Rows L2
section
variable {P : Program} {w : World} {K : PySem.W.Frag} {mg : Str → Option Value} {base : Heap}
/-! ### things judged; readings counted up -/
def sp_judged (T : Tx K mg) : Sp := fun vs H Q _ => ∃ (m : Nat) (gs : List Gt) (n v : V) (d : PyData), vs = [n, v] ∧ Tk H n (netD m gs) ∧ Sh H v d ∧ gs.length ≤ 100 ∧ GxR.TabG H T.P_is_delays ∧ GxR.TabG H T.P_is_gate_delays ∧ ∀ H', Gr H H' → Q (.bl true) H'
theorem ok_judged (T : Tx K mg) (B : Tb base T) : FnOk P w K mg base CX0 6 T.f_judged T.fd_judged ["_law_net_here", "_law_thing"] (sp_judged T) := by
  refine T.F_judged.ok sc_judged (fun vs H Q E h => ?_) (fun cdv A outer s H vs Q E hr h => ?_)
  · obtain ⟨m, gs, n, v, d, rfl, _⟩ := h
    rfl
  · obtain ⟨m, gs, n, v, d, rfl, tn, sh, g100, tab, tab2, q⟩ := h
    refine ⟨_, (pss_cons (ps_set (i := 2) sc_judged.nd rfl (by first | exact .inl rfl | exact .inr rfl) (pe_call (ok_is_delays T B) (hr.mono (by decide)) (by rfl) T.g_is_delays T.F_is_delays.kp T.b_is_delays .nil pass0 (pa_cons (pv 0) (pa_cons (pv 1) pa_nil)))) (pss_one (ps_ret (pe_and (pe_callB call_isi (by rfl) T.m_isinstance (by decide +kernel) (pa_cons (pv 2) (pa_cons (pe_bltn (v := .ty "bool") (u := .type "bool") (by rfl) T.m_bool (by decide +kernel) rfl) pa_nil))) (pe_and (pe_cmpR op_eq (pv 2) (pe_call (ok_is T) (hr.mono (by decide)) (by rfl) T.g_is T.F_is.kp T.b_is .nil pass0 (pa_cons (pv 0) (pa_cons (pv 1) pa_nil))) (nomark _)) (pe_one (pe_cmpR op_eq (pe_call (ok_is_delays T B) (hr.mono (by decide)) (by rfl) T.g_is_delays T.F_is_delays.kp T.b_is_delays .nil pass0 (pa_cons (pv 0) (pa_cons (pv 1) pa_nil))) (pv 2) (nomark _)))))))), ?_⟩
    refine ⟨n, rfl, v, rfl, m, gs, _, _, d, rfl, tn, sh, tab, tab2, fun H1 g1 => ?_⟩
    refine ⟨.bl (delaysD gs d), rfl, _, _, _, _, _, rfl, .ty _, (Sh.bl (H := H1) (delaysD gs d)).ty, kit_ty (kitBool (.bool (delaysD gs d))), _, rfl, iteT ?_⟩
    refine ⟨.bl (delaysD gs d), rfl, n, rfl, v, rfl, m, gs, n, v, d, rfl, tn.gr g1, sh.gr g1, g100, rfl, _, rfl, ?_⟩
    rw [decide_eq_true rfl]
    refine iteT ?_
    refine ⟨n, rfl, v, rfl, m, gs, n, v, d, rfl, tn.gr g1, sh.gr g1, g1.2 _ tab, g1.2 _ tab2, fun H2 g2 => ⟨.bl (delaysD gs d), rfl, rfl, ?_⟩⟩
    rw [decide_eq_true rfl]
    exact q H2 (g1.trans g2)
def sp_readings (K : PySem.W.Frag) : Sp := fun vs H Q _ => ∃ (nv : V) (m : Nat) (gs : List Gt), vs = [nv] ∧ Tk H nv (netD m gs) ∧ NetOk m gs ∧ gs.length ≤ 64 ∧ ∀ r H', Same H H' → Tk H' (.ref r) (delsD (rdTo gs gs.length)) → Q (.ref r) H'
theorem ok_readings (T : Tx K mg) : FnOk P w K mg base CX0 1 T.f_readings T.fd_readings ["_law_net_here"] (sp_readings K) := by
  refine T.F_readings.ok sc_readings (fun vs H Q E h => ?_) (fun cdv A outer s H vs Q E hr h => ?_)
  · obtain ⟨nv, m, gs, rfl, _⟩ := h
    rfl
  · obtain ⟨nv, m, gs, rfl, tn, okn, g64, q⟩ := h
    refine ⟨_, (pss_cons (ps_set (i := 1) sc_readings.nd rfl (by first | exact .inl rfl | exact .inr rfl) (pe_lst pa_nil)) (pss_cons (ps_for PassesOwn.never rfl (pi_range1 (by rfl) T.m_range (pa_cons (pe_callB call_len_seq (by rfl) T.m_len PySem.boot_len (pa_cons (pe_ix ix_tup (pv 0) pe_int (fun _ _ => rfl)) pa_nil)) pa_nil)) (pg_name (i := 2) sc_readings.nd rfl (by first | exact .inl rfl | exact .inr rfl)) (pss_one (ps_for PassesOwn.never rfl (pi_range1 (by rfl) T.m_range (pa_cons (pe_callB call_len_seq (by rfl) T.m_len PySem.boot_len (pa_cons (pe_ix ix_tup (pe_ix ix_tup (pe_ix ix_tup (pv 0) pe_int (fun _ _ => rfl)) (pv 2) (fun _ _ => rfl)) pe_int (fun _ _ => rfl)) pa_nil)) pa_nil)) (pg_name (i := 3) sc_readings.nd rfl (by first | exact .inl rfl | exact .inr rfl)) (pss_one (ps_expr (pe_bm PySem.F.plainAttrs_list PySem.F.slot_list_append PySem.F.type_list_append mt_append (pv 1) (pa_cons (pe_tup (pa_cons (pv 2) (pa_cons (pv 3) pa_nil))) pa_nil))))))) (pss_one (ps_ret (pe_callTy call_tuple_of (by rfl) T.m_tuple (by decide +kernel) (pa_cons (pv 1) pa_nil)))))), ?_⟩
    obtain ⟨na, ga, gx, rfl, hn, hg, tgx⟩ := tn.net_inv
    have lg : gx.length = gs.length := by rw [tgx.length, List.length_map]
    refine ⟨Nat.zero_le _, fun F nF => ?_⟩
    have s1 := same_upd (o := (HO.lst [])) nF
    have h1 : upd H F (HO.lst []) F = some (HO.lst []) := upd_same
    generalize upd H F (HO.lst []) = H1 at s1 h1 ⊢
    refine ⟨.ref na, rfl, na, _, 1, .ref ga, rfl, rfl, SqT.of (s1 _ _ hn), rfl, ga, _, rfl, .inr (SqT.of (s1 _ _ hg)), _, rfl, by omega, by omega, ?_⟩
    rw [Int.toNat_natCast, lg]
    have nF0 := nF
    have tk0 : ∀ (H' : Hp), Same H (hd1 F H') → ∀ {b xs}, H b = some (HO.tup xs) → H' b = some (.tup xs) := fun H' sm b xs e => hd1_le _ _ (sm _ _ e)
    refine for_range (lo := 0) (n := gs.length) (fun i σ H' => ∃ y2 y3 acc, σ = [some (.ref na), some (.ref F), y2, y3] ∧ Same H (hd1 F H') ∧ H' F = some (.lst acc) ∧ TkAll (hd1 F H') acc ((rdTo gs i).map rowD)) ⟨_, _, [], rfl, hd1_of s1 nF, h1, .nil⟩ ?_ ?_
    · rintro i σ H2 hi ⟨y2, y3, acc, rfl, s2, hF, ta⟩
      have hgx : gx[i]? = some (gx[i]'(by omega)) := List.getElem?_eq_getElem _
      revert hgx
      generalize gx[i]'(by omega) = y
      intro hgx
      obtain ⟨g, hgj, tgt⟩ := tgx.at hgx
      obtain ⟨wa, wi, rfl, hw, hwi⟩ := tgt.gt_inv
      have ei : insAt gs i = g.2.length := by unfold insAt; rw [hgj]
      have i3 := insAt_3 okn i
      refine ⟨.ref na, rfl, na, _, 1, .ref ga, rfl, rfl, SqT.of (tk0 H2 s2 hn), rfl, .int (0 + (i : Nat)), rfl, ga, _, _, .ref wa, rfl, rfl, SqT.of (tk0 H2 s2 hg), atI_0 hgx, wa, _, 1, .ref wi, rfl, rfl, SqT.of (tk0 H2 s2 hw), rfl, wi, _, rfl, .inr (SqT.of (tk0 H2 s2 hwi)), ?_⟩
      rw [List.length_map, List.length_map, ← ei]
      refine ⟨_, rfl, by omega, by omega, ?_⟩
      rw [Int.toNat_natCast]
      refine for_range (lo := 0) (n := insAt gs i) (fun k σ H' => ∃ y3 acc, σ = [some (.ref na), some (.ref F), some (.int (0 + (i : Nat))), y3] ∧ Same H (hd1 F H') ∧ H' F = some (.lst acc) ∧ TkAll (hd1 F H') acc ((rdTo gs i ++ (rdRow gs i).take k).map rowD)) ⟨_, acc, rfl, s2, hF, by rw [List.take_zero, List.append_nil]; exact ta⟩ ?_ ?_
      · rintro k σ H3 hk ⟨y3, acc3, rfl, s3, hF3, ta3⟩
        refine ⟨.ref F, rfl, .inl ⟨rfl, _, SqL.of hF3⟩, .int (0 + (i : Nat)), rfl, .int (0 + (k : Nat)), rfl, sl2, fun p np => ?_⟩
        have s4 := same_upd (o := (HO.tup [V.int (0 + (i : Nat)), V.int (0 + (k : Nat))])) np
        have h4 : upd H3 p (HO.tup [V.int (0 + (i : Nat)), V.int (0 + (k : Nat))]) p = some (HO.tup [V.int (0 + (i : Nat)), V.int (0 + (k : Nat))]) := upd_same
        generalize upd H3 p (HO.tup [V.int (0 + (i : Nat)), V.int (0 + (k : Nat))]) = H4 at s4 h4 ⊢
        have pF : p ≠ F := fun z => by rw [z, hF3] at np; cases np
        refine ⟨F, _, _, rfl, rfl, s4 _ _ hF3, ?_, ?_⟩
        · have := ta3.length
          have h3 := rdTo_len okn i
          have h4 := rdRow_len gs i
          rw [List.length_map, List.length_append, List.length_take] at this
          exact Nat.lt_of_lt_of_le (show _ < 1000 by omega) (by decide)
        · refine ⟨_, _, rfl, (s3.trans (hd1_same s4)).trans hd1_upd, upd_same, ?_⟩
          rw [rdRow_take hk, ← List.append_assoc, List.map_append]
          refine ((ta3.same (hd1_same s4)).same hd1_upd).append (.cons ?_ .nil)
          refine Tk.same hd1_upd ?_
          rw [show (0 : Int) + (i : Nat) = (i : Nat) by omega, show (0 : Int) + (k : Nat) = (k : Nat) by omega] at h4
          exact row_new (r := [(i : Int), (k : Nat)]) (by rw [hd1_at pF]; exact h4)
      · rintro σ H3 ⟨y3, acc3, rfl, s3, hF3, ta3⟩
        refine ⟨_, _, acc3, rfl, s3, hF3, ?_⟩
        rw [List.take_of_length_le (by rw [rdRow_len]; exact Nat.le_refl _)] at ta3
        rw [rdTo_succ]
        exact ta3
    · rintro σ H2 ⟨y2, y3, acc, rfl, s2, hF, ta⟩
      refine ⟨.ref F, rfl, F, _, rfl, .inl ⟨SqL.of hF, fun p np => ?_⟩⟩
      exact q p _ (Same.trans (fun b o e => hd1_le _ _ (s2 b o e)) (same_upd np)) (.tup upd_same ((ta.same hd1_le).same (same_upd np)))

end
end Gk

set_option Elab.async false
set_option linter.all false
set_option maxRecDepth 100000
set_option maxHeartbeats 1000000
set_option pp.maxSteps 1500
set_option pp.deepTerms false
namespace Gk
open PySem PySem.Spec PyProof.Rows L2
section
variable {P : Program} {w : World} {K : PySem.W.Frag} {mg : Str → Option Value} {base : Heap}
mutual
theorem Tk.sh {H : Hp} : ∀ {v : V} {d : PyData}, Tk H v d → noL d = true → Sh H v d
  | _, _, .bl b, _ => .bl b
  | _, _, .int i, _ => .int i
  | _, _, .str x, _ => .str x
  | _, _, .lst h t, n => by cases n
  | _, _, .tup h t, n => .tup h (t.sh n)
theorem TkAll.sh {H : Hp} : ∀ {vs : List V} {ds : List PyData}, TkAll H vs ds → noLs ds = true → ShAll H vs ds
  | _, _, .nil, _ => .nil
  | _, _, .cons (d := d) (ds := ds) h t, n => by
    have n' : noL d = true ∧ noLs ds = true := Bool.and_eq_true_iff.mp n
    exact .cons (h.sh n'.1) (t.sh n'.2)
end

/-! ### sizes of waves -/
theorem fitw_n {i : Int} {k M : Nat} (h : i.natAbs < 2 ^ k) (hk : k ≤ 8) : Fit (10 ^ 39) k M (.int i) := by
  have : (2 : Nat) ^ k ≤ 2 ^ 8 := Nat.pow_le_pow_right (by decide) hk
  exact ⟨decide_eq_true (Nat.le_trans (show i.natAbs ≤ 256 by omega) (by decide)), int_weight (by omega), Nat.zero_le _⟩
theorem fitw_map {α : Type} {f : α → PyData} {B n M : Nat} : ∀ l : List α, (∀ x ∈ l, Fit B n M (f x)) → FitL B ((n + 1) * l.length) M (l.map f)
  | [], _ => ⟨rfl, Nat.le_refl _, Nat.zero_le _⟩
  | x :: r, h => by
    have a := (FitL.one (h x (List.mem_cons_self ..))).app (fitw_map (f := f) r fun y hy => h y (List.mem_cons_of_mem _ hy))
    exact ⟨a.1, Nat.le_trans a.2.1 (by rw [List.length_cons, Nat.mul_succ]; omega), a.2.2⟩

theorem Tabs.frF {H H' : Hp} {Ps : List Addr} {d l : Addr} {n : Int} (t : Tabs H Ps) (D : DeckF H d l n) (f : Fr d l H H') : Tabs H' Ps := fun P hP => tab_frF D f (t P hP)
theorem Tabs.gr {H H' : Hp} {Ps : List Addr} (t : Tabs H Ps) (g : Gr H H') : Tabs H' Ps := fun P hP => g.2 _ (t P hP)
theorem noL_dels (D : List (List Int)) : noL (delsD D) = true := noLs_map noL_row _
theorem delays_ok {gs : List Gt} {DD : List (List Int)} (sh : Shape gs DD) (nn : ∀ d ∈ DD, ∀ x ∈ d, 0 ≤ x) : delaysD gs (delsD DD) = true := by
  show (decide ((DD.map rowD).length = gs.length) && (gs.zip (DD.map rowD)).all fun z => gateDelD z.1.2.length z.2) = true
  rw [List.length_map, decide_eq_true sh.1, Bool.true_and]
  refine List.all_eq_true.mpr fun z hz => ?_
  obtain ⟨k, hk⟩ := List.getElem?_of_mem hz
  rw [List.getElem?_zip_eq_some] at hk
  obtain ⟨h1, h2⟩ := hk
  rw [List.getElem?_map] at h2
  obtain ⟨r, hr, e⟩ := Option.map_eq_some_iff.mp h2
  rw [← e]
  have l := sh.2 k _ r h1 hr
  show (decide ((r.map PyData.int).length = z.1.2.length) && (r.map PyData.int).all timeD) = true
  rw [List.length_map, decide_eq_true l, Bool.true_and]
  refine List.all_eq_true.mpr fun y hy => ?_
  obtain ⟨x, hx, rfl⟩ := List.mem_map.mp hy
  exact decide_eq_true (nn r (List.mem_of_getElem? hr) x hx)
theorem at_most {x : Int} (h0 : 0 ≤ x) (h1 : x < 3) : ∃ v : Int, atI [V.int 3, .int 20, .int (10 ^ (30 : Int).toNat + 1)] x = some (.int v) ∧ 0 < v ∧ v ≤ 1000000000000000000000000000000000000 := by
  have : x = 0 ∨ x = 1 ∨ x = 2 := by omega
  rcases this with rfl | rfl | rfl
  · exact ⟨3, rfl, by decide, by decide⟩
  · exact ⟨20, rfl, by decide, by decide⟩
  · exact ⟨_, rfl, by decide, by decide⟩
theorem fit_nod {m : Nat} {gs : List Gt} (okn : NetOk m gs) (h : gs.length ≤ 40) : (delsD (nodD gs)).showable = true ∧ (delsD (nodD gs)).shown.length ≤ sizeLine ∧ (delsD (nodD gs)).depth ≤ 50 := by
  have f := fitw_map (f := rowD) (B := 10 ^ 39) (n := 9) (M := 1) (nodD gs) fun rr hr => by
    obtain ⟨g, hg, rfl⟩ := List.mem_map.mp hr
    obtain ⟨k, hk⟩ := List.getElem?_of_mem hg
    have l3 := (okn k g hk).2.2.1
    have := fitw_map (f := PyData.int) (B := 10 ^ 39) (n := 2) (M := 0) (List.replicate g.2.length 0) fun t ht => by rw [(List.mem_replicate.mp ht).2]; exact fitw_n (by decide) (by decide)
    exact (Fit.tup this).mono (Nat.le_refl _) (by rw [List.length_replicate]; omega) (Nat.le_refl _)
  have g := (Fit.tup f).mono (Nat.le_refl _) (show (9 + 1) * (nodD gs).length ≤ 50000 by unfold nodD; rw [List.length_map]; omega) (show 1 + 1 ≤ 3 by decide)
  exact g.fine (by decide) (Nat.le_refl _) (by decide)
theorem fit_rd {m : Nat} {gs : List Gt} (okn : NetOk m gs) (h : gs.length ≤ 40) : (delsD (rdTo gs gs.length)).showable = true ∧ (delsD (rdTo gs gs.length)).shown.length ≤ sizeLine ∧ (delsD (rdTo gs gs.length)).depth ≤ 50 := by
  have f := fitw_map (f := rowD) (B := 10 ^ 39) (n := 18) (M := 1) (rdTo gs gs.length) fun rr hr => by
    obtain ⟨l, hl, hrl⟩ := List.mem_flatten.mp hr
    obtain ⟨k, hk, rfl⟩ := List.mem_map.mp hl
    obtain ⟨p, hp, rfl⟩ := List.mem_map.mp hrl
    have k40 := List.mem_range.mp hk
    have p3 := List.mem_range.mp hp
    have i3 := insAt_3 okn k
    have := fitw_map (f := PyData.int) (B := 10 ^ 39) (n := 8) (M := 0) [(k : Int), (p : Nat)] fun t ht => by
      rcases List.mem_cons.mp ht with z | z
      · rw [z]; exact fitw_n (by show k < 256; omega) (by decide)
      · rw [List.mem_singleton.mp z]; exact fitw_n (by show p < 256; omega) (by decide)
    exact (Fit.tup this).mono (Nat.le_refl _) (by show (8 + 1) * 2 ≤ 18; decide) (Nat.le_refl _)
  have l := rdTo_len okn gs.length
  have g := (Fit.tup f).mono (Nat.le_refl _) (show (18 + 1) * (rdTo gs gs.length).length ≤ 50000 by omega) (show 1 + 1 ≤ 3 by decide)
  exact g.fine (by decide) (Nat.le_refl _) (by decide)
theorem rep_intv (x : Int) (n : Nat) : (List.replicate ((n : Int)).toNat [V.int x]).flatten = (List.replicate n x).map V.int := by
  rw [Int.toNat_natCast]
  induction n with
  | zero => rfl
  | succ n ih =>
    rw [List.replicate_succ, List.flatten_cons, ih, List.replicate_succ]
    rfl
def sp_law (K : PySem.W.Frag) (Ps : List Addr) : Sp := fun vs H Q _ => ∃ (a : Addr) (ns : List Int), vs = [.ref a] ∧ SqL K H a (ns.map V.int) ∧ ns.length ≤ 63 ∧ Tabs H Ps ∧ ∀ H', Q (.bl true) H'
theorem ok_law (T : Tx K mg) (B : Tb base T) : FnG P w K mg base CX0 10 T.f_law T.fd_law ["_law_script"] (sp_law K T.tabs) := by
  refine okG0 T.F_law sc_law (fun vs H Q E h => ?_) (fun cdv A outer s H vs Q E nothing hr h => ?_)
  · obtain ⟨a, ns, rfl, _⟩ := h
    rfl
  · obtain ⟨a, ns, rfl, hS, hlen, tabs, q⟩ := h
    refine ⟨_, (pss_cons (ps_set (i := 1) sc_law.nd rfl (by first | exact .inl rfl | exact .inr rfl) (pe_call (ok_deck T) (hr.mono (by decide)) (by rfl) T.g_deck T.F_deck.kp T.b_deck .nil pass0 (pa_cons (pv 0) pa_nil))) (pss_cons (ps_for PassesOwn.never rfl (pi_range1 (by rfl) T.m_range (pa_cons pe_int pa_nil)) (pg_name (i := 2) sc_law.nd rfl (by first | exact .inl rfl | exact .inr rfl)) (pss_cons (ps_set (i := 3) sc_law.nd rfl (by first | exact .inl rfl | exact .inr rfl) (pe_cmpR op_eq (pe_call (ok_draw T) (hr.mono (by decide)) (by rfl) T.g_draw T.F_draw.kp T.b_draw .nil pass0 (pa_cons (pv 1) (pa_cons pe_int pa_nil))) pe_int (nomark _))) (pss_cons (ps_set (i := 4) sc_law.nd rfl (by first | exact .inl rfl | exact .inr rfl) (pe_call (ok_net T) (hr.mono (by decide)) (by rfl) T.g_net T.F_net.kp T.b_net .nil pass0 (pa_cons (pv 1) (pa_cons (pe_ix ix_list (pe_lst (pa_cons (pe_op op_add pe_int (pe_call (ok_draw T) (hr.mono (by decide)) (by rfl) T.g_draw T.F_draw.kp T.b_draw .nil pass0 (pa_cons (pv 1) (pa_cons pe_int pa_nil)))) (pa_cons pe_int pa_nil))) (pe_callTy call_int1 (by rfl) T.m_int (by decide +kernel) (pa_cons (pv 3) pa_nil)) (fun _ _ => rfl)) (pa_cons (pe_cmpR op_eq (pe_call (ok_draw T) (hr.mono (by decide)) (by rfl) T.g_draw T.F_draw.kp T.b_draw .nil pass0 (pa_cons (pv 1) (pa_cons pe_int pa_nil))) pe_int (nomark _)) pa_nil))))) (pss_cons (ps_set (i := 5) sc_law.nd rfl (by first | exact .inl rfl | exact .inr rfl) (pe_ix ix_list (pe_lst (pa_cons pe_int (pa_cons pe_int (pa_cons (pe_op op_add (pe_op op_pow pe_int pe_int) pe_int) pa_nil)))) (pe_call (ok_draw T) (hr.mono (by decide)) (by rfl) T.g_draw T.F_draw.kp T.b_draw .nil pass0 (pa_cons (pv 1) (pa_cons pe_int pa_nil))) (fun _ _ => rfl))) (pss_cons (ps_set (i := 6) sc_law.nd rfl (by first | exact .inl rfl | exact .inr rfl) (pe_call (ok_delays T) (hr.mono (by decide)) (by rfl) T.g_delays T.F_delays.kp T.b_delays .nil pass0 (pa_cons (pv 1) (pa_cons (pv 4) (pa_cons (pv 5) pa_nil))))) (pss_cons (ps_if (pt_cmpR op_isnot_bl (pe_call (ok_is_delays T B) (hr.mono (by decide)) (by rfl) T.g_is_delays T.F_is_delays.kp T.b_is_delays .nil pass0 (pa_cons (pv 4) (pa_cons (pv 6) pa_nil))) pe_bl (nomark _)) (pss_one (ps_ret pe_bl)) pss_nil) (pss_cons (ps_for PassesOwn.never rfl (pi_range1 (by rfl) T.m_range (pa_cons pe_int pa_nil)) (pg_name (i := 7) sc_law.nd rfl (by first | exact .inl rfl | exact .inr rfl)) (pss_one (ps_if (pt_not (pt_val (pe_call (ok_judged T B) (hr.mono (by decide)) (by rfl) T.g_judged T.F_judged.kp T.b_judged .nil pass0 (pa_cons (pv 4) (pa_cons (pe_call (ok_bent T) (hr.mono (by decide)) (by rfl) T.g_bent T.F_bent.kp T.b_bent .nil pass0 (pa_cons (pv 1) (pa_cons (pv 6) pa_nil))) pa_nil))))) (pss_one (ps_ret pe_bl)) pss_nil))) (pss_cons (ps_set (i := 8) sc_law.nd rfl (by first | exact .inl rfl | exact .inr rfl) (pe_callTy call_tuple_of (by rfl) T.m_tuple (by decide +kernel) (pa_cons (pe_lc (own := [("_law_table_here", 12), ("_law_ins", 13)]) (by rfl) sc_law.nd (pi_tup (pe_ix ix_tup (pv 4) pe_int (fun _ _ => rfl))) (blkOk_by (own := [("_law_table_here", 12), ("_law_ins", 13)]) (N := ["_law_script", "_law_deck_here", "_law_turn", "_law_great", "_law_net_here", "_law_most", "_law_delays_here", "_law_k", "_law_noughts", "_law_far", "_law_again", "_law_thing", "_law_table_here", "_law_ins"]) (sc := defScope s_law) (by decide +kernel)) (fun _ _ _ _ _ => (show PG _ _ (gTup K 2 _) from pg_tup rfl (pgs_cons (pg_name (i := 12) sc_law.nd rfl (by first | exact .inl rfl | exact .inr rfl)) (pgs_cons (pg_name (i := 13) sc_law.nd rfl (by first | exact .inl rfl | exact .inr rfl)) pgs_nil)))) (fun _ _ _ _ _ => pts_nil) (fun _ _ _ _ _ => (pe_op (op_repT1 : OpR _ _ (rRepT1 K)) (pe_tup (pa_cons pe_int pa_nil)) (pe_callB (show CallR _ _ (rLenK K) from call_len_seq) (by rfl) T.m_len PySem.boot_len (pa_cons (pv 13) pa_nil))))) pa_nil))) (pss_cons (ps_set (i := 9) sc_law.nd rfl (by first | exact .inl rfl | exact .inr rfl) (pe_callTy call_tuple_of (by rfl) T.m_tuple (by decide +kernel) (pa_cons (pe_lc (own := [("_law_table_here", 12), ("_law_ins", 13)]) (by rfl) sc_law.nd (pi_tup (pe_ix ix_tup (pv 4) pe_int (fun _ _ => rfl))) (blkOk_by (own := [("_law_table_here", 12), ("_law_ins", 13)]) (N := ["_law_script", "_law_deck_here", "_law_turn", "_law_great", "_law_net_here", "_law_most", "_law_delays_here", "_law_k", "_law_noughts", "_law_far", "_law_again", "_law_thing", "_law_table_here", "_law_ins"]) (sc := defScope s_law) (by decide +kernel)) (fun _ _ _ _ _ => (show PG _ _ (gTup K 2 _) from pg_tup rfl (pgs_cons (pg_name (i := 12) sc_law.nd rfl (by first | exact .inl rfl | exact .inr rfl)) (pgs_cons (pg_name (i := 13) sc_law.nd rfl (by first | exact .inl rfl | exact .inr rfl)) pgs_nil)))) (fun _ _ _ _ _ => pts_nil) (fun _ _ _ _ _ => (pe_op (op_repT1 : OpR _ _ (rRepT1 K)) (pe_tup (pa_cons (pe_op op_add (pe_op op_pow pe_int pe_int) (pe_call (ok_draw6 T) (hr.mono (by decide)) (by rfl) T.g_draw T.F_draw.kp T.b_draw .nil pass0 (pa_cons (pv 1) (pa_cons (pe_op op_pow pe_int pe_int) pa_nil)))) pa_nil)) (pe_callB (show CallR _ _ (rLenK K) from call_len_seq) (by rfl) T.m_len PySem.boot_len (pa_cons (pv 13) pa_nil))))) pa_nil))) (pss_cons (ps_if (pt_cmpR op_isnot_bl (pe_call (ok_is_delays T B) (hr.mono (by decide)) (by rfl) T.g_is_delays T.F_is_delays.kp T.b_is_delays .nil pass0 (pa_cons (pv 4) (pa_cons (pv 9) pa_nil))) pe_bl (nomark _)) (pss_one (ps_ret pe_bl)) pss_nil) (pss_cons (ps_for PassesOwn.never rfl (pi_range1 (by rfl) T.m_range (pa_cons pe_int pa_nil)) (pg_name (i := 10) sc_law.nd rfl (by first | exact .inl rfl | exact .inr rfl)) (pss_one (ps_if (pw_or (pt_cmpR op_ne (pe_callB (call_repr nothing hr.units) (by rfl) T.m_repr (by decide +kernel) (pa_cons (pe_call (ok_no_delays T B) (hr.mono (by decide)) (by rfl) T.g_no_delays T.F_no_delays.kp T.b_no_delays .nil pass0 (pa_cons (pv 4) pa_nil)) pa_nil)) (pe_callB (call_repr nothing hr.units) (by rfl) T.m_repr (by decide +kernel) (pa_cons (pv 8) pa_nil)) (nomark _)) (pw_or1 (pt_cmpR op_ne (pe_callB (call_repr nothing hr.units) (by rfl) T.m_repr (by decide +kernel) (pa_cons (pe_call (ok_readings_of T B) (hr.mono (by decide)) (by rfl) T.g_readings_of T.F_readings_of.kp T.b_readings_of .nil pass0 (pa_cons (pv 4) pa_nil)) pa_nil)) (pe_callB (call_repr nothing hr.units) (by rfl) T.m_repr (by decide +kernel) (pa_cons (pe_call (ok_readings T) (hr.mono (by decide)) (by rfl) T.g_readings T.F_readings.kp T.b_readings .nil pass0 (pa_cons (pv 4) pa_nil)) pa_nil)) (nomark _)))).pt (pss_one (ps_ret pe_bl)) pss_nil))) (pss_one (ps_for PassesOwn.never rfl (pi_list (pe_lst (pa_cons pe_non (pa_cons pe_int (pa_cons pe_bl (pa_cons pe_str (pa_cons (pe_tup pa_nil) (pa_cons (pe_lstN pa_nil) (pa_cons pe_dnewK (pa_cons (pe_tup (pa_cons (pe_tup pa_nil) pa_nil)) (pa_cons (pe_op op_catA (pv 8) (pe_slice sl_tupA (pv 8) po_none (po_some pe_int))) (pa_cons (pe_slice sl_tupA (pv 8) (po_some pe_int) po_none) (pa_cons (pe_callTy NumZ.call_listN (by rfl) T.m_list (by decide +kernel) (pa_cons (pv 8) pa_nil)) pa_nil))))))))))))) (pg_name (i := 11) sc_law.nd rfl (by first | exact .inl rfl | exact .inr rfl)) (pss_one (ps_if (pt_not (pt_val (pe_call (ok_judged T B) (hr.mono (by decide)) (by rfl) T.g_judged T.F_judged.kp T.b_judged .nil pass0 (pa_cons (pv 4) (pa_cons (pv 11) pa_nil))))) (pss_one (ps_ret pe_bl)) pss_nil))))))))))))))) (pss_one (ps_ret pe_bl)))), ?_⟩
    refine ⟨.ref a, rfl, a, ns, rfl, hS, hlen, fun H1 d l s1 D1 => ?_⟩
    have t1 : Tabs H1 T.tabs := tabs.gr (Gr.of s1)
    refine ⟨3, rfl, by decide, by decide, ?_⟩
    refine for_range (lo := 0) (n := (3 : Int).toNat) (fun i σ H' => ∃ y2 y3 y4 y5 y6 y7 y8 y9 y10 y11 y12 y13, σ = [some (.ref a), some (.ref d), y2, y3, y4, y5, y6, y7, y8, y9, y10, y11, y12, y13] ∧ DeckF H' d l (200000 * i) ∧ Tabs H' T.tabs)
      ⟨_, _, _, _, _, _, _, _, _, _, _, _, rfl, D1.mono (by omega), t1⟩ ?_ ?_
    · rintro i σ H2 hi ⟨y2, y3, y4, y5, y6, y7, y8, y9, y10, y11, y12, y13, rfl, D2, t2⟩
      have hi' : i < 3 := hi
      refine ⟨.ref d, rfl, d, l, 8, _, rfl, D2, by omega, by decide, by decide, fun H3 f D3 fr3 f0 f1 => ⟨rfl, ?_⟩⟩
      have t3 := t2.frF D2 fr3
      generalize decide (V.int f = V.int 1) = gr
      refine ⟨.ref d, rfl, .ref d, rfl, d, l, 8, _, rfl, D3, by omega, by decide, by decide, fun H4 x D4 fr4 x0 x1 => ⟨_, _, rfl, rfl, ?_⟩⟩
      have t4 := t3.frF D3 fr4
      refine ⟨sl2, fun p np => ?_⟩
      have s5 := same_upd (o := (HO.lst [V.int (1 + x), V.int 40])) np
      have h5 : upd H4 p (HO.lst [V.int (1 + x), V.int 40]) p = some (HO.lst [V.int (1 + x), V.int 40]) := upd_same
      generalize upd H4 p (HO.lst [V.int (1 + x), V.int 40]) = H5 at s5 h5 ⊢
      refine ⟨.bl gr, rfl, .inr ⟨gr, rfl, ?_⟩⟩
      obtain ⟨c, hc, c1, c40⟩ : ∃ c : Nat, atI [V.int (1 + x), V.int 40] (if gr = true then 1 else 0) = some (.int (c : Int)) ∧ 1 ≤ c ∧ c ≤ 40 := by
        cases gr
        · exact ⟨(1 + x).toNat, by show some (V.int (1 + x)) = _; rw [show ((1 + x).toNat : Int) = 1 + x by omega], by omega, by omega⟩
        · exact ⟨40, rfl, by decide, by decide⟩
      refine ⟨p, _, _, _, rfl, rfl, SqL.of h5, hc, ?_⟩
      have D5 := D4.same s5
      have t5 := t4.gr (Gr.of s5)
      refine ⟨.ref d, rfl, d, l, 2, _, rfl, D5, by omega, by decide, by decide, fun H6 fo D6 fr6 _ _ => ⟨rfl, ?_⟩⟩
      have t6 := t5.frF D5 fr6
      generalize decide (V.int fo = V.int 1) = fb
      refine ⟨d, l, _, c, fb, rfl, D6, by omega, c1, by omega, fun r H7 m gs D7 fr7 tn m1 m4 lg okn => ?_⟩
      have t7 := t6.frF D6 fr7
      refine ⟨_, _, rfl, rfl, ⟨by decide, by decide, by decide⟩, _, _, rfl, rfl, sl3, fun p8 np8 => ?_⟩
      have op := D7.off np8
      have s8 := same_upd (o := (HO.lst [V.int 3, .int 20, .int (10 ^ (30 : Int).toNat + 1)])) np8
      have h8 : upd H7 p8 (HO.lst [V.int 3, .int 20, .int (10 ^ (30 : Int).toNat + 1)]) p8 = some (HO.lst [V.int 3, .int 20, .int (10 ^ (30 : Int).toNat + 1)]) := upd_same
      generalize upd H7 p8 (HO.lst [V.int 3, .int 20, .int (10 ^ (30 : Int).toNat + 1)]) = H8 at s8 h8 ⊢
      have D8 := D7.same s8
      refine ⟨.ref d, rfl, d, l, 3, _, rfl, D8, by omega, by decide, by decide, fun H9 v D9 fr9 v0 v1 => ?_⟩
      obtain ⟨most, hmost, mo0, mo1⟩ := at_most v0 v1
      have t9 := (t7.gr (Gr.of s8)).frF D8 fr9
      have tn9 := (tn.same s8).ts (Ts.frF D8 fr9) (noL_net _ _)
      refine ⟨p8, _, v, .int most, rfl, rfl, SqL.of (fr9 _ _ op.1 op.2 h8), hmost, ?_⟩
      refine ⟨.ref d, rfl, .ref r, rfl, .int most, rfl, d, l, _, .ref r, m, gs, most, rfl, D9, by omega, tn9, okn, by omega, by omega, by omega, fun r2 H10 DD D10 fr10 td sh okD => ?_⟩
      have t10 := t9.frF D9 fr10
      have tn10 := tn9.ts (Ts.frF D9 fr10) (noL_net _ _)
      have lDD : DD.length = gs.length := sh.1
      have vd := delays_ok sh fun dd hd x hx => (okD dd hd x hx).1
      have l3 : ∀ rr ∈ DD, rr.length ≤ 3 := fun rr hr => by
        obtain ⟨g, hgd⟩ := List.getElem?_of_mem hr
        have hgl : g < gs.length := by have := (List.getElem?_eq_some_iff.mp hgd).1; omega
        rw [sh.2 g _ rr (List.getElem?_eq_getElem hgl) hgd]
        exact (okn g _ (List.getElem?_eq_getElem hgl)).2.2.1
      refine ⟨.ref r, rfl, .ref r2, rfl, m, gs, _, _, _, rfl, tn10, td.sh (noL_dels _), t10 _ (by simp [Tx.tabs]), t10 _ (by simp [Tx.tabs]), fun H11 g11 => ?_⟩
      rw [vd]
      refine ⟨true, true, rfl, rfl, _, rfl, iteF ?_⟩
      have D11 := D10.gr g11
      refine ⟨8, rfl, by decide, by decide, ?_⟩
      refine for_range (lo := 0) (n := (8 : Int).toNat) (fun j σ H' => ∃ y7 y8 y9 y10 y11 y12 y13, σ = [some (.ref a), some (.ref d), some (.int (0 + (i : Int))), some (.bl gr), some (.ref r), some (.int most), some (.ref r2), y7, y8, y9, y10, y11, y12, y13] ∧ DeckF H' d l (200000 * i + 40000 + 128 * j) ∧ Tabs H' T.tabs ∧ Tk H' (.ref r) (netD m gs) ∧ Tk H' (.ref r2) (delsD DD))
        ⟨_, _, _, _, _, _, _, rfl, D11.mono (by push_cast; omega), t10.gr g11, tn10.gr g11, td.gr g11⟩ ?_ ?_
      · rintro j σ H12 hj ⟨y7, y8, y9, y10, y11, y12, y13, rfl, D12, t12, tn12, td12⟩
        have hj' : j < 8 := hj
        refine ⟨.ref r, rfl, .ref d, rfl, .ref r2, rfl, d, l, r2, _, DD, rfl, D12, by omega, td12, by omega, l3, fun v13 e13 H13 D13 fr13 sh13 => ?_⟩
        have t13 := t12.frF D12 fr13
        have tn13 := tn12.ts (Ts.frF D12 fr13) (noL_net _ _)
        have td13 := td12.ts (Ts.frF D12 fr13) (noL_dels _)
        refine ⟨m, gs, _, _, e13, rfl, tn13, sh13, by omega, t13 _ (by simp [Tx.tabs]), t13 _ (by simp [Tx.tabs]), fun H14 g14 => ⟨true, rfl, iteF ?_⟩⟩
        exact ⟨_, _, _, _, _, _, _, rfl, (D13.gr g14).mono (by push_cast; omega), t13.gr g14, tn13.gr g14, td13.gr g14⟩
      rintro σ H12 ⟨y7, y8, y9, y10, y11, y12, y13, rfl, D12, t12, tn12, td12⟩
      obtain ⟨na, ga, gx, e, hn, hg, tgx⟩ := tn12.net_inv
      cases e
      have lg' : gx.length = gs.length := by rw [tgx.length, List.length_map]
      refine ⟨.ref r, rfl, r, _, 1, .ref ga, rfl, rfl, SqT.of hn, rfl, ga, rfl, ⟨_, SqT.of hg⟩, fun E1 nE1 => ?_⟩
      have oE := D12.off nE1
      refine lc_tup (K := K) (a := ga) (xs := gx) (fun j H' => Same H12 (hd1 E1 H') ∧ ∃ acc, H' E1 = some (.lst acc) ∧ TkAll (hd1 E1 H') acc ((gs.take j).map fun gt => rowD (List.replicate gt.2.length 0))) ⟨hd1_of (same_upd nE1) nE1, [], upd_same, .nil⟩ (fun j H' _ z => SqT.of (hd1_le _ _ (z.1 _ _ hg))) ?_ ?_
      · rintro j x H14 hx ⟨s14, acc, hE, ta⟩
        obtain ⟨gt, hgt, tgt⟩ := tgx.at hx
        obtain ⟨wa, wi, rfl, hw, hwi⟩ := tgt.gt_inv
        obtain ⟨ok1, ok2, ok3, ok4⟩ := okn j gt hgt
        have jl := (List.getElem?_eq_some_iff.mp hgt).1
        refine ⟨wa, _, rfl, SqT.of (hd1_le _ _ (s14 _ _ hw)), rfl, _, _, rfl, _, _, rfl, rfl, rfl, sl1, fun t nt => ?_⟩
        have u1 := same_upd (o := HO.tup [V.int 0]) nt
        refine ⟨.ref wi, rfl, wi, _, rfl, .inr (SqT.of (u1 _ _ (hd1_le _ _ (s14 _ _ hwi)))), ?_⟩
        rw [List.length_map, List.length_map]
        refine repA (k := ((gt.2.length : Nat) : Int)) upd_same (fun z => by cases z) (by omega) (by omega) (by decide) fun p15 H15 s15 hp15 => ?_
        rw [rep_intv] at hp15
        have sA := u1.trans s15
        refine ⟨acc, sA _ _ hE, ?_, (s14.trans (hd1_same sA)).trans hd1_upd, acc ++ [.ref p15], upd_same, ?_⟩
        · have := ta.length
          rw [List.length_map, List.length_take] at this
          exact Nat.lt_of_lt_of_le (show acc.length < 100 by omega) (by decide)
        · rw [List.take_add_one, hgt]
          show TkAll _ _ ((gs.take j ++ [gt]).map _)
          rw [List.map_append]
          have pE : p15 ≠ E1 := fun z => by
            rw [z, sA _ _ hE] at hp15
            cases hp15
          exact ((ta.same (hd1_same sA)).same hd1_upd).append (.cons (Tk.same hd1_upd (row_new (by rw [hd1_at pE]; exact hp15))) .nil)
      rintro H14 ⟨s14, acc, hE, ta⟩
      rw [lg', List.take_length] at ta
      have s14' : Same H12 H14 := fun b o e => hd1_le _ _ (s14 b o e)
      refine ⟨E1, _, rfl, .inl ⟨SqL.of hE, fun pN npN => ?_⟩⟩
      have s15 := same_upd (o := (HO.tup acc)) npN
      have h15 : upd H14 pN (HO.tup acc) pN = some (HO.tup acc) := upd_same
      generalize upd H14 pN (HO.tup acc) = H15 at s15 h15 ⊢
      have s1215 := s14'.trans s15
      have D15 := D12.same s1215
      have t15 := t12.gr (Gr.of s1215)
      have tn15 := tn12.same s1215
      have tNo : Tk H15 (.ref pN) (delsD (nodD gs)) := .tup h15 (by
        unfold nodD
        rw [List.map_map]
        exact (ta.same hd1_le).same s15)
      have hga15 := s1215 _ _ hg
      refine ⟨.ref r, rfl, r, _, 1, .ref ga, rfl, rfl, SqT.of (s1215 _ _ hn), rfl, ga, rfl, ⟨_, SqT.of hga15⟩, fun E2 nE2 => ?_⟩
      have oE2 := D15.off nE2
      have eN : ∀ {N : Int} {M : Int}, N ≤ M → DeckF H15 d l N → DeckF H15 d l M := fun h D => D.mono h
      refine lc_tup (K := K) (a := ga) (xs := gx) (fun j H' => DeckF H' d l (200000 * i + 60000 + 64 * j) ∧ Tabs H' T.tabs ∧ Ts H15 H' ∧ ∃ acc FD, H' E2 = some (.lst acc) ∧ TkAll H' acc (FD.map rowD) ∧ FD.length = j ∧ (∀ (g : Nat) (gt : Gt) (dd : List Int), gs[g]? = some gt → FD[g]? = some dd → dd.length = gt.2.length) ∧ ∀ dd ∈ FD, ∀ x ∈ dd, 0 ≤ x)
        ⟨(D15.same (same_upd nE2)).mono (by push_cast; omega), t15.gr (Gr.none nE2), Ts.new nE2, [], [], upd_same, .nil, rfl, fun g gt dd _ h => (by cases h), fun dd h => (by cases h)⟩ (fun j H' _ z => SqT.of (z.2.2.1 _ _ hga15)) ?_ ?_
      · rintro j x H16 hx ⟨D16, t16, ts16, acc, FD, hE2, ta2, lF, sF, nF⟩
        obtain ⟨gt, hgt, tgt⟩ := tgx.at hx
        obtain ⟨wa, wi, rfl, hw, hwi⟩ := (tgt.same s1215).gt_inv
        obtain ⟨ok1, ok2, ok3, ok4⟩ := okn j gt hgt
        have jl := (List.getElem?_eq_some_iff.mp hgt).1
        refine ⟨wa, _, rfl, SqT.of (ts16 _ _ hw), rfl, _, _, rfl, _, _, rfl, rfl, rfl, ?_⟩
        refine ⟨_, _, rfl, rfl, ⟨by decide, by decide, by decide⟩, .ref d, rfl, _, _, rfl, rfl, ⟨by decide, by decide, by decide⟩, d, l, _, _, rfl, D16, by omega, by decide, by decide, fun H17 v17 D17 fr17 v170 v171 => ⟨_, _, rfl, rfl, sl1, fun t nt => ?_⟩⟩
        have ts17 := ts16.trans (Ts.frF D16 fr17)
        have hE17 := fr17 _ _ oE2.1 oE2.2 hE2
        have ta17 := ta2.ts (Ts.frF D16 fr17) (noLs_map noL_row FD)
        have t17 := t16.frF D16 fr17
        obtain ⟨V17, hV⟩ : ∃ V17 : Int, V17 = (10 : Int) ^ (30 : Int).toNat + v17 := ⟨_, rfl⟩
        have V0 : 0 ≤ V17 := by
          have : (0 : Int) ≤ (10 : Int) ^ (30 : Int).toNat := by decide
          omega
        have u1 : Same H17 (upd H17 t (HO.tup [(fun i j => V.int (i + j)) ((10 : Int) ^ (30 : Int).toNat) v17])) := same_upd nt
        refine ⟨.ref wi, rfl, wi, _, rfl, .inr (SqT.of (u1 _ _ (ts17 _ _ hwi))), ?_⟩
        rw [List.length_map, List.length_map]
        refine repA (k := ((gt.2.length : Nat) : Int)) upd_same (fun z => by cases z) (by omega) (by omega) (by show 1 ≤ 1000; decide) fun p18 H18 s18 hp18 => ?_
        replace hp18 : H18 p18 = some (.tup ((List.replicate gt.2.length V17).map V.int)) := by
          rw [← rep_intv, hV]
          exact hp18
        have sA := u1.trans s18
        have hE18 := sA _ _ hE17
        have pE : p18 ≠ E2 := fun z => by
          rw [z, hE18] at hp18
          cases hp18
        refine ⟨acc, hE18, ?_, ((D17.same sA).upd oE2.1 oE2.2).mono (by push_cast; omega), ?_, (ts17.trans (Ts.same sA)).trans (Ts.set hE18), acc ++ [.ref p18], FD ++ [List.replicate gt.2.length V17], upd_same, ?_, ?_, ?_, ?_⟩
        · have := ta17.length
          rw [List.length_map] at this
          exact Nat.lt_of_lt_of_le (show acc.length < 100 by omega) (by decide)
        · intro P hP
          have tt := (t17.gr (Gr.of sA)) P hP
          obtain ⟨ps, e1, e2⟩ := tt
          refine ⟨ps, ?_, e2⟩
          rw [upd_ne fun z => by rw [z, hE18] at e1; cases e1]
          exact e1
        · rw [List.map_append]
          refine ((ta17.same sA).ts (Ts.set hE18) (noLs_map noL_row FD)).append (.cons ?_ .nil)
          exact Tk.ts (Ts.set hE18) (row_new hp18) (noL_row _)
        · rw [List.length_append, lF]
          rfl
        · intro g gt' dd hg' hdd
          by_cases z : g < FD.length
          · rw [List.getElem?_append_left z] at hdd
            exact sF g gt' dd hg' hdd
          · have z' : g = FD.length := by
              have := (List.getElem?_eq_some_iff.mp hdd).1
              rw [List.length_append] at this
              have : g < FD.length + 1 := this
              omega
            rw [z', List.getElem?_append_right (Nat.le_refl _), Nat.sub_self] at hdd
            cases hdd
            rw [z', lF, hgt] at hg'
            cases hg'
            exact List.length_replicate ..
        · intro dd hdd x hx
          rcases List.mem_append.mp hdd with z | z
          · exact nF dd z x hx
          · rw [List.mem_singleton.mp z] at hx
            rw [(List.mem_replicate.mp hx).2]
            exact V0
      rintro H16 ⟨D16, t16, ts16, acc2, FD, hE2, ta2, lF, sF, nF⟩
      rw [lg'] at lF
      refine ⟨E2, _, rfl, .inl ⟨SqL.of hE2, fun pF npF => ?_⟩⟩
      have s17 := same_upd (o := (HO.tup acc2)) npF
      have h17 : upd H16 pF (HO.tup acc2) pF = some (HO.tup acc2) := upd_same
      generalize upd H16 pF (HO.tup acc2) = H17 at s17 h17 ⊢
      have D17 := D16.same s17
      have t17 := t16.gr (Gr.of s17)
      have ts17 := ts16.trans (Ts.same s17)
      have tn17 := tn15.ts ts17 (noL_net _ _)
      have tNo17 := tNo.ts ts17 (noL_dels _)
      have tFa : Tk H17 (.ref pF) (delsD FD) := .tup h17 (ta2.same s17)
      refine ⟨.ref r, rfl, .ref pF, rfl, m, gs, _, _, _, rfl, tn17, tFa.sh (noL_dels _), t17 _ (by simp [Tx.tabs]), t17 _ (by simp [Tx.tabs]), fun H18 g18 => ?_⟩
      rw [delays_ok ⟨lF, sF⟩ nF]
      refine ⟨true, true, rfl, rfl, _, rfl, iteF ?_⟩
      refine ⟨2, rfl, by decide, by decide, ?_⟩
      refine for_range (lo := 0) (n := (2 : Int).toNat) (fun j σ H' => ∃ y7 y10 y11 y12 y13, σ = [some (.ref a), some (.ref d), some (.int (0 + (i : Int))), some (.bl gr), some (.ref r), some (.int most), some (.ref r2), y7, some (.ref pN), some (.ref pF), y10, y11, y12, y13] ∧ Gr H17 H')
        ⟨_, _, _, _, _, rfl, g18⟩ ?_ ?_
      · rintro j σ H19 hj ⟨y7, y10, y11, y12, y13, rfl, g19⟩
        refine ⟨.ref r, rfl, .ref r, m, gs, rfl, tn17.gr g19, okn, by omega, (t17.gr g19) _ (by simp [Tx.tabs]), fun rn H20 g20 tkn => ?_⟩
        have f0 := fit_nod okn (show gs.length ≤ 40 by omega)
        refine ⟨_, _, rfl, tkn.sh (noL_dels _), f0.1, f0.2.1, f0.2.2, ?_⟩
        refine ⟨.ref pN, rfl, _, _, rfl, ((tNo17.gr g19).gr g20).sh (noL_dels _), f0.1, f0.2.1, f0.2.2, ?_⟩
        refine ⟨rfl, _, rfl, ?_⟩
        rw [decide_eq_true rfl]
        refine iteF ?_
        have g1920 := g19.trans g20
        refine ⟨.ref r, rfl, .ref r, m, gs, rfl, tn17.gr g1920, okn, by omega, (t17.gr g1920) _ (by simp [Tx.tabs]), fun rd H21 g21 tkd => ?_⟩
        have f1 := fit_rd okn (show gs.length ≤ 40 by omega)
        refine ⟨_, _, rfl, tkd.sh (noL_dels _), f1.1, f1.2.1, f1.2.2, ?_⟩
        refine ⟨.ref r, rfl, .ref r, m, gs, rfl, (tn17.gr g1920).gr g21, okn, by omega, fun re H22 s22 tke => ?_⟩
        refine ⟨_, _, rfl, tke.sh (noL_dels _), f1.1, f1.2.1, f1.2.2, rfl, _, rfl, ?_⟩
        rw [decide_eq_true rfl]
        refine iteF ?_
        exact ⟨_, _, _, _, _, rfl, (g1920.trans g21).trans (Gr.of s22)⟩
      rintro σ H19 ⟨y7, y10, y11, y12, y13, rfl, g19⟩
      have tN19 := tNo17.gr g19
      obtain ⟨_, zs, e, hz, tz⟩ := tN19.tup_inv
      cases e
      refine ⟨Nat.zero_le _, fun e1 n1 => ?_⟩
      have a1 := same_upd (o := (HO.tup [])) n1
      have k1 : upd H19 e1 (HO.tup []) e1 = some (HO.tup []) := upd_same
      generalize upd H19 e1 (HO.tup []) = A1 at a1 k1 ⊢
      refine ⟨Nat.zero_le _, fun L2 n2 m2 => ?_⟩
      have a2 := same_upd (o := (HO.lst [])) n2
      have k2 : upd A1 L2 (HO.lst []) L2 = some (HO.lst []) := upd_same
      generalize upd A1 L2 (HO.lst []) = A2 at a2 k2 ⊢
      refine fun dk n3 => ?_
      have a3 := same_upd (o := (HO.dK [])) n3
      have k3 : upd A2 dk (HO.dK []) dk = some (HO.dK []) := upd_same
      generalize upd A2 dk (HO.dK []) = A3 at a3 k3 ⊢
      refine ⟨Nat.zero_le _, fun e4 n4 => ?_⟩
      have a4 := same_upd (o := (HO.tup [])) n4
      have k4 : upd A3 e4 (HO.tup []) e4 = some (HO.tup []) := upd_same
      generalize upd A3 e4 (HO.tup []) = A4 at a4 k4 ⊢
      refine ⟨sl1, fun e5 n5 => ?_⟩
      have a5 := same_upd (o := (HO.tup [V.ref e4])) n5
      have k5 : upd A4 e5 (HO.tup [V.ref e4]) e5 = some (HO.tup [V.ref e4]) := upd_same
      generalize upd A4 e5 (HO.tup [V.ref e4]) = A5 at a5 k5 ⊢
      have b5 := (((a1.trans a2).trans a3).trans a4).trans a5
      have tT5 : TT A5 40 pN := ⟨zs, _, b5 _ _ hz, (sh_rows _ tz).same b5, by rw [tz.length, List.length_map]; unfold nodD; rw [List.length_map]; omega⟩
      refine ⟨.ref pN, rfl, .ref pN, rfl, (1 : Int), rfl, slT tT5 fun p6 A6 a6 u6 => ?_⟩
      refine catT (tT5.same a6) u6 (by omega) fun p7 A7 a7 u7 => ?_
      have b7 := (b5.trans a6).trans a7
      have tT7 := (tT5.same a6).same a7
      refine ⟨.ref pN, rfl, (1 : Int), rfl, slTn tT7 fun p8 A8 a8 u8 => ?_⟩
      have b8 := b7.trans a8
      refine ⟨.ref pN, rfl, pN, _, rfl, SqT.of (b8 _ _ hz), fun L9 n9 m9 => ?_⟩
      have a9 := same_upd (o := (HO.lst zs)) n9
      have k9 : upd A8 L9 (HO.lst zs) L9 = some (HO.lst zs) := upd_same
      generalize upd A8 L9 (HO.lst zs) = A9 at a9 k9 ⊢
      have b9 := b8.trans a9
      refine ⟨by show 11 ≤ sizeLine; decide, fun C nC => ?_⟩
      have c1' := same_upd (o := (HO.lst [V.non, V.int 0, V.bl true, V.str (Str.ofString ""), V.ref e1, V.ref L2, V.ref dk, V.ref e5, V.ref p7, V.ref p8, V.ref L9])) nC
      have kC : upd A9 C (HO.lst [V.non, V.int 0, V.bl true, V.str (Str.ofString ""), V.ref e1, V.ref L2, V.ref dk, V.ref e5, V.ref p7, V.ref p8, V.ref L9]) C = some (HO.lst [V.non, V.int 0, V.bl true, V.str (Str.ofString ""), V.ref e1, V.ref L2, V.ref dk, V.ref e5, V.ref p7, V.ref p8, V.ref L9]) := upd_same
      generalize upd A9 C (HO.lst [V.non, V.int 0, V.bl true, V.str (Str.ofString ""), V.ref e1, V.ref L2, V.ref dk, V.ref e5, V.ref p7, V.ref p8, V.ref L9]) = B1 at c1' kC ⊢
      have s51 : Same A5 B1 := (((a6.trans a7).trans a8).trans a9).trans c1'
      have s41 := a5.trans s51
      have s31 := a4.trans s41
      have s21 := a3.trans s31
      have s11 := a2.trans s21
      have sB := b9.trans c1'
      obtain ⟨d7, sh7⟩ := u7.sh
      obtain ⟨d8, sh8⟩ := u8.sh
      have all : ∃ ds, ShAll B1 [V.non, V.int 0, V.bl true, V.str (Str.ofString ""), V.ref e1, V.ref L2, V.ref dk, V.ref e5, V.ref p7, V.ref p8, V.ref L9] ds :=
        ⟨_, .cons .non (.cons (.int _) (.cons (.bl _) (.cons (.str _) (.cons (.tup (s11 _ _ k1) .nil) (.cons (.lst (s21 _ _ k2) m2 .nil) (.cons (.dic (kvs := []) (s31 _ _ k3) .nil) (.cons (.tup (s51 _ _ k5) (.cons (.tup (s41 _ _ k4) .nil) .nil)) (.cons (sh7.same ((a8.trans a9).trans c1')) (.cons (sh8.same (a9.trans c1')) (.cons (.lst (c1' _ _ k9) m9 ((sh_rows _ tz).same sB)) .nil))))))))))⟩
      obtain ⟨ds, all⟩ := all
      have DB := (D17.gr g19).same sB
      have tB := (t17.gr g19).gr (Gr.of sB)
      have tnB := (tn17.gr g19).same sB
      refine ⟨C, rfl, ⟨_, SqL.of kC⟩, for_list (K := K) (a := C) (xs := [V.non, V.int 0, V.bl true, V.str (Str.ofString ""), V.ref e1, V.ref L2, V.ref dk, V.ref e5, V.ref p7, V.ref p8, V.ref L9]) (fun j σ H' => ∃ y7 y10 y11 y12 y13, σ = [some (.ref a), some (.ref d), some (.int (0 + (i : Int))), some (.bl gr), some (.ref r), some (.int most), some (.ref r2), y7, some (.ref pN), some (.ref pF), y10, y11, y12, y13] ∧ Gr B1 H')
        ⟨_, _, _, _, _, rfl, Gr.refl⟩ (fun j σ H' _ z => by obtain ⟨_, _, _, _, _, _, g⟩ := z; exact SqL.of (g.lst kC)) ?_ ?_⟩
      · rintro j x σ H30 hx ⟨y7, y10, y11, y12, y13, rfl, g30⟩
        obtain ⟨dx, _, tx⟩ := all.get hx
        refine ⟨.ref r, rfl, x, rfl, m, gs, _, _, dx, rfl, tnB.gr g30, tx.gr g30, by omega, (tB.gr g30) _ (by simp [Tx.tabs]), (tB.gr g30) _ (by simp [Tx.tabs]), fun H31 g31 => ⟨true, rfl, iteF ?_⟩⟩
        exact ⟨_, _, _, _, _, rfl, g30.trans g31⟩
      · rintro σ H30 ⟨y7, y10, y11, y12, y13, rfl, g30⟩
        exact ⟨_, _, _, _, _, _, _, _, _, _, _, _, rfl, (DB.gr g30).mono (by push_cast; omega), tB.gr g30⟩
    · rintro σ H2 ⟨y2, y3, y4, y5, y6, y7, y8, y9, y10, y11, y12, y13, rfl, D2, t2⟩
      exact q _

end
def d_is_whole : He.DefD := ⟨("is_whole", none), "is_whole", "is_whole", defArgs s_is_whole, defBody s_is_whole, defScope s_is_whole, [], []⟩
def d_is_delays : He.DefD := ⟨("is_delays", none), "is_delays", "is_delays", defArgs s_is_delays, defBody s_is_delays, defScope s_is_delays, [], []⟩
def d_is_gate_delays : He.DefD := ⟨("is_gate_delays", none), "is_gate_delays", "is_gate_delays", defArgs s_is_gate_delays, defBody s_is_gate_delays, defScope s_is_gate_delays, [], []⟩
def d_no_delays : He.DefD := ⟨("no_delays", none), "no_delays", "no_delays", defArgs s_no_delays, defBody s_no_delays, defScope s_no_delays, [], []⟩
def d_readings_of : He.DefD := ⟨("readings_of", none), "readings_of", "readings_of", defArgs s_readings_of, defBody s_readings_of, defScope s_readings_of, [], []⟩
def d_mixed : He.DefD := ⟨("_law_mixed", none), "_law_mixed", "_law_mixed", defArgs s_mixed, defBody s_mixed, defScope s_mixed, [], []⟩
def d_deck : He.DefD := ⟨("_law_deck", none), "_law_deck", "_law_deck", defArgs s_deck, defBody s_deck, defScope s_deck, [], []⟩
def d_draw : He.DefD := ⟨("_law_draw", none), "_law_draw", "_law_draw", defArgs s_draw, defBody s_draw, defScope s_draw, [], []⟩
def d_table : He.DefD := ⟨("_law_table", none), "_law_table", "_law_table", defArgs s_table, defBody s_table, defScope s_table, [], []⟩
def d_net : He.DefD := ⟨("_law_net", none), "_law_net", "_law_net", defArgs s_net, defBody s_net, defScope s_net, [], []⟩
def d_rows : He.DefD := ⟨("_law_rows", none), "_law_rows", "_law_rows", defArgs s_rows, defBody s_rows, defScope s_rows, [], []⟩
def d_delays : He.DefD := ⟨("_law_delays", none), "_law_delays", "_law_delays", defArgs s_delays, defBody s_delays, defScope s_delays, [], []⟩
def d_is : He.DefD := ⟨("_law_is", none), "_law_is", "_law_is", defArgs s_is, defBody s_is, defScope s_is, [], []⟩
def d_odd : He.DefD := ⟨("_law_odd", none), "_law_odd", "_law_odd", defArgs s_odd, defBody s_odd, defScope s_odd, [], []⟩
def d_bent : He.DefD := ⟨("_law_bent", none), "_law_bent", "_law_bent", defArgs s_bent, defBody s_bent, defScope s_bent, [], []⟩
def d_judged : He.DefD := ⟨("_law_judged", none), "_law_judged", "_law_judged", defArgs s_judged, defBody s_judged, defScope s_judged, [], []⟩
def d_readings : He.DefD := ⟨("_law_readings", none), "_law_readings", "_law_readings", defArgs s_readings, defBody s_readings, defScope s_readings, [], []⟩
def d_law : He.DefD := ⟨("law", none), "law", "law", defArgs s_law, defBody s_law, defScope s_law, [], []⟩
def fn : List He.DefD := [d_is_whole, d_is_delays, d_is_gate_delays, d_no_delays, d_readings_of, d_mixed, d_deck, d_draw, d_table, d_net, d_rows, d_delays, d_is, d_odd, d_bent, d_judged, d_readings, d_law]
def fa : List He.Fa := [.glo "is_whole", .glo "is_delays", .glo "is_gate_delays", .glo "no_delays", .glo "readings_of", .glo "_law_mixed", .glo "_law_deck", .glo "_law_draw", .glo "_law_table", .glo "_law_net", .glo "_law_rows", .glo "_law_delays", .glo "_law_is", .glo "_law_odd", .glo "_law_bent", .glo "_law_judged", .glo "_law_readings", .glo "law", .free "all", .free "bool", .free "enumerate", .free "int", .free "isinstance", .free "len", .free "list", .free "max", .free "min", .free "range", .free "repr", .free "sum", .free "tuple", .free "zip"]
def tf : List He.Defn := [("is_delays", none), ("is_gate_delays", none), ("no_delays", none), ("readings_of", none)]
abbrev RR : PySem.W.OpenRow := PySem.W.OpenLaw.row PySem.Challenge.rw_glitchnet_k07_what_are_delays
def yes : PySem.W.Frag → Bool := fun _ => true
def ts : List He.Tab := []
abbrev hk : PySem.W.Hook := He.hookX 4 fa fn ts tf yes
def ob (s : PySem.W.SharedT) : He.AlX := He.obsX 4 fa fn ts tf yes (HandSHeadRun.getT s)
theorem ob_eq (s : PySem.W.SharedT) : ob s = hk.obs s.abs := He.obsX_eq (HandSHeadRun.getT_eq s)
theorem run (w : World) : HandSHeadRun.RunEq RR (PySem.W.view RR.prog [20]) hk ob 3000 [("is_whole" : PySem.Str), ("is_delays" : PySem.Str), ("is_gate_delays" : PySem.Str), ("no_delays" : PySem.Str), ("readings_of" : PySem.Str), ("_law_mixed" : PySem.Str), ("_law_deck" : PySem.Str), ("_law_draw" : PySem.Str), ("_law_table" : PySem.Str), ("_law_net" : PySem.Str), ("_law_rows" : PySem.Str), ("_law_delays" : PySem.Str), ("_law_is" : PySem.Str), ("_law_odd" : PySem.Str), ("_law_bent" : PySem.Str), ("_law_judged" : PySem.Str), ("_law_readings" : PySem.Str)] w := by
  intro os
  kernel_rfl
theorem facts {w : World} {K : PySem.W.Frag} {h : Heap} {mg : Str → Option Value} {f : Addr} (X : K.In h) (G : h.Ns mainGlobals mg) (hfa : mg ("law" : Str) = some (.ref f)) (c : He.SaysX fa fn ts tf yes w h K) : LawAtG PySem.Challenge.rw_glitchnet_k07_what_are_delays w K CX0 10 63 "_law_script" mg f h := by
  obtain ⟨fd0, D0⟩ := c.t.d.def_ 0 (d := d_is_whole) rfl
  have F0 : Fun K "is_whole" "is_whole" s_is_whole (He.fAd K ("is_whole", none)) fd0 := fun_of D0
  have b0 := F0.binds (ps := ["thing"]) fun _ _ _ _ _ _ us hl => match us, hl with | [_], _ => rfl
  obtain ⟨fd1, D1⟩ := c.t.d.def_ 1 (d := d_is_delays) rfl
  have F1 : Fun K "is_delays" "is_delays" s_is_delays (He.fAd K ("is_delays", none)) fd1 := fun_of D1
  have b1 := F1.binds (ps := ["net", "thing"]) fun _ _ _ _ _ _ us hl => match us, hl with | [_, _], _ => rfl
  obtain ⟨fd2, D2⟩ := c.t.d.def_ 2 (d := d_is_gate_delays) rfl
  have F2 : Fun K "is_gate_delays" "is_gate_delays" s_is_gate_delays (He.fAd K ("is_gate_delays", none)) fd2 := fun_of D2
  have b2 := F2.binds (ps := ["many", "thing"]) fun _ _ _ _ _ _ us hl => match us, hl with | [_, _], _ => rfl
  obtain ⟨fd3, D3⟩ := c.t.d.def_ 3 (d := d_no_delays) rfl
  have F3 : Fun K "no_delays" "no_delays" s_no_delays (He.fAd K ("no_delays", none)) fd3 := fun_of D3
  have b3 := F3.binds (ps := ["net"]) fun _ _ _ _ _ _ us hl => match us, hl with | [_], _ => rfl
  obtain ⟨fd4, D4⟩ := c.t.d.def_ 4 (d := d_readings_of) rfl
  have F4 : Fun K "readings_of" "readings_of" s_readings_of (He.fAd K ("readings_of", none)) fd4 := fun_of D4
  have b4 := F4.binds (ps := ["net"]) fun _ _ _ _ _ _ us hl => match us, hl with | [_], _ => rfl
  obtain ⟨fd5, D5⟩ := c.t.d.def_ 5 (d := d_mixed) rfl
  have F5 : Fun K "_law_mixed" "_law_mixed" s_mixed (He.fAd K ("_law_mixed", none)) fd5 := fun_of D5
  have b5 := F5.binds (ps := ["_law_number"]) fun _ _ _ _ _ _ us hl => match us, hl with | [_], _ => rfl
  obtain ⟨fd6, D6⟩ := c.t.d.def_ 6 (d := d_deck) rfl
  have F6 : Fun K "_law_deck" "_law_deck" s_deck (He.fAd K ("_law_deck", none)) fd6 := fun_of D6
  have b6 := F6.binds (ps := ["_law_script"]) fun _ _ _ _ _ _ us hl => match us, hl with | [_], _ => rfl
  obtain ⟨fd7, D7⟩ := c.t.d.def_ 7 (d := d_draw) rfl
  have F7 : Fun K "_law_draw" "_law_draw" s_draw (He.fAd K ("_law_draw", none)) fd7 := fun_of D7
  have b7 := F7.binds (ps := ["_law_deck_here", "_law_most"]) fun _ _ _ _ _ _ us hl => match us, hl with | [_, _], _ => rfl
  obtain ⟨fd8, D8⟩ := c.t.d.def_ 8 (d := d_table) rfl
  have F8 : Fun K "_law_table" "_law_table" s_table (He.fAd K ("_law_table", none)) fd8 := fun_of D8
  have b8 := F8.binds (ps := ["_law_deck_here", "_law_many"]) fun _ _ _ _ _ _ us hl => match us, hl with | [_, _], _ => rfl
  obtain ⟨fd9, D9⟩ := c.t.d.def_ 9 (d := d_net) rfl
  have F9 : Fun K "_law_net" "_law_net" s_net (He.fAd K ("_law_net", none)) fd9 := fun_of D9
  have b9 := F9.binds (ps := ["_law_deck_here", "_law_gates", "_law_formula"]) fun _ _ _ _ _ _ us hl => match us, hl with | [_, _, _], _ => rfl
  obtain ⟨fd10, D10⟩ := c.t.d.def_ 10 (d := d_rows) rfl
  have F10 : Fun K "_law_rows" "_law_rows" s_rows (He.fAd K ("_law_rows", none)) fd10 := fun_of D10
  have b10 := F10.binds (ps := ["_law_deck_here", "_law_many"]) fun _ _ _ _ _ _ us hl => match us, hl with | [_, _], _ => rfl
  obtain ⟨fd11, D11⟩ := c.t.d.def_ 11 (d := d_delays) rfl
  have F11 : Fun K "_law_delays" "_law_delays" s_delays (He.fAd K ("_law_delays", none)) fd11 := fun_of D11
  have b11 := F11.binds (ps := ["_law_deck_here", "_law_net_here", "_law_most"]) fun _ _ _ _ _ _ us hl => match us, hl with | [_, _, _], _ => rfl
  obtain ⟨fd12, D12⟩ := c.t.d.def_ 12 (d := d_is) rfl
  have F12 : Fun K "_law_is" "_law_is" s_is (He.fAd K ("_law_is", none)) fd12 := fun_of D12
  have b12 := F12.binds (ps := ["_law_net_here", "_law_thing"]) fun _ _ _ _ _ _ us hl => match us, hl with | [_, _], _ => rfl
  obtain ⟨fd13, D13⟩ := c.t.d.def_ 13 (d := d_odd) rfl
  have F13 : Fun K "_law_odd" "_law_odd" s_odd (He.fAd K ("_law_odd", none)) fd13 := fun_of D13
  have b13 := F13.binds (ps := ["_law_deck_here"]) fun _ _ _ _ _ _ us hl => match us, hl with | [_], _ => rfl
  obtain ⟨fd14, D14⟩ := c.t.d.def_ 14 (d := d_bent) rfl
  have F14 : Fun K "_law_bent" "_law_bent" s_bent (He.fAd K ("_law_bent", none)) fd14 := fun_of D14
  have b14 := F14.binds (ps := ["_law_deck_here", "_law_thing"]) fun _ _ _ _ _ _ us hl => match us, hl with | [_, _], _ => rfl
  obtain ⟨fd15, D15⟩ := c.t.d.def_ 15 (d := d_judged) rfl
  have F15 : Fun K "_law_judged" "_law_judged" s_judged (He.fAd K ("_law_judged", none)) fd15 := fun_of D15
  have b15 := F15.binds (ps := ["_law_net_here", "_law_thing"]) fun _ _ _ _ _ _ us hl => match us, hl with | [_, _], _ => rfl
  obtain ⟨fd16, D16⟩ := c.t.d.def_ 16 (d := d_readings) rfl
  have F16 : Fun K "_law_readings" "_law_readings" s_readings (He.fAd K ("_law_readings", none)) fd16 := fun_of D16
  have b16 := F16.binds (ps := ["_law_net_here"]) fun _ _ _ _ _ _ us hl => match us, hl with | [_], _ => rfl
  obtain ⟨fd17, D17⟩ := c.t.d.def_ 17 (d := d_law) rfl
  have F17 : Fun K "law" "law" s_law (He.fAd K ("law", none)) fd17 := fun_of D17
  have b17 := F17.binds (ps := ["_law_script"]) fun _ _ _ _ _ _ us hl => match us, hl with | [_], _ => rfl
  have e := hfa.symm.trans (He.glo_ok X G (c.t.d.fact 17 (f := .glo "law") rfl))
  cases e
  let T : Tx K mg := { f_is_whole := _, fd_is_whole := _, F_is_whole := F0, g_is_whole := He.glo_ok X G (c.t.d.fact 0 (f := .glo "is_whole") rfl), b_is_whole := b0, f_is_delays := _, fd_is_delays := _, F_is_delays := F1, g_is_delays := He.glo_ok X G (c.t.d.fact 1 (f := .glo "is_delays") rfl), b_is_delays := b1, c_is_delays := (He.cT K ("is_delays", none)).1, P_is_delays := (He.cT K ("is_delays", none)).2, cd_is_delays := code_of F1, f_is_gate_delays := _, fd_is_gate_delays := _, F_is_gate_delays := F2, g_is_gate_delays := He.glo_ok X G (c.t.d.fact 2 (f := .glo "is_gate_delays") rfl), b_is_gate_delays := b2, c_is_gate_delays := (He.cT K ("is_gate_delays", none)).1, P_is_gate_delays := (He.cT K ("is_gate_delays", none)).2, cd_is_gate_delays := code_of F2, f_no_delays := _, fd_no_delays := _, F_no_delays := F3, g_no_delays := He.glo_ok X G (c.t.d.fact 3 (f := .glo "no_delays") rfl), b_no_delays := b3, c_no_delays := (He.cT K ("no_delays", none)).1, P_no_delays := (He.cT K ("no_delays", none)).2, cd_no_delays := code_of F3, f_readings_of := _, fd_readings_of := _, F_readings_of := F4, g_readings_of := He.glo_ok X G (c.t.d.fact 4 (f := .glo "readings_of") rfl), b_readings_of := b4, c_readings_of := (He.cT K ("readings_of", none)).1, P_readings_of := (He.cT K ("readings_of", none)).2, cd_readings_of := code_of F4, f_mixed := _, fd_mixed := _, F_mixed := F5, g_mixed := He.glo_ok X G (c.t.d.fact 5 (f := .glo "_law_mixed") rfl), b_mixed := b5, f_deck := _, fd_deck := _, F_deck := F6, g_deck := He.glo_ok X G (c.t.d.fact 6 (f := .glo "_law_deck") rfl), b_deck := b6, f_draw := _, fd_draw := _, F_draw := F7, g_draw := He.glo_ok X G (c.t.d.fact 7 (f := .glo "_law_draw") rfl), b_draw := b7, f_table := _, fd_table := _, F_table := F8, g_table := He.glo_ok X G (c.t.d.fact 8 (f := .glo "_law_table") rfl), b_table := b8, f_net := _, fd_net := _, F_net := F9, g_net := He.glo_ok X G (c.t.d.fact 9 (f := .glo "_law_net") rfl), b_net := b9, f_rows := _, fd_rows := _, F_rows := F10, g_rows := He.glo_ok X G (c.t.d.fact 10 (f := .glo "_law_rows") rfl), b_rows := b10, f_delays := _, fd_delays := _, F_delays := F11, g_delays := He.glo_ok X G (c.t.d.fact 11 (f := .glo "_law_delays") rfl), b_delays := b11, f_is := _, fd_is := _, F_is := F12, g_is := He.glo_ok X G (c.t.d.fact 12 (f := .glo "_law_is") rfl), b_is := b12, f_odd := _, fd_odd := _, F_odd := F13, g_odd := He.glo_ok X G (c.t.d.fact 13 (f := .glo "_law_odd") rfl), b_odd := b13, f_bent := _, fd_bent := _, F_bent := F14, g_bent := He.glo_ok X G (c.t.d.fact 14 (f := .glo "_law_bent") rfl), b_bent := b14, f_judged := _, fd_judged := _, F_judged := F15, g_judged := He.glo_ok X G (c.t.d.fact 15 (f := .glo "_law_judged") rfl), b_judged := b15, f_readings := _, fd_readings := _, F_readings := F16, g_readings := He.glo_ok X G (c.t.d.fact 16 (f := .glo "_law_readings") rfl), b_readings := b16, f_law := _, fd_law := _, F_law := F17, g_law := He.glo_ok X G (c.t.d.fact 17 (f := .glo "law") rfl), b_law := b17, m_all := He.free_ok X G (c.t.d.fact 18 (f := .free "all") rfl), m_bool := He.free_ok X G (c.t.d.fact 19 (f := .free "bool") rfl), m_enumerate := He.free_ok X G (c.t.d.fact 20 (f := .free "enumerate") rfl), m_int := He.free_ok X G (c.t.d.fact 21 (f := .free "int") rfl), m_isinstance := He.free_ok X G (c.t.d.fact 22 (f := .free "isinstance") rfl), m_len := He.free_ok X G (c.t.d.fact 23 (f := .free "len") rfl), m_list := He.free_ok X G (c.t.d.fact 24 (f := .free "list") rfl), m_max := He.free_ok X G (c.t.d.fact 25 (f := .free "max") rfl), m_min := He.free_ok X G (c.t.d.fact 26 (f := .free "min") rfl), m_range := He.free_ok X G (c.t.d.fact 27 (f := .free "range") rfl), m_repr := He.free_ok X G (c.t.d.fact 28 (f := .free "repr") rfl), m_sum := He.free_ok X G (c.t.d.fact 29 (f := .free "sum") rfl), m_tuple := He.free_ok X G (c.t.d.fact 30 (f := .free "tuple") rfl), m_zip := He.free_ok X G (c.t.d.fact 31 (f := .free "zip") rfl) }
  refine ⟨fd17, tf.map (He.cT K), sp_law K T.tabs, ?_, ?_, ?_, ?_, ?_, ?_⟩
  · rintro p hp
    obtain ⟨d, hd, rfl⟩ := List.mem_map.mp hp
    exact c.empty d hd
  · rintro p hp
    obtain ⟨d, hd, rfl⟩ := List.mem_map.mp hp
    exact c.out d hd
  · rintro p hp
    obtain ⟨d, hd, rfl⟩ := List.mem_map.mp hp
    exact PySem.W.codeHd_of_K X (c.hd d hd)
  · obtain ⟨oc, od, kV, doc, pm, an, cdv, ct, osl, rfl, lk, hcd⟩ := F17.ex
    exact fun s v => .of_eq rfl
  · intro H a ns hl hbits hT hS
    refine ⟨a, ns, rfl, hS, hl, fun P hP => ?_, fun _ => rfl⟩
    have hP : P ∈ (tf.map (He.cT K)).map (·.2) := hP
    obtain ⟨p, hp, rfl⟩ := List.mem_map.mp hP
    exact ⟨#[], hT p hp, by trivial⟩
  · intro base KB GB hTB
    have B : Tb base T := ⟨tab_of (hTB (He.cT K ("is_delays", none)) (List.mem_map.mpr ⟨_, (show (("is_delays", none) : He.Defn) ∈ tf by decide), rfl⟩)), tab_of (hTB (He.cT K ("is_gate_delays", none)) (List.mem_map.mpr ⟨_, (show (("is_gate_delays", none) : He.Defn) ∈ tf by decide), rfl⟩)), tab_of (hTB (He.cT K ("no_delays", none)) (List.mem_map.mpr ⟨_, (show (("no_delays", none) : He.Defn) ∈ tf by decide), rfl⟩)), tab_of (hTB (He.cT K ("readings_of", none)) (List.mem_map.mpr ⟨_, (show (("readings_of", none) : He.Defn) ∈ tf by decide), rfl⟩))⟩
    exact ok_law T B
end Gk
open PySem PySem.W PyProof.Rows
set_option maxRecDepth 100000 in
set_option maxHeartbeats 0 in
theorem PySem.Challenge.cw_glitchnet_k07_what_are_delays_holds : PySem.Challenge.rw_glitchnet_k07_what_are_delays.Holds := by
  w_on; o_law
  refine HandSHeadRun.head_any (r := OpenLaw.row PySem.Challenge.rw_glitchnet_k07_what_are_delays) (q := view (OpenLaw.row PySem.Challenge.rw_glitchnet_k07_what_are_delays).prog [20]) (H := Gk.hk) (ob := Gk.ob) (M := 3000) (loose := [("is_whole" : PySem.Str), ("is_delays" : PySem.Str), ("is_gate_delays" : PySem.Str), ("no_delays" : PySem.Str), ("readings_of" : PySem.Str), ("_law_mixed" : PySem.Str), ("_law_deck" : PySem.Str), ("_law_draw" : PySem.Str), ("_law_table" : PySem.Str), ("_law_net" : PySem.Str), ("_law_rows" : PySem.Str), ("_law_delays" : PySem.Str), ("_law_is" : PySem.Str), ("_law_odd" : PySem.Str), ("_law_bent" : PySem.Str), ("_law_judged" : PySem.Str), ("_law_readings" : PySem.Str)]) (d := HandSHeadRun.topDef (OpenLaw.row PySem.Challenge.rw_glitchnet_k07_what_are_delays).prog 20) (kwd := []) Gk.ob_eq
    (by kernel_rfl) (fun s => by kernel_rfl) Gk.run (by kernel_rfl) (by kernel_rfl) (by kernel_rfl) (by rfl) (by first | assumption | decide +kernel) (by decide +kernel) ⟨rfl, rfl, rfl, rfl, rfl, by decide +kernel⟩ ?hw ?hc
  case hw => w_witness2
  case hc =>
    refine Gk.walk_GT (l := PySem.Challenge.rw_glitchnet_k07_what_are_delays) (n := 63) (k := 10) (x := "_law_script") (CX := fun _ => L2.CX0) rfl (by decide) (by kernel_rfl) ⟨rfl, by decide, by decide⟩ ?F (fun _ _ _ _ _ z => z)
    intro w mg fa h Y G hmg0
    obtain ⟨K, KX, c⟩ := Y
    have hmg : mg ("law" : PySem.Str) = some (.ref fa) := by
      have e : (HandSHeadRun.topDef (OpenLaw.row PySem.Challenge.rw_glitchnet_k07_what_are_delays).prog 20).name = ("law" : PySem.Str) := by kernel_rfl
      rw [← e]
      exact hmg0
    exact ⟨K, KX, Gk.facts KX G hmg c⟩
