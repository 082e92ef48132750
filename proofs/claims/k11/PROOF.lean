import PyProof.Rows.All
import Wide.All
import OpenK.AllK
import Wide.FinOn
import KE.GoesMore
import HandS.ForMost
import HandS.IsInst
import HandS.TupLe
import HandS.TupAny
import HandS.TupMul
import HandS.More
import HandS.Codes
import HandS.Conv
import HandS.Deep
import HandS.TupSets
import HandS.Style
import HandS.Strs
import HandS.AnyAll
import HandS.GenList
import HandS.JoinGen
import HandS.Zip
import HandS.Rev
import HandS.SetFor
import HandS.WideBits
import HandS.FStr
import HandS.RevTup
import HandS.Head0
import HandS.Head1
import HandS.Head2
import HandS.HeadEnd
import HandS.HeadHook1
import HandS.HeadHook2
import HandS.HeadHook3
import HandS.HeadHook4
import HandS.HeadWalk
import HandS.Defaults
import HandS.ReplaceLit
import HandS.SetKeys
import HandS.SortInts
import KE.KUnpackStar
import PyProof.ReprLen
import PyProof.ReprRoads
import PyProof.TupleOfStr
import PyProof.ListStr
import PySem.Challenge.RW_glitchnet_k11_machines
set_option Elab.async false
set_option linter.all false
set_option maxRecDepth 100000
set_option maxHeartbeats 1000000
namespace Gk
open PySem PySem.Spec PyProof.Rows L2
/-! ### the text -/
def topS (i : Nat) : Stmt := PySem.Challenge.pw_glitchnet_k11_machines.main.body.getD i (.Pass ⟨0, 0, 0, 0⟩)
abbrev s_table_worth : Stmt := topS 1
abbrev s_settled : Stmt := topS 2
abbrev s_Machine___init__ : Stmt := inClass (topS 4) 0
abbrev s_Machine_time : Stmt := inClass (topS 4) 1
abbrev s_Machine_worths : Stmt := inClass (topS 4) 2
abbrev s_Machine_step : Stmt := inClass (topS 4) 3
abbrev s_Machine_worth_read : Stmt := inClass (topS 4) 4
abbrev s_Machine_set_level : Stmt := inClass (topS 4) 5
abbrev s_mixed : Stmt := topS 6
abbrev s_deck : Stmt := topS 7
abbrev s_draw : Stmt := topS 8
abbrev s_table : Stmt := topS 9
abbrev s_net : Stmt := topS 10
abbrev s_rows : Stmt := topS 11
abbrev s_delays : Stmt := topS 12
abbrev s_slow : Stmt := topS 13
abbrev s_is_at : Stmt := topS 14
abbrev s_near : Stmt := topS 15
abbrev s_goes_on : Stmt := topS 16
abbrev s_comes_late : Stmt := topS 17
abbrev s_law : Stmt := topS 18
theorem sc_table_worth : FnScope ["table", "worths", "place", "worth"] ["table", "worths"] (defScope s_table_worth) := ⟨rfl, rfl, rfl, by decide +kernel, rfl, by decide +kernel, by decide +kernel⟩
theorem sc_settled : FnScope ["net", "row", "worths", "table", "ins", "wire"] ["net", "row"] (defScope s_settled) := ⟨rfl, rfl, rfl, by decide +kernel, rfl, by decide +kernel, by decide +kernel⟩
theorem sc_Machine___init__ : FnScope ["self", "net", "delays", "change", "first", "table", "ins"] ["self", "net", "delays", "change"] (defScope s_Machine___init__) := ⟨rfl, rfl, rfl, by decide +kernel, rfl, by decide +kernel, by decide +kernel⟩
theorem sc_Machine_time : FnScope ["self"] ["self"] (defScope s_Machine_time) := ⟨rfl, rfl, rfl, by decide +kernel, rfl, by decide +kernel, by decide +kernel⟩
theorem sc_Machine_worths : FnScope ["self"] ["self"] (defScope s_Machine_worths) := ⟨rfl, rfl, rfl, by decide +kernel, rfl, by decide +kernel, by decide +kernel⟩
theorem sc_Machine_step : FnScope ["self", "wire", "worth", "gate", "table", "ins", "worths", "place"] ["self"] (defScope s_Machine_step) := ⟨rfl, rfl, rfl, by decide +kernel, rfl, by decide +kernel, by decide +kernel⟩
theorem sc_Machine_worth_read : FnScope ["self", "gate", "place", "wire", "due", "turns", "done"] ["self", "gate", "place"] (defScope s_Machine_worth_read) := ⟨rfl, rfl, rfl, by decide +kernel, rfl, by decide +kernel, by decide +kernel⟩
theorem sc_Machine_set_level : FnScope ["self", "wire", "worth"] ["self", "wire", "worth"] (defScope s_Machine_set_level) := ⟨rfl, rfl, rfl, by decide +kernel, rfl, by decide +kernel, by decide +kernel⟩
theorem sc_mixed : FnScope ["_law_number"] ["_law_number"] (defScope s_mixed) := ⟨rfl, rfl, rfl, by decide +kernel, rfl, by decide +kernel, by decide +kernel⟩
theorem sc_deck : FnScope ["_law_script", "_law_cells"] ["_law_script"] (defScope s_deck) := ⟨rfl, rfl, rfl, by decide +kernel, rfl, by decide +kernel, by decide +kernel⟩
theorem sc_draw : FnScope ["_law_deck_here", "_law_most", "_law_low", "_law_cell"] ["_law_deck_here", "_law_most"] (defScope s_draw) := ⟨rfl, rfl, rfl, by decide +kernel, rfl, by decide +kernel, by decide +kernel⟩
theorem sc_table : FnScope ["_law_deck_here", "_law_many", "_law_way", "_law_size", "_law_k"] ["_law_deck_here", "_law_many"] (defScope s_table) := ⟨rfl, rfl, rfl, by decide +kernel, rfl, by decide +kernel, by decide +kernel⟩
theorem sc_net : FnScope ["_law_deck_here", "_law_gates", "_law_formula", "_law_many", "_law_free", "_law_made", "_law_k", "_law_ins", "_law_place", "_law_way", "_law_wire", "_law_one"] ["_law_deck_here", "_law_gates", "_law_formula"] (defScope s_net) := ⟨rfl, rfl, rfl, by decide +kernel, rfl, by decide +kernel, by decide +kernel⟩
theorem sc_rows : FnScope ["_law_deck_here", "_law_many", "_law_one", "_law_other", "_law_way", "_law_k", "_law_worth"] ["_law_deck_here", "_law_many"] (defScope s_rows) := ⟨rfl, rfl, rfl, by decide +kernel, rfl, by decide +kernel, by decide +kernel⟩
theorem sc_delays : FnScope ["_law_deck_here", "_law_net_here", "_law_most", "_law_made", "_law_table_here", "_law_ins", "_law_wire"] ["_law_deck_here", "_law_net_here", "_law_most"] (defScope s_delays) := ⟨rfl, rfl, rfl, by decide +kernel, rfl, by decide +kernel, by decide +kernel⟩
theorem sc_slow : FnScope ["_law_net_here", "_law_delays_here", "_law_change", "_law_end", "_law_rows_here", "_law_time", "_law_worths", "_law_gate", "_law_table_here", "_law_ins", "_law_number", "_law_wire", "_law_later", "_law_at", "_law_worth"] ["_law_net_here", "_law_delays_here", "_law_change", "_law_end"] (defScope s_slow) := ⟨rfl, rfl, rfl, by decide +kernel, rfl, by decide +kernel, by decide +kernel⟩
theorem sc_is_at : FnScope ["_law_machine", "_law_rows_here", "_law_at", "_law_again"] ["_law_machine", "_law_rows_here", "_law_at"] (defScope s_is_at) := ⟨rfl, rfl, rfl, by decide +kernel, rfl, by decide +kernel, by decide +kernel⟩
theorem sc_near : FnScope ["_law_delay"] ["_law_delay"] (defScope s_near) := ⟨rfl, rfl, rfl, by decide +kernel, rfl, by decide +kernel, by decide +kernel⟩
theorem sc_goes_on : FnScope ["_law_deck_here", "_law_turn", "_law_net_here", "_law_delays_here", "_law_change", "_law_rows_here", "_law_machine", "_law_at", "_law_late", "_law_k"] ["_law_deck_here"] (defScope s_goes_on) := ⟨rfl, rfl, rfl, by decide +kernel, rfl, by decide +kernel, by decide +kernel⟩
theorem sc_comes_late : FnScope ["_law_deck_here", "_law_far", "_law_turn", "_law_net_here", "_law_delays_here", "_law_change", "_law_rows_here", "_law_machine", "_law_at"] ["_law_deck_here", "_law_far"] (defScope s_comes_late) := ⟨rfl, rfl, rfl, by decide +kernel, rfl, by decide +kernel, by decide +kernel⟩
theorem sc_law : FnScope ["_law_script", "_law_deck_here", "_law_late", "_law_far", "_law_steps", "_law_made", "_law_turn", "_law_formula", "_law_net_here", "_law_delays_here", "_law_machines", "_law_rows_here", "_law_change", "_law_ats", "_law_k", "_law_held", "_law_j", "_law_part", "_law_one"] ["_law_script"] (defScope s_law) := ⟨rfl, rfl, rfl, by decide +kernel, rfl, by decide +kernel, by decide +kernel⟩
structure Tx (K : PySem.W.Frag) (mg : Str → Option Value) where
  f_table_worth : Addr
  fd_table_worth : FuncData
  F_table_worth : Fun K "table_worth" "table_worth" s_table_worth f_table_worth fd_table_worth
  g_table_worth : mg "table_worth" = some (.ref f_table_worth)
  b_table_worth : Binds K fd_table_worth ["table", "worths"] []
  f_settled : Addr
  fd_settled : FuncData
  F_settled : Fun K "settled" "settled" s_settled f_settled fd_settled
  g_settled : mg "settled" = some (.ref f_settled)
  b_settled : Binds K fd_settled ["net", "row"] []
  f_Machine___init__ : Addr
  fd_Machine___init__ : FuncData
  F_Machine___init__ : Fun K "__init__" "Machine.__init__" s_Machine___init__ f_Machine___init__ fd_Machine___init__
  b_Machine___init__ : Binds K fd_Machine___init__ ["self", "net", "delays", "change"] []
  f_Machine_time : Addr
  fd_Machine_time : FuncData
  F_Machine_time : Fun K "time" "Machine.time" s_Machine_time f_Machine_time fd_Machine_time
  b_Machine_time : Binds K fd_Machine_time ["self"] []
  f_Machine_worths : Addr
  fd_Machine_worths : FuncData
  F_Machine_worths : Fun K "worths" "Machine.worths" s_Machine_worths f_Machine_worths fd_Machine_worths
  b_Machine_worths : Binds K fd_Machine_worths ["self"] []
  f_Machine_step : Addr
  fd_Machine_step : FuncData
  F_Machine_step : Fun K "step" "Machine.step" s_Machine_step f_Machine_step fd_Machine_step
  b_Machine_step : Binds K fd_Machine_step ["self"] []
  f_Machine_worth_read : Addr
  fd_Machine_worth_read : FuncData
  F_Machine_worth_read : Fun K "worth_read" "Machine.worth_read" s_Machine_worth_read f_Machine_worth_read fd_Machine_worth_read
  b_Machine_worth_read : Binds K fd_Machine_worth_read ["self", "gate", "place"] []
  f_Machine_set_level : Addr
  fd_Machine_set_level : FuncData
  F_Machine_set_level : Fun K "set_level" "Machine.set_level" s_Machine_set_level f_Machine_set_level fd_Machine_set_level
  b_Machine_set_level : Binds K fd_Machine_set_level ["self", "wire", "worth"] []
  f_mixed : Addr
  fd_mixed : FuncData
  F_mixed : Fun K "_law_mixed" "_law_mixed" s_mixed f_mixed fd_mixed
  g_mixed : mg "_law_mixed" = some (.ref f_mixed)
  b_mixed : Binds K fd_mixed ["_law_number"] []
  f_deck : Addr
  fd_deck : FuncData
  F_deck : Fun K "_law_deck" "_law_deck" s_deck f_deck fd_deck
  g_deck : mg "_law_deck" = some (.ref f_deck)
  b_deck : Binds K fd_deck ["_law_script"] []
  f_draw : Addr
  fd_draw : FuncData
  F_draw : Fun K "_law_draw" "_law_draw" s_draw f_draw fd_draw
  g_draw : mg "_law_draw" = some (.ref f_draw)
  b_draw : Binds K fd_draw ["_law_deck_here", "_law_most"] []
  f_table : Addr
  fd_table : FuncData
  F_table : Fun K "_law_table" "_law_table" s_table f_table fd_table
  g_table : mg "_law_table" = some (.ref f_table)
  b_table : Binds K fd_table ["_law_deck_here", "_law_many"] []
  f_net : Addr
  fd_net : FuncData
  F_net : Fun K "_law_net" "_law_net" s_net f_net fd_net
  g_net : mg "_law_net" = some (.ref f_net)
  b_net : Binds K fd_net ["_law_deck_here", "_law_gates", "_law_formula"] []
  f_rows : Addr
  fd_rows : FuncData
  F_rows : Fun K "_law_rows" "_law_rows" s_rows f_rows fd_rows
  g_rows : mg "_law_rows" = some (.ref f_rows)
  b_rows : Binds K fd_rows ["_law_deck_here", "_law_many"] []
  f_delays : Addr
  fd_delays : FuncData
  F_delays : Fun K "_law_delays" "_law_delays" s_delays f_delays fd_delays
  g_delays : mg "_law_delays" = some (.ref f_delays)
  b_delays : Binds K fd_delays ["_law_deck_here", "_law_net_here", "_law_most"] []
  f_slow : Addr
  fd_slow : FuncData
  F_slow : Fun K "_law_slow" "_law_slow" s_slow f_slow fd_slow
  g_slow : mg "_law_slow" = some (.ref f_slow)
  b_slow : Binds K fd_slow ["_law_net_here", "_law_delays_here", "_law_change", "_law_end"] []
  f_is_at : Addr
  fd_is_at : FuncData
  F_is_at : Fun K "_law_is_at" "_law_is_at" s_is_at f_is_at fd_is_at
  g_is_at : mg "_law_is_at" = some (.ref f_is_at)
  b_is_at : Binds K fd_is_at ["_law_machine", "_law_rows_here", "_law_at"] []
  f_near : Addr
  fd_near : FuncData
  F_near : Fun K "_law_near" "_law_near" s_near f_near fd_near
  g_near : mg "_law_near" = some (.ref f_near)
  b_near : Binds K fd_near ["_law_delay"] []
  f_goes_on : Addr
  fd_goes_on : FuncData
  F_goes_on : Fun K "_law_goes_on" "_law_goes_on" s_goes_on f_goes_on fd_goes_on
  g_goes_on : mg "_law_goes_on" = some (.ref f_goes_on)
  b_goes_on : Binds K fd_goes_on ["_law_deck_here"] []
  f_comes_late : Addr
  fd_comes_late : FuncData
  F_comes_late : Fun K "_law_comes_late" "_law_comes_late" s_comes_late f_comes_late fd_comes_late
  g_comes_late : mg "_law_comes_late" = some (.ref f_comes_late)
  b_comes_late : Binds K fd_comes_late ["_law_deck_here", "_law_far"] []
  f_law : Addr
  fd_law : FuncData
  F_law : Fun K "law" "law" s_law f_law fd_law
  g_law : mg "law" = some (.ref f_law)
  b_law : Binds K fd_law ["_law_script"] []
  C_Machine : Addr
  gC_Machine : mg "Machine" = some (.ref C_Machine)
  cl_Machine : Cls K C_Machine
  mk_Machine : Mk K C_Machine f_Machine___init__
  me_Machine_time : Meth K C_Machine "time" f_Machine_time
  me_Machine_worths : Meth K C_Machine "worths" f_Machine_worths
  me_Machine_step : Meth K C_Machine "step" f_Machine_step
  me_Machine_worth_read : Meth K C_Machine "worth_read" f_Machine_worth_read
  me_Machine_set_level : Meth K C_Machine "set_level" f_Machine_set_level
  na_Machine_delays : NoAttr K C_Machine "delays"
  na_Machine_firsts : NoAttr K C_Machine "firsts"
  na_Machine_gates : NoAttr K C_Machine "gates"
  na_Machine_goal : NoAttr K C_Machine "goal"
  na_Machine_heard : NoAttr K C_Machine "heard"
  na_Machine_levels : NoAttr K C_Machine "levels"
  na_Machine_now : NoAttr K C_Machine "now"
  na_Machine_turns : NoAttr K C_Machine "turns"
  m_enumerate : mg "enumerate" = none
  m_int : mg "int" = none
  m_len : mg "len" = none
  m_list : mg "list" = none
  m_max : mg "max" = none
  m_min : mg "min" = none
  m_range : mg "range" = none
  m_repr : mg "repr" = none
  m_sum : mg "sum" = none
  m_tuple : mg "tuple" = none
  m_zip : mg "zip" = none
structure Tb (base : Heap) {K : PySem.W.Frag} {mg : Str → Option Value} (T : Tx K mg) : Prop where
def Tx.tabs {K : PySem.W.Frag} {mg : Str → Option Value} (T : Tx K mg) : List Addr := []
/-! ### generator expressions whose elements may call -/
theorem inv_moved {X : Cx} {cp : List (Addr × Obj)} {σ : L2.St} {H : Hp} {s s' : Shared} (I : Inv X cp σ H s) (os : s'.os = s.os) (bare : AllBare s'.gens) (k : ∀ b o, s.heap.get? b = some o → s'.heap.get? b = some o) : Inv X cp σ H s' :=
  I.call' (ch := []) os (Un.kept k) (I.hok.kept k) bare fun b hb => absurd hb (by simp)
/-- the context of a generator expression's frame: C its frame, s, H the entry, fp its iterator's objects -/
abbrev gblk (X : Cx) (A : Around) (s : Shared) (H : Hp) (cenv : Env) (fp : List Addr) : Cx :=
  { X with A := A, s_0 := s, H_0 := H, env := cenv, outer := X.stack, stack := cenv :: X.stack, ex := fp, fn := fun _ => false, pn := [], xe := fun _ _ => False }
section
variable {X : Cx} {pins : List (Addr × Obj)} {σ : L2.St} {H : Hp} {s : Shared}
theorem gen_start {scope : Scope} {own : List (Str × Nat)} {fp : List Addr} {A : Around} {code it : Value} {s5 : Shared} {cp : List (Addr × Obj)}
    (I : Inv X pins σ H s) (ok : BlkOk X.N X.env.scope scope own) (nocell : ∀ y ∈ scope.names, y.2 ≠ .cell) (hN : X.N.Nodup) (hfp : ∀ b ∈ fp, FpOk X pins H b ∧ b < s.heap.objs.size)
    (hh : A.handled = none) (hfr : A.frames = some (genEnv scope (cloFrom X.env.cells scope.names []) s.heap.objs.size code builtinsNs X.env :: X.stack))
    (os : s5.os = s.os) (bare : AllBare s5.gens) (kp : ∀ b o, s.heap.get? b = some o → s5.heap.get? b = some o)
    (hns : s5.heap.Ns s.heap.objs.size fun y => if y = ".0" then some it else none)
    (hcp : ∀ p ∈ cp, s.heap.objs.size < p.1 ∧ s5.heap.get? p.1 = some p.2 ∧ ∀ v, p.2.data ≠ .cell v) :
    Inv (gblk X A s H (genEnv scope (cloFrom X.env.cells scope.names []) s.heap.objs.size code builtinsNs X.env) fp) cp (wipe σ (own.map (·.2))) H s5 := by
  have hfree : ∀ y ∈ scope.names, y.2 = .free → ∃ c, X.env.cells.lookup y.1 = some c := fun y hy e => by
    rcases ok.free y hy e with k | k
    · exact I.ok.has _ (.inl k)
    · exact I.ok.has _ (.inr k)
  generalize hcenv : genEnv scope (cloFrom X.env.cells scope.names []) s.heap.objs.size code builtinsNs X.env = cenv at hfr ⊢
  have hL : cenv.locals = s.heap.objs.size := by rw [← hcenv]; rfl
  have hcl : cenv.cells = cloFrom X.env.cells scope.names [] := by rw [← hcenv]; rfl
  have hsc : cenv.scope = scope := by rw [← hcenv]; rfl
  have cm : ∀ {y c}, (y, c) ∈ cloFrom X.env.cells scope.names [] → X.env.cells.lookup y = some c ∧ c < s.heap.objs.size := fun {y c} hm => by
    rcases cloFrom_mem hm with hm | ⟨h1, rfl⟩
    · cases hm
    · obtain ⟨c, hc⟩ := hfree _ h1 rfl
      rw [hc]
      obtain ⟨w, z⟩ := I.cell _ _ hc
      exact ⟨rfl, z.lt⟩
  have mem : ∀ {y c}, cenv.cells.lookup y = some c → X.env.cells.lookup y = some c ∧ c < s.heap.objs.size := fun {y c} e => by
    rw [hcl] at e
    exact cm (PySem.mem_of_lookup e)
  have look : ∀ {y}, scope.names.lookup y = some .free → ∃ c, cenv.cells.lookup y = some c ∧ X.env.cells.lookup y = some c := fun {y} hl => by
    have hy : (y, NameKind.free) ∈ scope.names := PySem.mem_of_lookup hl
    obtain ⟨c', e'⟩ := mem_lookup (cloFrom_has (cells := X.env.cells) (acc := []) hy)
    rw [← hcl] at e'
    exact ⟨c', e', (mem e').1⟩
  have okB : (gblk X A s H cenv fp).Ok := by
    refine ⟨I.ok.mod, by show cenv.scope.kind = _; rw [hsc]; exact ok.kind, by show cenv.globals = _; rw [← hcenv]; exact I.ok.glob, by show cenv.builtins = _; rw [← hcenv]; rfl, by show s.heap.objs.size ≤ cenv.locals; rw [hL]; exact Nat.le_refl _,
      fun y z c e1 e2 => I.ok.inj y z c (mem e1).1 (mem e2).1, fun y hy => ?_, fun y c z e => (by cases z), fun _ => hh, hfr, .inr ⟨rfl, by show cenv.frame = some cenv.locals; rw [← hcenv]; rfl⟩, fun b hb => ⟨?_, fun y c e z => ?_⟩, I.bs, Nat.le_trans I.ok.bsz I.sz, fun b o e hb => ?_, fun b hb z => ?_, I.stack, I.stkFree⟩
    · have hy' : scope.names.lookup y = some .cell ∨ scope.names.lookup y = some .free := by
        rw [← hsc]
        exact hy
      rcases hy' with e | e
      · exact absurd rfl (nocell _ (PySem.mem_of_lookup e))
      · obtain ⟨c, h1, _⟩ := look e
        exact ⟨c, h1⟩
    · show b ≠ cenv.locals
      rw [hL]; exact Nat.ne_of_lt (hfp b hb).2
    · exact (hfp b hb).1.2.2.2.2.1 y c (mem e).1 z
    · rcases (hfp b hb).1.2.2.2.1 with z | z
      · exact I.ok.noex b o e z
      · exact absurd (Nat.lt_of_lt_of_le (Heap.lt_size e) (Nat.le_trans I.ok.bsz z)) (Nat.lt_irrefl _)
    · rcases List.mem_cons.mp (I.stkSub b z) with z | z
      · exact (hfp b hb).1.2.1 z
      · exact (hfp b hb).1.2.2.1 z
  refine ⟨okB, os, bare, Un.kept kp, ⟨_, (by show s5.heap.Ns cenv.locals _; rw [hL]; exact hns), fun i y av e1 e2 e3 => ?_⟩, fun y c e => ?_, ?_, fun y c e => I.freeC y c (mem e).1, fun p hp => ?_, I.hok.kept kp, by rw [wipe_length]; exact I.len⟩
  · obtain ⟨e2, hne⟩ := wipe_some e2
    have e3 : Vis scope y := by rw [← hsc]; exact e3
    have no : ∀ k, scope.names.lookup y = some k → ¬ (k = .local ∨ k = .cell) := fun k e hh => by
      rcases ok.own _ (PySem.mem_of_lookup e) hh with e' | e'
      · obtain ⟨p, hp, hpy⟩ := List.mem_map.mp e'
        have e3 := ok.ix p hp
        have : p.1 = y := hpy
        rw [this] at e3
        exact hne (List.mem_map.mpr ⟨p, hp, nodup_ix hN e3 e1⟩)
      · exact e' (List.mem_of_getElem? e1)
    have hfr2 : scope.names.lookup y = some .free := by
      rcases e3 with e | e | e
      · exact absurd (.inl rfl) (no _ e)
      · exact absurd (.inr rfl) (no _ e)
      · exact e
    obtain ⟨m, hn, hl⟩ := I.loc
    have hvis : Vis X.env.scope y := (ok.free _ (PySem.mem_of_lookup hfr2) rfl).elim (fun k => .inr (.inl k)) (fun k => .inr (.inr k))
    obtain ⟨w, r, q⟩ := hl i y av e1 e2 hvis
    refine ⟨w, r, .inr ⟨.inr (by show cenv.scope.names.lookup y = some .free; rw [hsc]; exact hfr2), ?_⟩⟩
    obtain ⟨c, h1, h2⟩ := look hfr2
    rcases q with ⟨k, _⟩ | ⟨_, c', e', z⟩
    · have k : X.env.scope.names.lookup y = some .local := k
      rcases ok.free _ (PySem.mem_of_lookup hfr2) rfl with k' | k' <;> rw [show X.env.scope.names.lookup y = _ from k'] at k <;> cases k
    · rw [h2] at e'; cases e'
      exact ⟨c, h1, z.keeps kp⟩
  · obtain ⟨w, z⟩ := I.cell y c (mem e).1
    exact ⟨w, z.keeps kp⟩
  · show H cenv.locals = none
    rw [hL]; exact I.hok.fresh (Nat.le_refl _)
  · have hp : p ∈ cp := by simpa using hp
    obtain ⟨h1, h2, h3⟩ := hcp p hp
    refine ⟨h2, I.hok.fresh (Nat.le_of_lt h1), by show p.1 ≠ cenv.locals; rw [hL]; exact Nat.ne_of_gt h1, fun z => ?_, h3⟩
    rcases List.mem_cons.mp (I.stkSub _ z) with z | z
    · exact absurd (Nat.lt_trans I.lt h1) (by rw [z]; exact Nat.lt_irrefl _)
    · exact I.nofs (Nat.le_of_lt h1) z
end
/-! ### the talk of a generator and who asks it -/
section
variable {α : Type}
/-- handed out: x; the asker's state a (laid down in the pins cp) goes to one with Nx -/
def YG (Xg : Cx) (fp : List Addr) (tn : Nat → Heap → Prop) (AC : α → List (Addr × Obj) → Prop) (Yd : α → V → Hp → (α → Hp → Prop) → Prop) : Protocol := fun _ s0 v s kap =>
  ∃ (a : α) (x : V) (σ : L2.St) (H : Hp) (i : Nat) (cp : List (Addr × Obj)) (Nx : α → Hp → Prop), RelV x v ∧ AC a cp ∧ (∀ p ∈ cp, s0.heap.get? p.1 = some p.2) ∧ Inv Xg cp σ H s ∧ tn i s.heap ∧ (∀ b ∈ fp, H b = none) ∧ Yd a x H Nx ∧
    ∀ a' cp' s', Nx a' H → AC a' cp' → Inv Xg cp' σ H s' → tn i s'.heap → kap (.send .none) s'
def RG (Xg : Cx) (AC : α → List (Addr × Obj) → Prop) (End : α → Hp → Prop) : GenEnd := fun _ s0 r s =>
  ((r = .ok (.ret .none) ∨ r = .ok .next) ∧ ∃ (a : α) (σ : L2.St) (H : Hp) (cp : List (Addr × Obj)), AC a cp ∧ (∀ p ∈ cp, s0.heap.get? p.1 = some p.2) ∧ Inv Xg cp σ H s ∧ End a H) ∨ ∃ e, r = .error e ∧ False
/-- a generator's turns -/
def tGx (J : It) (g : TG) (tt : TT) (te : TE) (σ0 : L2.St) (vs : List Nat) (End : α → Hp → Prop) (Yd : α → V → Hp → (α → Hp → Prop) → Prop) (W : Nat → Nat → α → Hp → Prop) : Prop :=
  ∀ i m a H, W i m a H → (J.stop i H ∧ End a H) ∨ (J.go i H ∧ ∃ Nx : α → Hp → Prop, (∀ a' H', Nx a' H' → ∃ m', m' < m ∧ W (i + 1) m' a' H') ∧
    ∀ x H', J.yld i H x H' → g x σ0 H' fun σ2 H2 => wipe σ2 vs = σ0 ∧ tt σ2 H2 fun b H3 => if b = true then te σ2 H3 fun y H4 => Yd a y H4 Nx else Nx a H3)
theorem wipe_wipe_some {σ σ2 : L2.St} {vs : List Nat} (h : wipe σ2 vs = σ) : ∀ (j : Nat) v, σ[j]? = some (some v) → σ2[j]? = some (some v) := fun j v e => by
  rw [← h] at e
  exact (wipe_some e).1
theorem seg_gx {X : Cx} {A A' : Around} {s_0 : Shared} {H_0 : Hp} {elt tg iter : Expr} {ifs : List Expr} {scope : Scope} {pos : Pos} {it : Addr} {fp : List Addr} {tn : Nat → Heap → Prop} {J : It} {cenv : Env} {g : TG} {tt : TT} {te : TE} {σ0 : L2.St} {vs : List Nat}
    {AC : α → List (Addr × Obj) → Prop} {End : α → Hp → Prop} {Yd : α → V → Hp → (α → Hp → Prop) → Prop} {W : Nat → Nat → α → Hp → Prop}
    (hA : A.over (.compLoop (.GeneratorExp elt [⟨tg, iter, ifs, 0⟩] scope pos) 0 (.ref it) .none cenv) [] = A') (hc : X.calm = true) (hco : cenv.scope.isCoroutine = false)
    (T : Turn X.prog X.w X.K tg J fp it tn) (pg : PG (gblk X A' s_0 H_0 cenv fp) tg g) (pt : PTs (gblk X A' s_0 H_0 cenv fp) ifs tt) (pe : PE (gblk X A' s_0 H_0 cenv fp) elt te)
    (hAC : ∀ a cp, AC a cp → ∀ p ∈ cp, ∀ b ∈ fp, p.1 ≠ b) (turn : tGx J g tt te σ0 vs End Yd W) :
    ∀ (m n i : Nat) (a : α) (H : Hp) (s₀ s : Shared) (cp : List (Addr × Obj)), m < n → W i m a H → AC a cp → (∀ p ∈ cp, s₀.heap.get? p.1 = some p.2) → Inv (gblk X A' s_0 H_0 cenv fp) cp σ0 H s → tn i s.heap → (∀ b ∈ fp, H b = none) →
      Seg (model X.prog X.w) A (RG (gblk X A' s_0 H_0 cenv fp) AC End) (YG (gblk X A' s_0 H_0 cenv fp) fp tn AC Yd) n s₀
        (.compLoop (.GeneratorExp elt [⟨tg, iter, ifs, 0⟩] scope pos) 0 (.ref it) .none cenv)
        ((model X.prog X.w).den (.compLoop (.GeneratorExp elt [⟨tg, iter, ifs, 0⟩] scope pos) 0 (.ref it) .none cenv)) [] s := by
  have stat : ∀ {a : α} {cp : List (Addr × Obj)} {σ' : L2.St} {H' : Hp} {s' : Shared}, AC a cp → Inv (gblk X A' s_0 H_0 cenv fp) cp σ' H' s' → (∀ b ∈ fp, H' b = none) → ∀ b ∈ fp, FpOk (gblk X A' s_0 H_0 cenv fp) cp H' b := fun {a cp σ' H' s'} hac I' hn b hb =>
    ⟨hn b hb, (I'.ok.exf b hb).1, I'.ok.exfs b hb, .inl hb, fun x c e => (I'.ok.exf b hb).2 x c e, fun p hp => hAC a cp hac p (by simpa using hp) b hb⟩
  intro m
  induction m using Nat.strongRecOn with
  | ind m ih =>
    intro n i a H s₀ s cp hmn w hac tie I st nf
    show Seg _ A _ _ _ s₀ _ ((compTurn (.GeneratorExp elt [⟨tg, iter, ifs, 0⟩] scope pos) 0 (.ref it) .none cenv).onRaise (leaving cenv)) [] s
    rw [compTurn_gen, Sem.onRaise_eq_wrap]
    refine seg_bind_wrap (wpAny_standAt ?_)
    rcases turn i m a H w with ⟨stop, hend⟩ | ⟨go, Nx, hNx, step⟩
    · refine seg_bind_wrap ?_
      rw [hA]
      refine thnF (T.done (gblk X A' s_0 H_0 cenv fp) rfl rfl rfl hc i cp s σ0 H (fun _ _ => False) I (stat hac I nf) st stop) fun r s1 ⟨hr, I1⟩ => ?_
      subst hr
      exact seg_end (.ok .next) (.inl ⟨.inr rfl, a, _, H, cp, hac, tie, I1, hend⟩)
    · refine seg_bind_wrap ?_
      rw [hA]
      refine thnF (T.item (gblk X A' s_0 H_0 cenv fp) rfl rfl rfl hc i cp s σ0 H (fun _ _ => False) I (stat hac I nf) st go) fun r s1 ⟨u, hr, h1⟩ => ?_
      subst hr
      refine seg_bind_wrap ?_
      rw [hA]
      refine thnF h1 fun _ s2 ⟨x, H2, I2, r2, y2, st2, n2⟩ => ?_
      have I2' := I2.pinned (stat hac I2 n2) (T.obj _ _ st2)
      refine seg_bind_wrap ?_
      rw [hA]
      refine thnF (pg.run _ s2 _ H2 x u _ I2' r2 (step x H2 y2)) fun _ s3 ⟨σ3, H3, I3, hw3, q3⟩ => ?_
      refine seg_bind_wrap ?_
      rw [hA]
      refine thnF (pt.run _ s3 σ3 H3 _ I3 q3) fun b s4 ⟨H4, I4, q4⟩ => ?_
      have hl : σ0.length = σ3.length := by rw [← hw3, wipe_length]
      have fin : ∀ {s' : Shared} {H' : Hp}, Inv (gblk X A' s_0 H_0 cenv fp) (cp ++ pinsAt fp s2.heap) σ3 H' s' → Inv (gblk X A' s_0 H_0 cenv fp) cp σ0 H' s' ∧ tn (i + 1) s'.heap ∧ ∀ b ∈ fp, H' b = none := fun {s' H'} I' => by
        have pin' : ∀ b ∈ fp, ∀ o, s2.heap.get? b = some o → s'.heap.get? b = some o ∧ H' b = none := fun b hb o e =>
          let z := I'.pin (b, o) (List.mem_append_right _ (List.mem_append_right _ (mem_pinsAt hb e)))
          ⟨z.1, z.2.1⟩
        refine ⟨(I'.unpinned (pins := cp)).weak hl (wipe_wipe_some hw3), T.keep _ _ _ st2 fun b hb o e => (pin' b hb o e).1, fun b hb => ?_⟩
        obtain ⟨o, e, _⟩ := T.obj _ _ st2 b hb
        exact (pin' b hb o e).2
      cases b with
      | false =>
        simp only [Bool.false_eq_true, if_false] at q4 ⊢
        obtain ⟨m', hm, w'⟩ := hNx a H4 q4
        obtain ⟨J1, J2, J3⟩ := fin I4
        exact seg_again rfl (ih m' hm n (i + 1) a H4 s₀ s4 cp (by omega) w' hac tie J1 J2 J3)
      | true =>
        simp only [if_true] at q4 ⊢
        have hy : ∀ v, yieldOut cenv v = yieldValue v := fun v => by simp only [yieldOut, hco, Bool.false_eq_true, if_false]
        simp only [hy]
        rw [Sem.bind_eq_wrap', Sem.bind_eq_wrap', Sem.wrap_wrap, Sem.wrap_wrap]
        refine seg_wrap ?_
        rw [hA]
        refine thnF (pe.run _ s4 σ3 H4 _ I4 q4) fun yv s5 ⟨y, H5, I5, r5, q5⟩ => ?_
        obtain ⟨J1, J2, J3⟩ := fin I5
        -- at least one more
        cases n with
        | zero => exact absurd hmn (Nat.not_lt_zero _)
        | succ n =>
          refine seg_at (seg_yield rfl rfl rfl ⟨a, y, σ0, H5, i + 1, cp, Nx, r5, hac, tie, J1, J2, J3, q5, fun a' cp' s' nx hac' I' st' => ?_⟩)
          obtain ⟨m', hm, w'⟩ := hNx a' H5 nx
          exact seg_again rfl (ih m' hm n (i + 1) a' H5 s' s' cp' (by omega) w' hac' (fun p hp => (I'.pin p (List.mem_append_right _ hp)).1) I' st' J3)
end
/-! ### a generator that is made -/
section
variable {X : Cx} {pins : List (Addr × Obj)} {σ : L2.St} {H : Hp} {s : Shared}
def GenObj (o : Obj) (g : Nat) : Prop := ∃ nm qn, o.cls = .type "generator" ∧ o.data = .fields #[.int g 0, nm, qn] ∧ o.slots = #[]
theorem GenObj.isGen {o : Obj} {g : Nat} (h : GenObj o g) {a : Addr} {hp : Heap} (e : hp.get? a = some o) : hp.IsGen a g := by
  obtain ⟨nm, qn, h1, h2, h3⟩ := h
  exact ⟨o, nm, qn, e, h1, h2, h3⟩
/-- the generator u, made and not begun, in the state s5 -/
def Gx (X : Cx) (pins : List (Addr × Obj)) (σ : L2.St) (A : Around) (J : It) (g : TG) (tt : TT) (te : TE) (vs : List Nat) (H4 : Hp) (u : Value) (s5 : Shared) : Prop :=
  ∃ (A' : Around) (s_0 : Shared) (H_0 : Hp) (cenv : Env) (fp : List Addr) (ga : Addr) (gn : Nat) (go : Obj) (tn : Nat → Heap → Prop) (gs : GenState),
    u = .ref ga ∧ GenObj go gn ∧ s5.gens[gn]? = some gs ∧ gs.bare = true ∧ Inv (gblk X A' s_0 H_0 cenv fp) [(ga, go)] (wipe σ vs) H4 s5 ∧ tn 0 s5.heap ∧ (∀ b ∈ fp, H4 b = none) ∧ (∀ b ∈ fp, b < ga) ∧
    (∀ i h h', tn i h → (∀ b ∈ fp, ∀ o, h.get? b = some o → h'.get? b = some o) → tn i h') ∧ (∀ cp σ' H' s', Inv (gblk X A' s_0 H_0 cenv fp) cp σ' H' s' → Inv X pins σ H' s') ∧
    ∀ (α : Type) (AC : α → List (Addr × Obj) → Prop) (End : α → Hp → Prop) (Yd : α → V → Hp → (α → Hp → Prop) → Prop) (W : Nat → Nat → α → Hp → Prop) (m n : Nat) (a : α) (cp : List (Addr × Obj)) (s' : Shared),
      tGx J g tt te (wipe σ vs) vs End Yd W → W 0 m a H4 → m < n → (∀ a cp, AC a cp → ∀ p ∈ cp, ∀ b ∈ fp, p.1 ≠ b) → AC a cp → Inv (gblk X A' s_0 H_0 cenv fp) cp (wipe σ vs) H4 s' → tn 0 s'.heap →
      gs.Goes (model X.prog X.w) A (RG (gblk X A' s_0 H_0 cenv fp) AC End) (YG (gblk X A' s_0 H_0 cenv fp) fp tn AC Yd) n (.send .none) s'
/-- what stands about an asker -/
structure Near (A B : Around) : Prop where
  hd : B.handled = A.handled
  fr : B.frames = A.frames
  gd : B.guards = A.guards
  dp : B.depth = A.depth
  un : B.units ≤ A.units + 8
theorem gx_make {c P : Addr} {elt tg iter : Expr} {ifs : List Expr} {gpos : Pos} {scope : Scope} {own : List (Str × Nat)} {wi : TI} {g : TG} {tt : TT} {te : TE} {k : Nat} {Q' : Value → Shared → Prop} {R : It → Hp → Prop} {A : Around}
    (hr : Room (k + 1) X.A) (near : Near X.A A) (hc : X.calm = true) (hN : X.N.Nodup) (TB : GxR.TabB X.base X.mg c P) (hcode : X.env.code = .ref c) (hco : scope.isCoroutine = false) (hdot : scope.names.lookup (".0" : Str) = some NameKind.local)
    (nocell : ∀ y ∈ scope.names, y.2 ≠ .cell) (ok : BlkOk X.N X.env.scope scope own) (hi : PI X tg iter wi)
    (hg : ∀ (A' : Around) (s : Shared) (H : Hp) (C : Addr) (cl : List (Str × Addr)) (code : Value) (fp : List Addr), Room k A' → A'.guards = X.A.guards → PG (gblk X A' s H (genEnv scope cl C code builtinsNs X.env) fp) tg g)
    (ht : ∀ (A' : Around) (s : Shared) (H : Hp) (C : Addr) (cl : List (Str × Addr)) (code : Value) (fp : List Addr), Room k A' → A'.guards = X.A.guards → PTs (gblk X A' s H (genEnv scope cl C code builtinsNs X.env) fp) ifs tt)
    (he : ∀ (A' : Around) (s : Shared) (H : Hp) (C : Addr) (cl : List (Str × Addr)) (code : Value) (fp : List Addr), Room k A' → A'.guards = X.A.guards → PE (gblk X A' s H (genEnv scope cl C code builtinsNs X.env) fp) elt te)
    (hs : ∀ v, genFold iter X.env v = pure v) (I : Inv X pins σ H s) (h : wi σ H fun J H1 => GxR.TabG H1 P ∧ R J H1)
    (hQ : ∀ J H1 H2 u s5, R J H1 → GxR.Tabbed P H1 H2 → Gx X pins σ A J g tt te (own.map (·.2)) H2 u s5 → Q' u s5) :
    wpAny (model X.prog X.w) X.A (eval (.GeneratorExp elt [⟨tg, iter, ifs, 0⟩] scope gpos) X.env) Q' X.xe s := by
  have hfree : ∀ y ∈ scope.names, y.2 = .free → ∃ c, X.env.cells.lookup y.1 = some c := fun y hy e => by
    rcases ok.free y hy e with k | k
    · exact I.ok.has _ (.inl k)
    · exact I.ok.has _ (.inr k)
  refine wpAny_GeneratorExp_make hco (closure_ok hfree) nocell hdot ok.kind (by have := hr.dp; omega) ?_ hs
  refine thn (hi.run pins s σ H _ I h) fun xv s1 hx => thn hx fun itv s2 h2 => ?_
  obtain ⟨it, fp, tn, J, H2, rfl, I2, T, st2, f2, ⟨ps, hP, ht3⟩, q⟩ := h2
  refine ⟨I2.nolimit, ?_⟩
  have hPs : s2.heap.get? P = some { cls := .none, data := .fields ps } := I2.hok P _ hP
  have cd : PySem.W.CodeHd s2.heap c P := TB.code.keeps fun b u e => I2.bk b u e
  have nP : ∀ b, H2 b = none → b ≠ P := fun b e z => by
    rw [z, hP] at e
    cases e
  have cont : ∀ (code : Value) (h3 : Heap) (tk : Nat) (ps' : Array Value), Heap.ExtBut P s2.heap h3 → s2.heap.objs.size ≤ h3.objs.size → h3.get? P = some { cls := .none, data := .fields ps' } → (∃ more, ps' = ps ++ more) → TriplesOk ps'.toList →
      wpAny (model X.prog X.w) X.A (builtinsFor X.env.globals X.env.builtins) (fun bi s₄ =>
        ∀ h', h'.Ns s₄.heap.objs.size (fun y => if y = ".0" then some (Value.ref it) else none) → Heap.SameBut s₄.heap.objs.size (s₄.heap.push { cls := .type "frame", data := .dict #[] }) h' →
          Q' (.ref h'.objs.size) { s₄ with
            gens := s₄.gens.push (.fresh (.compStart (.GeneratorExp elt [⟨tg, iter, ifs, 0⟩] scope gpos) 0 (.ref it) .none (genEnv scope (cloFrom X.env.cells scope.names []) s₄.heap.objs.size code bi X.env))),
            toks := s₄.toks + 1 + 1 + 1,
            heap := h'.push { cls := .type "generator", data := .fields #[.int s₄.gens.size 0, .str "<genexpr>" (s₄.toks + 1), .str (X.env.qual ++ "<genexpr>") (s₄.toks + 1 + 1)] } }) X.xe { s2 with heap := h3, toks := tk } := by
    rintro code h3 tk ps' hx hsz hP3 ⟨more, rfl⟩ ht4
    obtain ⟨bm, ob, e1, e2, e3, e4, e5, e6, e7, e8⟩ := TB.bm
    refine wpAny_builtinsFor (m := X.mg) (by rw [I2.ok.glob]; exact (I2.mod.glob.keeps I2.bk).extBut hx TB.gP) e1 e2 (hx _ _ e4 (I2.bk _ _ e5)) e6 e7 e8 ?_
    intro h' hns hsb
    have I3 : Inv X pins σ (upd H2 P (.tbl (ps ++ more))) { s2 with heap := h3, toks := tk } := GxR.inv_tab (g' := s2.gens) (d' := s2.drawn) I2 hP (fun b o hb e => hx b o hb e) hP3 I2.bare
    have lt2 : ∀ b ∈ fp, b < s2.heap.objs.size := fun b hb => by
      obtain ⟨o, e, _⟩ := T.obj _ _ st2 b hb
      exact Heap.lt_size e
    have f3 : ∀ b ∈ fp, FpOk X pins (upd H2 P (.tbl (ps ++ more))) b ∧ b < ({ s2 with heap := h3, toks := tk } : Shared).heap.objs.size := fun b hb => by
      refine ⟨⟨?_, (f2 b hb).2⟩, Nat.lt_of_lt_of_le (lt2 b hb) hsz⟩
      rw [upd_ne (nP b (f2 b hb).1)]
      exact (f2 b hb).1
    have st3 : tn 0 h3 := T.keep _ _ _ st2 fun b hb o e => hx b o (nP b (f2 b hb).1) e
    generalize hs4 : ({ s2 with heap := h3, toks := tk } : Shared) = s4 at I3 f3 hns hsb ⊢
    have h4 : s4.heap = h3 := by rw [← hs4]
    have hsz4 : h'.objs.size = s4.heap.objs.size + 1 := by rw [hsb.1, Heap.size_push]
    have keep' : ∀ b o, s4.heap.get? b = some o → h'.get? b = some o := fun b o e => hsb.extBut b o (Nat.ne_of_lt (Heap.lt_size e)) (Heap.get?_push_of_some _ e)
    generalize hgo : ({ cls := .type "generator", data := .fields #[.int s4.gens.size 0, .str "<genexpr>" (s4.toks + 1), .str (X.env.qual ++ "<genexpr>") (s4.toks + 1 + 1)] } : Obj) = go
    have hGO : GenObj go s4.gens.size := by rw [← hgo]; exact ⟨_, _, rfl, rfl, rfl⟩
    have k5 : ∀ b o, s4.heap.get? b = some o → (h'.push go).get? b = some o := fun b o e => Heap.get?_push_of_some _ (keep' b o e)
    have pg := fun A' => hg A' s4 (upd H2 P (.tbl (ps ++ more))) s4.heap.objs.size (cloFrom X.env.cells scope.names []) code fp
    have pt := fun A' => ht A' s4 (upd H2 P (.tbl (ps ++ more))) s4.heap.objs.size (cloFrom X.env.cells scope.names []) code fp
    have pe := fun A' => he A' s4 (upd H2 P (.tbl (ps ++ more))) s4.heap.objs.size (cloFrom X.env.cells scope.names []) code fp
    generalize hce : genEnv scope (cloFrom X.env.cells scope.names []) s4.heap.objs.size code builtinsNs X.env = cenv at pg pt pe ⊢
    have hscn : cenv.scope = scope := by rw [← hce]; rfl
    generalize hA' : A.over (.compLoop (.GeneratorExp elt [⟨tg, iter, ifs, 0⟩] scope gpos) 0 (.ref it) .none cenv) [] = A'
    have hfrA : A'.frames = some (cenv :: X.stack) := by
      rw [← hA']
      show pushEnvs [cenv] A.frames = _
      rw [near.fr, I2.ok.frames]
      rfl
    have hhd : A'.handled = none := by
      rw [← hA']
      show A.handled = none
      rw [near.hd]
      exact hr.hd
    have rm : Room k A' := by
      refine ⟨hhd, ?_, ?_⟩
      · have := hr.dp
        have := near.dp
        rw [← hA']
        show A.depth + 0 + 1 + 3 * k + 5 < _
        omega
      · have := hr.un
        have := near.un
        rw [← hA']
        show A.units + 0 + 3 + 16 * k + 200 < _
        omega
    have gdA : A'.guards = X.A.guards := by
      rw [← hA']
      show pushGuards [] A.guards = _
      rw [near.gd]
      rfl
    have I5 : Inv (gblk X A' s4 (upd H2 P (.tbl (ps ++ more))) cenv fp) [(h'.objs.size, go)] (wipe σ (own.map (·.2))) (upd H2 P (.tbl (ps ++ more)))
        { s4 with gens := s4.gens.push (.fresh (.compStart (.GeneratorExp elt [⟨tg, iter, ifs, 0⟩] scope gpos) 0 (.ref it) .none cenv)), toks := s4.toks + 1 + 1 + 1, heap := h'.push go } := by
      subst hce
      refine gen_start (it := .ref it) I3 ok nocell hN f3 hhd hfrA rfl (I3.bare.push rfl) k5 (hns.push _) fun p hp => ?_
      have e : p = (h'.objs.size, go) := by simpa using hp
      subst e
      refine ⟨by show s4.heap.objs.size < h'.objs.size; omega, Heap.get?_push_size _ (by rw [← hgo]; rfl), fun v z => ?_⟩
      rw [← hgo] at z
      cases z
    refine hQ J H2 _ _ _ q ⟨⟨_, upd_same, ht4⟩, fun b hb => upd_ne hb⟩ ⟨A', s4, _, cenv, fp, h'.objs.size, s4.gens.size, go, tn, _, rfl, hGO, Array.getElem?_push_size .., rfl, I5, ?_, fun b hb => (f3 b hb).1.1, fun b hb => ?_, T.keep, fun cp σ' H' s' I' => ?_, ?_⟩
    · exact T.keep _ _ _ st3 fun b _ o e => k5 b o (by rw [h4]; exact e)
    · have := (f3 b hb).2
      rw [hsz4]
      exact Nat.lt_succ_of_lt this
    · exact I3.call' (ch := fp) I'.os I'.base I'.hok I'.bare fun b hb => ⟨(f3 b hb).1.2.2.2.1, (f3 b hb).1.2.1, (f3 b hb).1.2.2.2.2.1, (f3 b hb).1.2.2.2.2.2⟩
    · intro α AC End Yd W m n a cp s' turn w hmn hAC hac I' st'
      refine ⟨rfl, ?_⟩
      have loop := seg_gx (A := A) (pos := gpos) (iter := iter) (scope := scope) hA' hc (by rw [hscn]; exact hco) T (pg A' rm gdA) (pt A' rm gdA) (pe A' rm gdA) hAC turn m n 0 a _ s' s' cp hmn w hac (fun p hp => (I'.pin p (List.mem_append_right _ hp)).1) I' st' fun b hb => (f3 b hb).1.1
      show Seg _ A _ _ _ s' _ ((compStart (.GeneratorExp elt [⟨tg, iter, ifs, 0⟩] scope gpos) 0 (.ref it) .none cenv).onRaise (leaving cenv)) [] s'
      unfold compStart
      rw [Sem.onRaise_eq_wrap]
      show Seg _ A _ _ _ s' _ ((ask >>= _).wrap _ _ _ _) [] s'
      refine seg_bind_wrap (wpAny_askSetting ?_)
      split
      · exact seg_again rfl loop
      · first
          | exact seg_bind_wrap (wpAny_rule (seg_bind_wrap (wpAny_standAt (seg_bind_wrap (T.self _ 0 s' _ _ st' (seg_again rfl loop))))))
          | (refine seg_bind_wrap (wpAny_rule ?_); show Seg _ A _ _ _ s' _ ((standAt iter.pos >>= _).wrap _ _ _ _) [] s'; exact seg_bind_wrap (wpAny_standAt (seg_bind_wrap (T.self _ 0 s' _ _ st' (seg_again rfl loop)))))
  cases hf : codeAmong gpos ps.toList with
  | none =>
    refine wpAny_genexprCodeX hcode (cd.code hPs ht3) (cd.tab hPs) hf fun c' h' tk hx hge hlt hco' _ htab' _ => ?_
    obtain ⟨o1, vs, f1, tf, fl, tg, inF, tx, tt, op, _, _, _, _, _, _, _, _, _, htr, _⟩ := hco'
    exact cont _ h' tk _ hx (Nat.le_trans hge (Nat.le_of_lt hlt)) htab'.2 ⟨_, rfl⟩ htr
  | some cv =>
    refine wpAny_genexprCode_hit hcode (cd.code hPs ht3) hf ?_
    exact cont cv s2.heap s2.toks ps (Heap.ExtBut.refl _ _) (Nat.le_refl _) hPs ⟨#[], by simp⟩ ht3
end
/-! ### asking -/
section
variable {α : Type} {X : Cx} {A A' : Around} {s_0 : Shared} {H_0 : Hp} {cenv : Env} {fp : List Addr} {tn : Nat → Heap → Prop} {AC : α → List (Addr × Obj) → Prop} {End : α → Hp → Prop} {Yd : α → V → Hp → (α → Hp → Prop) → Prop} {ga : Addr} {gn n : Nat} {go : Obj}
theorem next_gx2 {gs : GenState} {s : Shared} {Q : Option Value → Shared → Prop} {E : Value → Shared → Prop} (hh : A.handled = none) (hroom : A.depth < recursionLimit) (hl : s.heap.NoLimit) (hG : GenObj go gn) (e : s.heap.get? ga = some go) (hgs : s.gens[gn]? = some gs)
    (hgo : gs.Goes (model X.prog X.w) A.in1 (RG (gblk X A' s_0 H_0 cenv fp) AC End) (YG (gblk X A' s_0 H_0 cenv fp) fp tn AC Yd) n (.send .none) (s.setGen gn .running))
    (item : ∀ (a : α) (x : V) (σ : L2.St) (H : Hp) (i : Nat) (cp : List (Addr × Obj)) (Nx : α → Hp → Prop) (v : Value) (s1 : Shared) (gs' : GenState), RelV x v → AC a cp → (∀ p ∈ cp, s.heap.get? p.1 = some p.2) → Inv (gblk X A' s_0 H_0 cenv fp) cp σ H s1 → tn i s1.heap → Yd a x H Nx → s1.gens[gn]? = some gs' →
      (∀ a' cp' s', Nx a' H → AC a' cp' → Inv (gblk X A' s_0 H_0 cenv fp) cp' σ H s' → tn i s'.heap → ∃ m, n = m + 1 ∧ gs'.Goes (model X.prog X.w) A.in1 (RG (gblk X A' s_0 H_0 cenv fp) AC End) (YG (gblk X A' s_0 H_0 cenv fp) fp tn AC Yd) m (.send .none) s') → Q (some v) s1)
    (done : ∀ (a : α) (σ : L2.St) (H : Hp) (cp : List (Addr × Obj)) (s1 : Shared), AC a cp → (∀ p ∈ cp, s.heap.get? p.1 = some p.2) → Inv (gblk X A' s_0 H_0 cenv fp) cp σ H s1 → End a H → Q none s1) :
    wpAny (model X.prog X.w) A (pyNext (.ref ga)) Q E s := by
  have hgl : gn < s.gens.size := (Array.getElem?_eq_some_iff.mp hgs).1
  refine GenW.wpAny_gsz (n := gn + 1) hgl (next_genG (Er := fun _ _ => False) hh hl hroom (hG.isGen e) hgs hgo (fun v s₁ gs' hbare hv => ?_) (fun s₁ hp h' hk => ?_) fun e s₁ he => he.elim)
  · intro hsz
    obtain ⟨a, x, σ, H, i, cp, Nx, r, hac, tie, I, st, nf, hy, kap⟩ := hv
    have hsz1 : gn < s₁.gens.size := by
      have q : (s₁.setGen gn gs').gens.size = s₁.gens.size := GenW.setGen_size _ _ _
      have hsz' : gn + 1 ≤ (s₁.setGen gn gs').gens.size := hsz
      omega
    refine item a x σ H i cp Nx v (s₁.setGen gn gs') gs' r hac tie (inv_moved I rfl (allBare_setGen I.bare hbare) fun _ _ q => q) st hy (setGen_at hsz1) fun a' cp' s' nx hac' I' st' => ?_
    have z := kap a' cp' s' nx hac' I' st'
    cases n with
    | zero => exact z.elim
    | succ m => exact ⟨m, rfl, z⟩
  · intro _
    obtain ⟨a, σ, H, cp, hac, tie, I, q⟩ := hp
    exact done a σ H cp _ hac tie (inv_moved I rfl (allBare_setGen I.bare rfl) hk) q
theorem next_gx {gs : GenState} {s : Shared} {Q : Option Value → Shared → Prop} {E : Value → Shared → Prop} (hh : A.handled = none) (hroom : A.depth < recursionLimit) (hl : s.heap.NoLimit) (hG : GenObj go gn) (e : s.heap.get? ga = some go) (hgs : s.gens[gn]? = some gs)
    (hgo : gs.Goes (model X.prog X.w) A.in1 (RG (gblk X A' s_0 H_0 cenv fp) AC End) (YG (gblk X A' s_0 H_0 cenv fp) fp tn AC Yd) n (.send .none) (s.setGen gn .running))
    (item : ∀ (a : α) (x : V) (σ : L2.St) (H : Hp) (i : Nat) (cp : List (Addr × Obj)) (Nx : α → Hp → Prop) (v : Value) (s1 : Shared) (gs' : GenState), RelV x v → AC a cp → Inv (gblk X A' s_0 H_0 cenv fp) cp σ H s1 → tn i s1.heap → Yd a x H Nx → s1.gens[gn]? = some gs' →
      (∀ a' cp' s', Nx a' H → AC a' cp' → Inv (gblk X A' s_0 H_0 cenv fp) cp' σ H s' → tn i s'.heap → ∃ m, n = m + 1 ∧ gs'.Goes (model X.prog X.w) A.in1 (RG (gblk X A' s_0 H_0 cenv fp) AC End) (YG (gblk X A' s_0 H_0 cenv fp) fp tn AC Yd) m (.send .none) s') → Q (some v) s1)
    (done : ∀ (a : α) (σ : L2.St) (H : Hp) (cp : List (Addr × Obj)) (s1 : Shared), AC a cp → Inv (gblk X A' s_0 H_0 cenv fp) cp σ H s1 → End a H → Q none s1) :
    wpAny (model X.prog X.w) A (pyNext (.ref ga)) Q E s :=
  next_gx2 hh hroom hl hG e hgs hgo (fun a x σ H i cp Nx v s1 gs' r hac _ I st hy at_ kap => item a x σ H i cp Nx v s1 gs' r hac I st hy at_ kap) fun a σ H cp s1 hac _ I q => done a σ H cp s1 hac I q
/-- all(..) asks on -/
theorem all_gx {R : Result → Shared → Prop} {Stop : Hp → Prop} {End : Unit → Hp → Prop} (hh : A.handled = none) (hroom : A.depth < recursionLimit) (hG : GenObj go gn)
    (yes : ∀ (σ : L2.St) (H : Hp) (cp : List (Addr × Obj)) (s1 : Shared), Inv (gblk X A' s_0 H_0 cenv fp) cp σ H s1 → End () H → R (.ok (.ret (.bool true))) s1)
    (no : ∀ (σ : L2.St) (H : Hp) (cp : List (Addr × Obj)) (s1 : Shared), Inv (gblk X A' s_0 H_0 cenv fp) cp σ H s1 → Stop H → R (.ok (.ret (.bool false))) s1) :
    ∀ (n : Nat) (s : Shared), s.heap.NoLimit → s.heap.get? ga = some go → (∃ gs, s.gens[gn]? = some gs ∧ gs.Goes (model X.prog X.w) A.in1.in1 (RG (gblk X A' s_0 H_0 cenv fp) (fun _ cp => cp = [(ga, go)]) End)
      (YG (gblk X A' s_0 H_0 cenv fp) fp tn (fun _ cp => cp = [(ga, go)]) (fun _ y H Nx => ∃ b : Bool, y = .bl b ∧ if b = true then Nx () H else Stop H)) n (.send .none) (s.setGen gn .running)) →
      codeAny (model X.prog X.w) A (.builtin "all.loop" ⟨[.ref ga], []⟩) R s := by
  intro n
  induction n with
  | zero =>
    rintro s hl e ⟨gs, hgs, hgo⟩
    refine codeAny_builtin F.entry_all_loop ?_
    rw [Around.under_plainId F.plain_all_loop _]
    show wpAny _ A.in1 (pyNext (.ref ga) >>= _) _ _ s
    refine wpAny_bind (next_gx (A := A.in1) hh hroom hl hG e hgs hgo (fun a x σ H i cp Nx v s1 gs' r hac I st hy at_ kap => ?_) fun a σ H cp s1 hac I q => ?_)
    · obtain ⟨b, rfl, hb⟩ := hy
      cases (show v = Value.bool b from r)
      refine wpAny_bind (wpAny_holding (wpAny_truthy_bool ?_))
      refine wpAny_bind (wpAny_letGo ?_)
      cases b with
      | true =>
        obtain ⟨m, hm, _⟩ := kap () cp s1 hb hac I st
        cases hm
      | false =>
        simp only [Bool.false_eq_true, if_false] at hb ⊢
        exact wpAny_bind (wpAny_rule (wpAny_pure (no σ H cp s1 I hb)))
    · exact wpAny_bind (wpAny_rule (wpAny_pure (yes σ H cp s1 I q)))
  | succ n ih =>
    rintro s hl e ⟨gs, hgs, hgo⟩
    refine codeAny_builtin F.entry_all_loop ?_
    rw [Around.under_plainId F.plain_all_loop _]
    show wpAny _ A.in1 (pyNext (.ref ga) >>= _) _ _ s
    refine wpAny_bind (next_gx (A := A.in1) hh hroom hl hG e hgs hgo (fun a x σ H i cp Nx v s1 gs' r hac I st hy at_ kap => ?_) fun a σ H cp s1 hac I q => ?_)
    · obtain ⟨b, rfl, hb⟩ := hy
      cases (show v = Value.bool b from r)
      refine wpAny_bind (wpAny_holding (wpAny_truthy_bool ?_))
      refine wpAny_bind (wpAny_letGo ?_)
      cases b with
      | true =>
        simp only [if_true] at hb ⊢
        subst hac
        refine wpAny_pure ⟨plainId_quiet F.plain_all_loop _, ih s1 I.nolimit (I.pin (ga, go) (List.mem_append_right _ List.mem_cons_self)).1 ⟨gs', at_, ?_⟩⟩
        obtain ⟨m, hm, z⟩ := kap () [(ga, go)] (s1.setGen gn .running) hb rfl (inv_moved I rfl (allBare_setGen I.bare rfl) fun _ _ q => q) st
        cases hm
        exact z
      | false =>
        simp only [Bool.false_eq_true, if_false] at hb ⊢
        exact wpAny_bind (wpAny_rule (wpAny_pure (no σ H cp s1 I hb)))
    · exact wpAny_bind (wpAny_rule (wpAny_pure (yes σ H cp s1 I q)))
end
section
variable {X : Cx}
/-- all(elt for tg in iter ..) -/
def tAllX (P : Addr) (wi : TI) (g : TG) (tt : TT) (te : TE) (vs : List Nat) : TE := fun σ H Q => wi σ H fun J H1 => GxR.TabG H1 P ∧ ∀ H2, GxR.Tabbed P H1 H2 → ∃ W : Nat → Nat → Unit → Hp → Prop, (∃ m, W 0 m () H2) ∧
  tGx J g tt te (wipe σ vs) vs (fun _ H => Q (.bl true) H) (fun _ y H Nx => ∃ b : Bool, y = .bl b ∧ if b = true then Nx () H else Q (.bl false) H) W
theorem pe_allX {c P : Addr} {elt tg iter : Expr} {ifs : List Expr} {p pos gpos : Pos} {scope : Scope} {own : List (Str × Nat)} {wi : TI} {g : TG} {tt : TT} {te : TE} {k : Nat}
    (hr : Room (k + 1) X.A) (hc : X.calm = true) (hN : X.N.Nodup) (hgl : Gl X "all") (hm : X.mg "all" = none) (hb : bootBuiltins "all" = some (.builtin "all")) (TB : GxR.TabB X.base X.mg c P) (hcode : X.env.code = .ref c)
    (hco : scope.isCoroutine = false) (hdot : scope.names.lookup (".0" : Str) = some NameKind.local) (nocell : ∀ y ∈ scope.names, y.2 ≠ .cell) (ok : BlkOk X.N X.env.scope scope own) (hi : PI X tg iter wi)
    (hg : ∀ (A' : Around) (s : Shared) (H : Hp) (C : Addr) (cl : List (Str × Addr)) (code : Value) (fp : List Addr), Room k A' → A'.guards = X.A.guards → PG (gblk X A' s H (genEnv scope cl C code builtinsNs X.env) fp) tg g)
    (ht : ∀ (A' : Around) (s : Shared) (H : Hp) (C : Addr) (cl : List (Str × Addr)) (code : Value) (fp : List Addr), Room k A' → A'.guards = X.A.guards → PTs (gblk X A' s H (genEnv scope cl C code builtinsNs X.env) fp) ifs tt)
    (he : ∀ (A' : Around) (s : Shared) (H : Hp) (C : Addr) (cl : List (Str × Addr)) (code : Value) (fp : List Addr), Room k A' → A'.guards = X.A.guards → PE (gblk X A' s H (genEnv scope cl C code builtinsNs X.env) fp) elt te)
    (hs : ∀ v, genFold iter X.env v = pure v)
    (hst : starEach [.GeneratorExp elt [⟨tg, iter, ifs, 0⟩] scope gpos] X.env = (false, eval (.GeneratorExp elt [⟨tg, iter, ifs, 0⟩] scope gpos) X.env) :: starEach [] X.env := by rfl) :
    PE X (.Call (.Name "all" p) [.GeneratorExp elt [⟨tg, iter, ifs, 0⟩] scope gpos] [] pos) (tAllX P wi g tt te (own.map (·.2))) := by
  refine ⟨fun pins s σ H Q I h => ?_⟩
  refine wpAny_Call_Name_kw (ld_blt I hgl hm hb ?_)
  refine PyProof.Rows.callWith_builtin1 ?_ hst (by rfl)
  rw [hst]
  show wpAny _ _ (spliced ((false, eval (.GeneratorExp elt [⟨tg, iter, ifs, 0⟩] scope gpos) X.env) :: backTo pos (starEach [] X.env))) _ _ s
  refine Calls.spliced_cons (gx_make (A := X.A.in1.in1) hr ⟨rfl, rfl, rfl, rfl, (by show X.A.units + 1 + 1 ≤ _; omega)⟩ hc hN TB hcode hco hdot nocell ok hi hg ht he hs I h fun J H1 H2 u s5 hR hT hG => ?_)
  obtain ⟨A', s_0, H_0, cenv, fp, ga, gn, go, tn, gs, rfl, hGO, hgs, hbare, I5, st5, nf, hlt, keep, back, goes⟩ := hG
  obtain ⟨W, ⟨m, w0⟩, turn⟩ := hR H2 hT
  refine Calls.spliced_nil ?_
  have pin5 := (I5.pin (ga, go) (List.mem_append_right _ List.mem_cons_self)).1
  refine call_function_tree F.kind_all F.plain_all F.entry_all (F.args_all1 _) ?_
  unfold Builtin.«all»
  refine wpAny_bind (m := oneArg "all" _) (wpAny_pure ?_)
  refine wpAny_bind (wpAny_pyIter_gen (hGO.isGen pin5) ?_)
  refine wpAny_pure ⟨plainId_quiet F.plain_all_loop _, all_gx (A' := A') (s_0 := s_0) (H_0 := H_0) (cenv := cenv) (fp := fp) (tn := tn) (go := go) (gn := gn) (Stop := fun H => Q (.bl false) H) (End := fun _ H => Q (.bl true) H) hr.hd hr.depth hGO
    (fun σ' H' cp s1 I1 q => ⟨.bl true, H', back _ _ _ _ I1, rfl, q⟩) (fun σ' H' cp s1 I1 q => ⟨.bl false, H', back _ _ _ _ I1, rfl, q⟩) (m + 1) s5 I5.nolimit pin5 ⟨gs, hgs, ?_⟩⟩
  refine goes Unit _ _ _ W m (m + 1) () [(ga, go)] _ turn w0 (Nat.lt_succ_self _) (fun a cp hac p hp b hb z => ?_) rfl (inv_moved I5 rfl (allBare_setGen I5.bare rfl) fun _ _ q => q) st5
  subst hac
  have e : p = (ga, go) := by simpa using hp
  subst e
  exact absurd (hlt b hb) (by rw [← z]; exact Nat.lt_irrefl _)
end
/-! ### tuple(..) -/
section
variable {X : Cx} {A A' : Around} {s_0 : Shared} {H_0 : Hp} {cenv : Env} {fp : List Addr} {tn : Nat → Heap → Prop} {ga S : Addr} {gn n : Nat} {go : Obj}
/-- the asker's list S holds what is out -/
def ACl (ga : Addr) (go : Obj) (S : Addr) (ys : List V) (cp : List (Addr × Obj)) : Prop := ∃ (acc : Array Value) (c : Nat), cp = [(ga, go), (S, lstObj acc c)] ∧ Vals ys acc.toList
def YdL (ys : List V) (y : V) (H : Hp) (Nx : List V → Hp → Prop) : Prop := ys.length < sizeLine ∧ Nx (ys ++ [y]) H
theorem ext_gx {R : Result → Shared → Prop} {End : List V → Hp → Prop} {res : Value} (hh : A.handled = none) (hroom : A.depth < recursionLimit) (hG : GenObj go gn) (hSa : S ≠ ga) (far : (gblk X A' s_0 H_0 cenv fp).s_0.heap.objs.size ≤ S) (hSc : ∀ x c, cenv.cells.lookup x = some c → c ≠ S)
    (keep : ∀ i h h', tn i h → (∀ b ∈ fp, ∀ o, h.get? b = some o → h'.get? b = some o) → tn i h') (hSf : ∀ b ∈ fp, b ≠ S)
    (yes : ∀ (σ : L2.St) (H : Hp) (ys : List V) (acc : Array Value) (c : Nat) (s1 : Shared), Inv (gblk X A' s_0 H_0 cenv fp) [(ga, go), (S, lstObj acc c)] σ H s1 → Vals ys acc.toList → End ys H → R (.ok (.ret res)) s1) :
    ∀ (n : Nat) (s : Shared), s.heap.NoLimit → s.heap.get? ga = some go → (∃ gs, s.gens[gn]? = some gs ∧ gs.Goes (model X.prog X.w) A.in1.in1 (RG (gblk X A' s_0 H_0 cenv fp) (ACl ga go S) End)
      (YG (gblk X A' s_0 H_0 cenv fp) fp tn (ACl ga go S) YdL) n (.send .none) (s.setGen gn .running)) →
      codeAny (model X.prog X.w) A (.builtin "list.extend.loop" ⟨[.ref S, .ref ga, res], []⟩) R s := by
  intro n
  induction n with
  | zero =>
    rintro s hl e ⟨gs, hgs, hgo⟩
    refine codeAny_builtin F.entry_extend_loop ?_
    rw [Around.under_plainId F.plain_extend_loop _]
    show wpAny _ A.in1 (pyNext (.ref ga) >>= _) _ _ s
    refine wpAny_bind (next_gx (A := A.in1) hh hroom hl hG e hgs hgo (fun ys x σ H i cp Nx v s1 gs' r hac I st hy at_ kap => ?_) fun ys σ H cp s1 hac I q => ?_)
    · obtain ⟨acc, c, rfl, rv⟩ := hac
      have pS := I.pin (S, lstObj acc c) (List.mem_append_right _ (List.mem_cons_of_mem _ List.mem_cons_self))
      have I0 : Inv (gblk X A' s_0 H_0 cenv fp) [(ga, go)] σ H s1 := I.pins_of fun p hp => I.pin p (List.mem_append_right _ (by rw [List.mem_singleton.mp hp]; exact List.mem_cons_self))
      have I1 := I0.turned (t' := s1.toks) (h' := s1.heap.update S (Obj.mapSeq (·.push v))) (it := S) (fun b o hb q => (Heap.get?_update_other _ _ (Ne.symm hb)).trans q) pS.2.1 pS.2.2.1 (.inr far) hSc (fun p hp => by rw [List.mem_singleton.mp (show p ∈ [(ga, go)] by simpa using hp)]; exact Ne.symm hSa)
      have e2 := Heap.get?_update_self (Obj.mapSeq (·.push v)) pS.1 rfl
      obtain ⟨m, hm, _⟩ := kap (ys ++ [x]) [(ga, go), (S, _)] _ hy.2 ⟨acc.push v, _, rfl, by rw [Array.toList_push]; exact rv.append (.cons r .nil)⟩ (I1.pins_of fun p hp => by
        rcases List.mem_cons.mp hp with z | z
        · rw [z]; exact I1.pin (ga, go) (List.mem_append_right _ List.mem_cons_self)
        · rw [List.mem_singleton.mp z]; exact ⟨e2, pS.2.1, pS.2.2.1, pS.2.2.2.1, fun v q => by cases q⟩) (keep _ _ _ st fun b hb o q => (Heap.get?_update_other _ _ (Ne.symm (hSf b hb))).trans q)
      cases hm
    · obtain ⟨acc, c, rfl, rv⟩ := hac
      exact wpAny_pure (yes σ H ys acc c s1 I rv q)
  | succ n ih =>
    rintro s hl e ⟨gs, hgs, hgo⟩
    refine codeAny_builtin F.entry_extend_loop ?_
    rw [Around.under_plainId F.plain_extend_loop _]
    show wpAny _ A.in1 (pyNext (.ref ga) >>= _) _ _ s
    refine wpAny_bind (next_gx (A := A.in1) hh hroom hl hG e hgs hgo (fun ys x σ H i cp Nx v s1 gs' r hac I st hy at_ kap => ?_) fun ys σ H cp s1 hac I q => ?_)
    · obtain ⟨acc, c, rfl, rv⟩ := hac
      have pS := I.pin (S, lstObj acc c) (List.mem_append_right _ (List.mem_cons_of_mem _ List.mem_cons_self))
      have I0 : Inv (gblk X A' s_0 H_0 cenv fp) [(ga, go)] σ H s1 := I.pins_of fun p hp => I.pin p (List.mem_append_right _ (by rw [List.mem_singleton.mp hp]; exact List.mem_cons_self))
      have I1 := I0.turned (t' := s1.toks) (h' := s1.heap.update S (Obj.mapSeq (·.push v))) (it := S) (fun b o hb q => (Heap.get?_update_other _ _ (Ne.symm hb)).trans q) pS.2.1 pS.2.2.1 (.inr far) hSc (fun p hp => by rw [List.mem_singleton.mp (show p ∈ [(ga, go)] by simpa using hp)]; exact Ne.symm hSa)
      have e2 := Heap.get?_update_self (Obj.mapSeq (·.push v)) pS.1 rfl
      have hln := rv.length
      have hlt : acc.size < sizeLine := by
        have := hy.1
        rw [hln] at this
        simpa using this
      have pG := I1.pin (ga, go) (List.mem_append_right _ List.mem_cons_self)
      show wpAny _ A.in1 (updateSeq S (·.push v) >>= _) _ _ _
      refine wpAny_bind ?_
      refine wpAny_updateSeq pS.1 rfl (wpAny_pure ⟨plainId_quiet F.plain_extend_loop _, ih _ I1.nolimit pG.1 ⟨gs', at_, ?_⟩⟩) (Nat.le_of_lt hlt) (by show (acc.push v).size ≤ sizeLine + 1; rw [Array.size_push]; omega)
      obtain ⟨m, hm, z⟩ := kap (ys ++ [x]) [(ga, go), (S, _)] (({ s1 with heap := s1.heap.update S (Obj.mapSeq (·.push v)) } : Shared).setGen gn .running) hy.2 ⟨acc.push v, _, rfl, by rw [Array.toList_push]; exact rv.append (.cons r .nil)⟩ (inv_moved (I1.pins_of fun p hp => by
        rcases List.mem_cons.mp hp with z | z
        · rw [z]; exact pG
        · rw [List.mem_singleton.mp z]; exact ⟨e2, pS.2.1, pS.2.2.1, pS.2.2.2.1, fun v q => by cases q⟩) rfl (allBare_setGen (s := { s1 with heap := s1.heap.update S (Obj.mapSeq (·.push v)) }) I1.bare rfl) fun _ _ q => q) (keep _ _ _ st fun b hb o q => (Heap.get?_update_other _ _ (Ne.symm (hSf b hb))).trans q)
      cases hm
      exact z
    · obtain ⟨acc, c, rfl, rv⟩ := hac
      exact wpAny_pure (yes σ H ys acc c s1 I rv q)
end
section
variable {X : Cx} {pins : List (Addr × Obj)} {σ : L2.St} {s5 : Shared} {J : It} {g : TG} {tt : TT} {te : TE} {vs : List Nat} {H4 : Hp} {u : Value}
/-- all that a generator hands out, in a list of the asker's own -/
theorem collect_gx {A : Around} {E : Value → Shared → Prop} {Q : List Value → Shared → Prop} {End : List V → Hp → Prop} {W : Nat → Nat → List V → Hp → Prop} {m : Nat} (hh : A.handled = none) (hroom : A.depth < recursionLimit) (G : Gx X pins σ A.in1.in1 J g tt te vs H4 u s5)
    (w0 : W 0 m [] H4) (turn : tGx J g tt te (wipe σ vs) vs End YdL W)
    (hQ : ∀ (s' : Shared) (acc : Array Value) (ys : List V) (H' : Hp), Inv X pins σ H' s' → Vals ys acc.toList → End ys H' → Q acc.toList s') : wpAny (model X.prog X.w) A (collect u) Q E s5 := by
  obtain ⟨A', s_0, H_0, cenv, fp, ga, gn, go, tn, gs, rfl, hGO, hgs, hbare, I5, st5, nf, hlt, keep, back, goes⟩ := G
  have pin5 := I5.pin (ga, go) (List.mem_append_right _ List.mem_cons_self)
  have glt : ga < s5.heap.objs.size := Heap.lt_size pin5.1
  have hSI : s5.heap.objs.size ≠ ga := Nat.ne_of_gt glt
  unfold collect
  refine wpAny_bind (wpAny_runValue (codeAny_builtin F.entry_proto_collect ?_))
  rw [Around.under_plainId F.plain_proto_collect _]
  show wpAny _ A.in1 (newList [] >>= fun l => again (.builtin "list.__iadd__" ⟨[l, .ref ga], []⟩)) _ _ s5
  refine wpAny_bind (wpAny_newObj_type ?_)
  refine wpAny_pure ⟨plainId_quiet F.plain_list_iadd _, codeAny_builtin F.entry_list_iadd ?_⟩
  rw [Around.under_plainId F.plain_list_iadd _]
  show wpAny _ A.in1 (Builtin.List.listExtendWith (.ref s5.heap.objs.size) (.ref ga) (.ref s5.heap.objs.size)) _ _ _
  unfold Builtin.List.listExtendWith
  have k1 : ∀ b o, s5.heap.get? b = some o → (s5.heap.push { cls := .type "list", data := .seq ([] : List Value).toArray }).get? b = some o := fun b o e => Heap.get?_push_of_some _ e
  have hT : Shared.TypeIs { s5 with heap := s5.heap.push { cls := .type "list", data := .seq ([] : List Value).toArray } } (.ref ga) "generator" := Heap.IsGen.typeIs (s := { s5 with heap := _ }) (hGO.isGen (k1 _ _ pin5.1))
  refine wpAny_bind (wpAny_typeOf hT ?_)
  have h1 : Builtin.List.listSameRef (.ref s5.heap.objs.size) (.ref ga) = false := by simp [Builtin.List.listSameRef, hSI]
  have h2 : (Value.type "generator" == Value.type "list") = false := by decide
  have h3 : (Value.type "generator" == Value.type "tuple") = false := by decide
  simp only [h1, h2, h3, Bool.or_false, Bool.false_eq_true, if_false]
  refine wpAny_bind (wpAny_pyIter_gen (s := { s5 with heap := _ }) (hGO.isGen (k1 _ _ pin5.1)) ?_)
  refine wpAny_bind (wpAny_holding ?_)
  unfold Builtin.List.listLengthHint
  refine wpAny_bind (wpAny_specialOf hT F.gen_no_len ?_)
  show wpAny _ A.in1 (specialOf (Value.ref ga) (Str.ofString "__length_hint__") >>= _) _ _ _
  refine wpAny_bind (wpAny_specialOf hT F.gen_no_hint ?_)
  refine wpAny_pure ?_
  show wpAny _ A.in1 (rule "list.extend.makes-room" >>= fun _ => Builtin.List.listTouch (.ref s5.heap.objs.size) >>= fun _ =>
    again (.builtin "list.extend.loop" ⟨[.ref s5.heap.objs.size, .ref ga, .ref s5.heap.objs.size], []⟩)) _ _ _
  refine wpAny_bind (wpAny_rule ?_)
  have hS₁ : (s5.heap.push { cls := .type "list", data := .seq ([] : List Value).toArray }).get? s5.heap.objs.size = some { cls := .type "list", data := .seq ([] : List Value).toArray } := Heap.get?_push_size _ rfl
  refine wpAny_bind ?_
  show wpAny _ A.in1 (updateSeq s5.heap.objs.size (·.push .none) >>= fun _ => updateSeq s5.heap.objs.size (·.pop)) _ _ _
  refine wpAny_bind (wpAny_updateSeq hS₁ rfl ?_)
  have hS₂ := Heap.get?_update_self (Obj.mapSeq (·.push Value.none)) hS₁ rfl
  refine wpAny_updateSeq hS₂ rfl ?_
  have hS₃ := Heap.get?_update_self (Obj.mapSeq (·.pop)) hS₂ rfl
  obtain ⟨c3, hS₄⟩ : ∃ c, (((s5.heap.push { cls := .type "list", data := .seq ([] : List Value).toArray }).update s5.heap.objs.size (Obj.mapSeq (·.push Value.none))).update s5.heap.objs.size (Obj.mapSeq (·.pop))).get? s5.heap.objs.size = some (lstObj #[] c) := ⟨_, hS₃⟩
  have k3 : ∀ b o, s5.heap.get? b = some o → (((s5.heap.push { cls := .type "list", data := .seq ([] : List Value).toArray }).update s5.heap.objs.size (Obj.mapSeq (·.push Value.none))).update s5.heap.objs.size (Obj.mapSeq (·.pop))).get? b = some o :=
    fun b o e => (Heap.get?_update_other _ _ (Ne.symm (Nat.ne_of_lt (Heap.lt_size e)))).trans ((Heap.get?_update_other _ _ (Ne.symm (Nat.ne_of_lt (Heap.lt_size e)))).trans (k1 b o e))
  have fS : FpOk (gblk X A' s_0 H_0 cenv fp) [(ga, go)] H4 s5.heap.objs.size := I5.fpOk (Nat.le_refl _) (I5.hok.fresh (Nat.le_refl _))
  have hfS : ∀ b ∈ fp, b ≠ s5.heap.objs.size := fun b hb => Nat.ne_of_lt (Nat.lt_trans (hlt b hb) glt)
  have I6 := inv_moved (s' := { s5 with heap := ((s5.heap.push { cls := .type "list", data := .seq ([] : List Value).toArray }).update s5.heap.objs.size (Obj.mapSeq (·.push Value.none))).update s5.heap.objs.size (Obj.mapSeq (·.pop)) }) I5 rfl I5.bare k3
  refine wpAny_pure ⟨plainId_quiet F.plain_extend_loop _, ext_gx (A := A) (A' := A') (s_0 := s_0) (H_0 := H_0) (cenv := cenv) (fp := fp) (tn := tn) (go := go) (gn := gn) (End := End) hh hroom hGO hSI ?_ fS.2.2.2.2.1 keep hfS
    (fun σ' H' ys acc c s1 I1 rv q => ?_) (m + 1) _ I6.nolimit (k3 _ _ pin5.1) ⟨gs, hgs, ?_⟩⟩
  · exact Nat.le_trans I5.sz (Nat.le_refl _)
  · show wpAny _ A (load s5.heap.objs.size >>= _) _ _ s1
    have pS := (I1.pin (s5.heap.objs.size, lstObj acc c) (List.mem_append_right _ (List.mem_cons_of_mem _ List.mem_cons_self))).1
    refine wpAny_bind (wpAny_load pS ?_)
    exact wpAny_pure (hQ s1 acc ys H' (back _ _ _ _ I1) rv q)
  · refine goes (List V) (ACl ga go s5.heap.objs.size) End YdL W m (m + 1) [] [(ga, go), (s5.heap.objs.size, lstObj #[] c3)] _ turn w0 (Nat.lt_succ_self _) (fun ys cp hac p hp b hb z => ?_) ⟨#[], c3, rfl, .nil⟩
      (inv_moved (I6.pins_of fun p hp => ?_) rfl (allBare_setGen (s := { s5 with heap := _ }) I5.bare rfl) fun _ _ q => q) (keep _ _ _ st5 fun b hb o q => k3 b o q)
    · obtain ⟨acc, c, rfl, _⟩ := hac
      rcases List.mem_cons.mp hp with e | e
      · rw [e] at z
        exact absurd (hlt b hb) (by rw [← z]; exact Nat.lt_irrefl _)
      · rw [List.mem_singleton.mp e] at z
        exact hfS b hb z.symm
    · rcases List.mem_cons.mp hp with e | e
      · rw [e]
        exact I6.pin (ga, go) (List.mem_append_right _ List.mem_cons_self)
      · rw [List.mem_singleton.mp e]
        exact ⟨hS₄, fS.1, fS.2.1, fS.2.2.1, fun v q => by cases q⟩
end
section
variable {X : Cx}
/-- tuple(elt for tg in iter ..) -/
def tTupX (P : Addr) (wi : TI) (g : TG) (tt : TT) (te : TE) (vs : List Nat) : TE := fun σ H Q => wi σ H fun J H1 => GxR.TabG H1 P ∧ ∀ H2, GxR.Tabbed P H1 H2 → ∃ W : Nat → Nat → List V → Hp → Prop, (∃ m, W 0 m [] H2) ∧
  tGx J g tt te (wipe σ vs) vs (fun ys H => ys.length ≤ sizeLine ∧ ∀ p, H p = none → Q (.ref p) (upd H p (.tup ys))) YdL W
theorem pe_tupX {c P : Addr} {elt tg iter : Expr} {ifs : List Expr} {p pos gpos : Pos} {scope : Scope} {own : List (Str × Nat)} {wi : TI} {g : TG} {tt : TT} {te : TE} {k : Nat}
    (hr : Room (k + 1) X.A) (hc : X.calm = true) (hN : X.N.Nodup) (hgl : Gl X "tuple") (hm : X.mg "tuple" = none) (hb : bootBuiltins "tuple" = some (.type "tuple")) (TB : GxR.TabB X.base X.mg c P) (hcode : X.env.code = .ref c)
    (hco : scope.isCoroutine = false) (hdot : scope.names.lookup (".0" : Str) = some NameKind.local) (nocell : ∀ y ∈ scope.names, y.2 ≠ .cell) (ok : BlkOk X.N X.env.scope scope own) (hi : PI X tg iter wi)
    (hg : ∀ (A' : Around) (s : Shared) (H : Hp) (C : Addr) (cl : List (Str × Addr)) (code : Value) (fp : List Addr), Room k A' → A'.guards = X.A.guards → PG (gblk X A' s H (genEnv scope cl C code builtinsNs X.env) fp) tg g)
    (ht : ∀ (A' : Around) (s : Shared) (H : Hp) (C : Addr) (cl : List (Str × Addr)) (code : Value) (fp : List Addr), Room k A' → A'.guards = X.A.guards → PTs (gblk X A' s H (genEnv scope cl C code builtinsNs X.env) fp) ifs tt)
    (he : ∀ (A' : Around) (s : Shared) (H : Hp) (C : Addr) (cl : List (Str × Addr)) (code : Value) (fp : List Addr), Room k A' → A'.guards = X.A.guards → PE (gblk X A' s H (genEnv scope cl C code builtinsNs X.env) fp) elt te)
    (hs : ∀ v, genFold iter X.env v = pure v)
    (hst : starEach [.GeneratorExp elt [⟨tg, iter, ifs, 0⟩] scope gpos] X.env = (false, eval (.GeneratorExp elt [⟨tg, iter, ifs, 0⟩] scope gpos) X.env) :: starEach [] X.env := by rfl) :
    PE X (.Call (.Name "tuple" p) [.GeneratorExp elt [⟨tg, iter, ifs, 0⟩] scope gpos] [] pos) (tTupX P wi g tt te (own.map (·.2))) := by
  refine ⟨fun pins s σ H Q I h => ?_⟩
  refine wpAny_Call_Name_kw (ld_blt I hgl hm hb ?_)
  refine PyProof.Rows.callWith_type1 ?_ hst (by rfl)
  rw [hst]
  show wpAny _ _ (spliced ((false, eval (.GeneratorExp elt [⟨tg, iter, ifs, 0⟩] scope gpos) X.env) :: backTo pos (starEach [] X.env))) _ _ s
  refine Calls.spliced_cons (gx_make (A := X.A.in1.in1.in1.in1) hr ⟨rfl, rfl, rfl, rfl, (by show X.A.units + 1 + 1 + 1 + 1 ≤ _; omega)⟩ hc hN TB hcode hco hdot nocell ok hi hg ht he hs I h fun J H1 H2 u s5 hR hT hG => ?_)
  obtain ⟨W, ⟨m, w0⟩, turn⟩ := hR H2 hT
  refine Calls.spliced_nil ?_
  have ⟨A', s_0, H_0, cenv, fp, ga, gn, go, tn, gs, eu, hGO, hgs, hbare, I5, st5, nf, hlt, keep, back, goes⟩ := hG
  have pin5 := (I5.pin (ga, go) (List.mem_append_right _ List.mem_cons_self)).1
  rw [eu] at hG ⊢
  refine callType_codes (Q₁ := fun obj s₁ => s₁.TypeIs obj "tuple" ∧ EP X pins σ Q obj s₁) F.called_tuple (F.typeCall_tuple_1 _) F.entry_object_init ?_ fun obj s₁ h₁ =>
    ⟨h₁.1, F.args_object_init_2 obj _, object_init_meets F.called_tuple.init.lookup F.called_tuple.made (by decide) X.prog X.w X.A.in1 _ s₁ ⟨h₁.1, rfl, h₁.2⟩⟩
  refine codeAny_of_tree ?_
  show wpAny _ X.A.in1.in1 (do checkBuiltinCall "tuple.__new__" ⟨[.type "tuple", .ref ga], []⟩; again (.builtin "tuple.__new__" ⟨[.type "tuple", .ref ga], []⟩)) _ _ s5
  refine wpAny_bind (wpAny_of_eq (F.newCall_tuple_1 _) (wpAny_pure ⟨plainId_quiet F.plain_tuple_new _, codeAny_builtin F.entry_tuple_new ?_⟩))
  rw [Around.under_plainId F.plain_tuple_new _]
  have hsub := sub_tuple_self
  have hinit := init_tuple_lookup
  have hmh := madeHere_tuple
  have hTI : s5.TypeIs (.ref ga) "generator" := (hGO.isGen pin5).typeIs
  have col : ∀ {Q0 : List Value → Shared → Prop} {E0 : Value → Shared → Prop}, (∀ (s' : Shared) (acc : Array Value), (∃ (ys : List V) (H' : Hp), Inv X pins σ H' s' ∧ Vals ys acc.toList ∧ ys.length ≤ sizeLine ∧ ∀ p, H' p = none → Q (.ref p) (upd H' p (.tup ys))) → Q0 acc.toList s') →
      wpAny (model X.prog X.w) X.A.in1.in1 (collect (.ref ga)) Q0 E0 s5 := fun hq => collect_gx hr.hd hr.depth hG w0 turn (fun s' acc ys H' I' rv q => hq s' acc ⟨ys, H', I', rv, q.1, q.2⟩)
  wp_walk using wpAny_typeOf hTI, col
  rintro s' acc ⟨ys, H', I', rv, small, q⟩
  show wpAny _ _ (Builtin.Tuple.tupleExact acc.toList.toArray >>= fun v => ret v) _ _ _
  unfold Builtin.Tuple.tupleExact
  refine wpAny_bind (wpAny_newObj_type ?_ (by show acc.toList.toArray.size ≤ sizeLine; rw [List.size_toArray, ← rv.length]; exact small))
  refine wpAny_pure ?_
  have free : H' s'.heap.objs.size = none := I'.hok.fresh (Nat.le_refl _)
  refine ⟨⟨_, Heap.get?_push_size _ rfl, rfl⟩, .ref s'.heap.objs.size, upd H' s'.heap.objs.size (.tup ys), I'.laid (t' := s'.toks) (fun b u z => Heap.get?_push_of_some _ z) (Nat.le_refl _) ⟨small, acc.toList, rv, ?_⟩, rfl, q _ free⟩
  exact ⟨_, Heap.get?_push_size _ rfl, rfl, 0, rfl⟩
end
/-! ### a def by its body, its code object known -/
theorem okC {P : Program} {w : World} {K : PySem.W.Frag} {mg : Str → Option Value} {base : Heap} {x qual : Str} {st : Stmt} {f : Addr} {fd : FuncData} {N ps : List Str} {k : Nat} {sp : Sp} (F : Fun K x qual st f fd) (S : FnScope N ps (defScope st)) (len : ∀ vs H Q E, sp vs H Q E → vs.length = ps.length)
    (body : ∀ (A : Around) (outer : List Env) (s : Shared) (H : Hp) (vs : List V) (Q : VK) (E : XK), Room k (A.deeper (envOfC qual (defScope st) s.heap.objs.size f fd.code)) → sp vs H Q E →
      ∃ t, PSs (cxOf CX0 P w K mg base N qual (defScope st) f fd.code A outer s H E).nox (defBody st) t ∧ t { nx := fun _ H' => Q .non H', rt := Q } (start N vs) H) : FnOk P w K mg base CX0 (k + 1) f fd ps sp := by
  obtain ⟨oc, od, kV, doc, pm, an, cdv, ct, osl, rfl, lk, hcd⟩ := F.ex
  refine fn_of lk hcd S len fun A outer s H vs Q E hr hsp => ?_
  obtain ⟨t, h, q⟩ := body A outer s H vs Q E hr hsp
  exact ⟨t, h.nox, q⟩
/-! ### from the head's facts -/
theorem fun_of {K : PySem.W.Frag} {x qual : Str} {st : Stmt} {f : Addr} {fd : FuncData} (F : FunD K x qual (defArgs st) (defBody st) (defScope st) [] [] f fd) : Fun K x qual st f fd := by
  obtain ⟨oc, od, dV, kV, doc, pm, an, cdv, ct, osl, rfl, lk, hcd, hd, _⟩ := F.ex
  rcases hd with ⟨_, rfl⟩ | ⟨z, _⟩
  · exact ⟨⟨oc, od, kV, doc, pm, an, cdv, ct, osl, rfl, lk, hcd⟩, F.kp⟩
  · exact absurd rfl z
theorem code_of {K : PySem.W.Frag} {x qual : Str} {st : Stmt} {p : He.Defn} {fd : FuncData} (F : Fun K x qual st (He.fAd K p) fd) : fd.code = .ref (He.cT K p).1 := by
  obtain ⟨oc, od, kV, doc, pm, an, cdv, ct, osl, rfl, lk, hcd⟩ := F.ex
  obtain ⟨c, rfl⟩ := He.codeIn_ref hcd
  show Value.ref c = Value.ref (He.codeOf K p)
  rw [He.codeOf_eq lk rfl]
theorem tab_of {base : Heap} {mg : Str → Option Value} {c P : Addr} (h : LamX.TabB base mg c P) : GxR.TabB base mg c P := ⟨h.code, h.bm, h.gP⟩
/-! ### heaps whose tables grow -/
def Tabs (H : Hp) (Ps : List Addr) : Prop := ∀ P ∈ Ps, GxR.TabG H P
/-- what is no table stays; tables stay tables -/
def Gr (H H' : Hp) : Prop := (∀ b o, (∀ ps, o ≠ HO.tbl ps) → H b = some o → H' b = some o) ∧ ∀ b, GxR.TabG H b → GxR.TabG H' b
theorem Gr.refl {H : Hp} : Gr H H := ⟨fun _ _ _ e => e, fun _ e => e⟩
theorem Gr.trans {H H1 H2 : Hp} (a : Gr H H1) (b : Gr H1 H2) : Gr H H2 := ⟨fun c o n e => b.1 c o n (a.1 c o n e), fun c e => b.2 c (a.2 c e)⟩
theorem Gr.of {H H' : Hp} (h : ∀ b o, H b = some o → H' b = some o) : Gr H H' := ⟨fun b o _ e => h b o e, fun b ⟨ps, e, t⟩ => ⟨ps, h _ _ e, t⟩⟩
theorem Gr.tab {P : Addr} {H H' : Hp} (t : GxR.TabG H P) (h : GxR.Tabbed P H H') : Gr H H' := by
  obtain ⟨ps, e, _⟩ := t
  refine ⟨fun b o n q => ?_, fun b q => ?_⟩
  · by_cases hb : b = P
    · rw [hb, e] at q
      exact absurd (Option.some.inj q).symm (n ps)
    · rw [h.2 b hb]; exact q
  · by_cases hb : b = P
    · rw [hb]; exact h.1
    · obtain ⟨ps', e', t'⟩ := q
      exact ⟨ps', by rw [h.2 b hb]; exact e', t'⟩
theorem Gr.tup {H H' : Hp} (g : Gr H H') {a : Addr} {xs : List V} (h : H a = some (.tup xs)) : H' a = some (.tup xs) := g.1 a _ (fun _ z => by cases z) h
theorem Gr.lst {H H' : Hp} (g : Gr H H') {a : Addr} {xs : List V} (h : H a = some (.lst xs)) : H' a = some (.lst xs) := g.1 a _ (fun _ z => by cases z) h
theorem Gr.tabs {H H' : Hp} (g : Gr H H') {Ps : List Addr} (h : Tabs H Ps) : Tabs H' Ps := fun P hP => g.2 P (h P hP)
theorem Gr.none {H : Hp} {a : Addr} {o : HO} (n : H a = Option.none) : Gr H (upd H a o) := Gr.of fun b u e => by
  rw [upd_ne (ne_of_none e n)]
  exact e
namespace CwR
/-- behind it a token is out -/
def PEp (X : Cx) (e : Expr) (t : TE) : Prop := ∀ (pins : List (Addr × Obj)) (s : Shared) (σ : L2.St) (H : Hp) (Q : VK), Inv X pins σ H s → t σ H Q → wpAny (model X.prog X.w) X.A (eval e X.env) (fun u s' => 1 ≤ s'.toks ∧ EP X pins σ Q u s') X.xe s
theorem pep_ix {X : Cx} {a : Expr} {i : Int} {j : Nat} {p pos : Pos} {ta : TE} {r : R2} (hr : IxR X r) (ha : PE X a ta) (hs : PlainIx (.Constant (.int i) j p)) : PEp X (.Subscript a (.Constant (.int i) j p) pos) (tOp r ta (tC (.int i))) := by
  intro pins s σ H Q I h
  refine Subscript_ (thn (ha.run pins s σ H _ I h) fun v s1 ⟨x, H1, I1, r1, q1⟩ => wpAny_Constant_int ?_)
  refine wpAny_mono (PySem.wpAny_toks (hr a _ pins { s1 with toks := s1.toks + 1 } σ H1 x (.int i) v (.int i s1.toks) Q (I1.tok _) r1 ⟨_, rfl⟩ q1 (hs _ _))) (fun u s2 q => ⟨?_, q.2⟩) fun _ _ z => z.2
  have h1 : s1.toks + 1 ≤ s2.toks := q.1
  omega
theorem pep_repl {X : Cx} {o : Expr} {to : TE} {y z : Str} {j k : Nat} {c0 c1 apos pos : Pos} (ho : PEp X o to) (hyz : (y == z) = false := by decide)
    (hst : starEach [.Constant (.str y) j c0, .Constant (.str z) k c1] X.env = [(false, eval (.Constant (.str y) j c0) X.env), (false, eval (.Constant (.str z) k c1) X.env)] := by rfl)
    (hbase : attributeBase o "replace" X.env (eval o X.env) = eval o X.env := by rfl) (hline : (apos.endLine == pos.line) = true := by rfl) :
    PEp X (.Call (.Attribute o "replace" apos) [.Constant (.str y) j c0, .Constant (.str z) k c1] [] pos) (CwR.tReplC to y z) := by
  intro pins s σ H Q I h
  refine PySem.Call_method2 hbase hst hline (wpAny_mono (ho pins s σ H _ I h) (fun v s1 q => ?_) fun _ _ z => z)
  obtain ⟨hk, v', H1, I1, r1, x, e1, hb, q⟩ := q
  subst e1
  obtain ⟨tx, e2⟩ := r1
  subst e2
  refine ⟨"str", _, PySem.F.plainAttrs_str, PySem.F.slot_str_replace, PySem.F.type_str_replace, typeIs_str _ _ _, (fun _ e => nomatch e), Calls.callWith_builtin rfl (Calls.evalArgs_plain (Calls.spliced_cons ?_))⟩
  refine Calls.Constant_str (Calls.spliced_cons (Calls.Constant_str (Calls.spliced_nil ?_)))
  refine wpAny_mono (PySem.wpAny_toks (PySem.SC.replace (Q := fun u s' => EP X pins σ Q u s') (by show s1.toks ≠ 0; omega) (by show s1.toks + 1 ≠ 0; omega) (by show s1.toks ≠ s1.toks + 1; omega) hyz hb fun t' k => ⟨.str (Txt.replace x y z), H1, I1.tok k, ⟨t', rfl⟩, q⟩)) (fun u s2 q => ⟨?_, q.2⟩) fun _ _ z => z.2
  have h1 : s1.toks + 1 + 1 ≤ s2.toks := q.1
  omega
theorem pe_replP {X : Cx} {e : Expr} {t : TE} (h : PEp X e t) : PE X e t := ⟨fun pins s σ H Q I q => wpAny_mono (h pins s σ H Q I q) (fun _ _ z => z.2) fun _ _ z => z⟩
end CwR

/-! ### heaps -/
theorem same_upd {H : Hp} {p : Addr} {o : HO} (h : H p = none) : Same H (upd H p o) := fun b x e => by
  rw [upd_ne (ne_of_none e h)]
  exact e
def Fr (d l : Addr) (H H' : Hp) : Prop := ∀ b o, b ≠ d → b ≠ l → H b = some o → H' b = some o
theorem Fr.trans {d l : Addr} {H H1 H2 : Hp} (a : Fr d l H H1) (b : Fr d l H1 H2) : Fr d l H H2 := fun c o h1 h2 h => b c o h1 h2 (a c o h1 h2 h)
theorem Fr.refl {d l : Addr} {H : Hp} : Fr d l H H := fun _ _ _ _ h => h
theorem Fr.new {d l p : Addr} {H : Hp} {o : HO} (h : H p = none) : Fr d l H (upd H p o) := fun b x _ _ e => same_upd h b x e
theorem Fr.of {d l : Addr} {H H' : Hp} (h : Same H H') : Fr d l H H' := fun b x _ _ e => h b x e
theorem Fr.d {d l : Addr} {H : Hp} {o : HO} : Fr d l H (upd H d o) := fun b x h1 _ e => by rw [upd_ne h1]; exact e
theorem Fr.l {d l : Addr} {H : Hp} {o : HO} : Fr d l H (upd H l o) := fun b x _ h2 e => by rw [upd_ne h2]; exact e
def Deck (H : Hp) (d l : Addr) : Prop := d ≠ l ∧ ∃ (cs : List Int) (z : Int), H d = some (.lst [.ref l, .int z]) ∧ H l = some (.lst (cs.map V.int)) ∧ cs.length ≤ 63 ∧ 0 ≤ z ∧ z < 4294967296
theorem Deck.same {H H' : Hp} {d l : Addr} (D : Deck H d l) (s : Same H H') : Deck H' d l := by
  obtain ⟨ne, cs, z, hd, hl, r⟩ := D
  exact ⟨ne, cs, z, s _ _ hd, s _ _ hl, r⟩
theorem Deck.new {H : Hp} {d l p : Addr} {o : HO} (D : Deck H d l) (h : H p = none) : Deck (upd H p o) d l := D.same (same_upd h)
theorem Deck.ne_new {H : Hp} {d l p : Addr} (D : Deck H d l) (h : H p = none) : p ≠ d ∧ p ≠ l := by
  obtain ⟨ne, cs, z, hd, hl, r⟩ := D
  exact ⟨(ne_of_none hd h).symm, (ne_of_none hl h).symm⟩
theorem p29 : (0 : Int) < 2147483629 := by decide
theorem p47 : (0 : Int) < 2147483647 := by decide
theorem p87 : (0 : Int) < 2147483587 := by decide
theorem sl1 : 1 ≤ sizeLine := by decide
theorem sl2 : 2 ≤ sizeLine := by decide
theorem sl3 : 3 ≤ sizeLine := by decide
theorem sl4 : 4 ≤ sizeLine := by decide
theorem seqIx0 {α : Type} (x : α) (xs : List α) : seqIndex? 0 (x :: xs).length = some 0 := by
  refine (ixN_seq (n := (x :: xs).length) (i := 0) (j := 0) ?_).1
  unfold ixN
  rw [if_pos (by decide), if_pos (by rw [List.length_cons]; omega)]
  rfl
theorem dpInts {K : PySem.W.Frag} {H : Hp} : ∀ cs : List Int, DpAll K H (cs.map V.int) (cs.map PyData.int)
  | [] => .nil
  | c :: r => .cons (.int c) (dpInts r)
theorem shInts (ns : List Int) : SeqAt.shaped (.list (ns.map PyData.int)) = true := by
  unfold SeqAt.shaped
  rw [Bool.and_eq_true]
  refine ⟨?_, ?_⟩
  · simp only [PyData.canLay0, canLayAll_ints]
  · simp only [PyData.depth, depthAll_ints]
    decide
theorem at_pick {xs : List V} {j : Int} (h0 : 0 ≤ j) (h1 : j < xs.length) : ∃ x, atI xs j = some x ∧ x ∈ xs := by
  obtain ⟨k, rfl⟩ : ∃ k : Nat, j = (k : Int) := ⟨j.toNat, (Int.toNat_of_nonneg h0).symm⟩
  have hk : k < xs.length := by omega
  exact ⟨xs[k], atI_nat (List.getElem?_eq_getElem hk), List.getElem_mem hk⟩
theorem units65 {k : Nat} {A : Around} (r : Room k A) : A.units + 65 < cLine := by have := r.un; omega
def rLenK (K : PySem.W.Frag) : List V → Hp → VK → Prop := fun xs H Q => ∃ p ys, xs = [.ref p] ∧ (SqL K H p ys ∨ SqT K H p ys) ∧ Q (.int ys.length) H
def rTupK (K : PySem.W.Frag) : List V → Hp → VK → Prop := fun xs H Q => ∃ p ys, xs = [.ref p] ∧ ((SqL K H p ys ∧ ∀ l, H l = none → Q (.ref l) (upd H l (.tup ys))) ∨ (SqT K H p ys ∧ Q (.ref p) H))
def rLstK (K : PySem.W.Frag) : List V → Hp → VK → Prop := fun xs H Q => ∃ p ys, xs = [.ref p] ∧ (SqL K H p ys ∨ SqT K H p ys) ∧ ∀ l, H l = none → Q (.ref l) (upd H l (.lst ys))
/-- joining ways behind a test, behind an expression -/
def tCutT (t : TT) : TT := fun σ H Q => ∃ Mid : Bool → Hp → Prop, t σ H Mid ∧ ∀ b H1, Mid b H1 → Q b H1
theorem pt_cut {X : Cx} {e : Expr} {t : TT} (h : PT X e t) : PT X e (tCutT t) := ⟨fun pins s σ H Q I hw => by
  obtain ⟨Mid, h1, q⟩ := hw
  exact thn (h.run pins s σ H _ I h1) fun c s1 ⟨H1, I1, m⟩ => ⟨H1, I1, q _ _ m⟩⟩
def tCutE (t : TE) : TE := fun σ H Q => ∃ Mid : VK, t σ H Mid ∧ ∀ v H1, Mid v H1 → Q v H1
theorem pe_cut {X : Cx} {e : Expr} {t : TE} (h : PE X e t) : PE X e (tCutE t) := ⟨fun pins s σ H Q I hw => by
  obtain ⟨Mid, h1, q⟩ := hw
  exact thn (h.run pins s σ H _ I h1) fun u s1 ⟨v, H1, I1, r, m⟩ => ⟨v, H1, I1, r, q _ _ m⟩⟩

/-! ### defs called where nothing is being shown (so that repr tells what stands there) -/
structure FnG (P : Program) (w : World) (K : PySem.W.Frag) (mg : Str → Option Value) (bs : Heap) (CX : CXT) (k : Nat) (f : Addr) (fd : FuncData) (ps : List Str) (sp : Sp) : Prop where
  many : ∀ vs H Q E, sp vs H Q E → vs.length = ps.length
  go : ∀ A : Around, A.guards = some [] → Room k A → ∀ (fr : List Env) (s : Shared) (H : Hp) (ar : Args) (us : List Value) (vs : List V) (Q : VK) (E : XK), Env0 P w K mg bs A fr s H → BindsTo s fd ar (ps.zip us) → Vals vs us → sp vs H Q E → codeAny (model P w) A (.call (.ref f) ar) (CR CX fr P w H s Q E) s
theorem FnG.of {P : Program} {w : World} {K : PySem.W.Frag} {mg : Str → Option Value} {bs : Heap} {CX : CXT} {k : Nat} {f : Addr} {fd : FuncData} {ps : List Str} {sp : Sp} (F : FnOk P w K mg bs CX k f fd ps sp) : FnG P w K mg bs CX k f fd ps sp :=
  ⟨F.len, fun A _ room fr s H ar us vs Q E e0 b r h => F.run A fr s H ar us vs Q E room e0 b r h⟩
theorem okG {CX : CXT} {P : Program} {w : World} {K : PySem.W.Frag} {mg : Str → Option Value} {bs : Heap} {x qual : Str} {st : Stmt} {f : Addr} {fd : FuncData} {N ps : List Str} {k : Nat} {sp : Sp} (F : Fun K x qual st f fd) (S : FnScope N ps (defScope st))
    (many : ∀ vs H Q E, sp vs H Q E → vs.length = ps.length)
    (body : ∀ (cdv : Value) (A : Around) (fr : List Env) (s : Shared) (H : Hp) (vs : List V) (Q : VK) (E : XK), A.guards = some [] → Room k (A.deeper (envOfC qual (defScope st) s.heap.objs.size f cdv)) → sp vs H Q E →
      ∃ t, PSs (cxOf CX P w K mg bs N qual (defScope st) f cdv A fr s H E) (defBody st) t ∧ t ⟨fun _ H' => Q .non H', Q, fun _ _ => False, fun _ _ => False⟩ (start N vs) H) : FnG P w K mg bs CX (k + 1) f fd ps sp := by
  obtain ⟨oc, od, kV, doc, pm, an, cdv, ct, osl, rfl, lk, code⟩ := F.ex
  refine ⟨many, fun A nothing room fr s H ar us vs Q E e0 bound rel told => ?_⟩
  have stays : ∀ b o, bs.get? b = some o → s.heap.get? b = some o := fun b o z => (e0.bs b o z).1
  have inK : K.In s.heap := e0.mod.kin.keeps stays
  have places : ∀ y ∈ ps.zip us, (defScope st).names.lookup y.1 = some .local ∨ ((defScope st).names.lookup y.1 = some .cell ∧ ((cellsFrom (s.heap.objs.size + 1) (defScope st).names []).lookup y.1).isSome = true) := by
    rintro ⟨n, v⟩ hy
    exact (S.par n (List.of_mem_zip hy).1).imp id fun c => ⟨c, PySem.W.cellsFrom_some _ _ _ (Or.inl c)⟩
  refine codeAny_call_function room.depth (inK _ _ lk) rfl S.co S.gen rfl (PySem.W.codeRec_of inK code) (bound _ _ _ _
    (wpAny_newFunctionEnv_cells S.kind places fun env he s1 made => ?_))
  subst he
  obtain ⟨t, runs, holds⟩ := body cdv A fr s H vs Q E nothing (room.deeper _) told
  refine ⟨(e0.mod.nolimit.keeps stays).keeps made.toInCall.keep, codeAny_func (wpAny_mono (runs.run [] s1 (start N vs) H _ (inv_start S room.hd e0 (many _ _ _ _ told) rel made) holds) (fun fl s2 z => ?_) fun _ _ z => z)⟩
  match fl, z with
  | .ret _, ⟨v, _, H', J, rv, q⟩ => exact ⟨v, H', J.os, J.bare, J.base, J.hok, rv, q⟩
  | .next, ⟨_, H', J, q⟩ => exact ⟨V.non, H', J.os, J.bare, J.base, J.hok, rfl, q⟩
  | .brk, ⟨_, _, _, q⟩ => exact q.elim
  | .cont, ⟨_, _, _, q⟩ => exact q.elim
theorem okG0 {P : Program} {w : World} {K : PySem.W.Frag} {mg : Str → Option Value} {bs : Heap} {x qual : Str} {st : Stmt} {f : Addr} {fd : FuncData} {N ps : List Str} {k : Nat} {sp : Sp} (F : Fun K x qual st f fd) (S : FnScope N ps (defScope st))
    (many : ∀ vs H Q E, sp vs H Q E → vs.length = ps.length)
    (body : ∀ (cdv : Value) (A : Around) (fr : List Env) (s : Shared) (H : Hp) (vs : List V) (Q : VK) (E : XK), A.guards = some [] → Room k (A.deeper (envOfC qual (defScope st) s.heap.objs.size f cdv)) → sp vs H Q E →
      ∃ t, PSs (cxOf CX0 P w K mg bs N qual (defScope st) f cdv A fr s H E).nox (defBody st) t ∧ t ⟨fun _ H' => Q .non H', Q, fun _ _ => False, fun _ _ => False⟩ (start N vs) H) : FnG P w K mg bs CX0 (k + 1) f fd ps sp :=
  okG F S many fun cdv A fr s H vs Q E g r h => by
    obtain ⟨t, p, q⟩ := body cdv A fr s H vs Q E g r h
    exact ⟨t, p.nox, q⟩
section
variable {X : Cx} {CX : CXT} {k : Nat} {f : Addr} {fd : FuncData} {ps : List Str} {sp : Sp} {ds : List Value} {dvs : List V} {E : XK}
theorem runG {pins : List (Addr × Obj)} {σ : L2.St} {H : Hp} {s : Shared} {Q : VK} {us : List Value} {vs : List V} (F : FnG X.prog X.w X.K X.mg X.base CX k f fd ps sp) (nothing : X.A.guards = some []) (room : Room k X.A) (hb : Binds X.K fd ps ds)
    (hd : Vals dvs ds) (out : Passes CX X E) (I : Inv X pins σ H s) (r : Vals vs us) (told : sp (vs ++ dvs) H Q E) : wpAny (model X.prog X.w) X.A (call (.ref f) us) (EP X pins σ Q) X.xe s := by
  have rel : Vals (vs ++ dvs) (us ++ ds) := r.append hd
  have size : (us ++ ds).length = ps.length := rel.length ▸ F.many _ _ _ _ told
  refine wpAny_call (codeAny_mono (F.go X.A nothing room X.stack s H _ _ _ Q E I.env0 (hb s us I.kIn size) rel told) fun res s2 z => ?_)
  match res, z with
  | .error e, z => exact out pins σ H s e s2 I z
  | .ok (.ret u), z => exact I.after z
  | .ok .next, z => exact z.elim
  | .ok .brk, z => exact z.elim
  | .ok .cont, z => exact z.elim
theorem pe_callG {x : Str} {p pos : Pos} {e : Expr} {es : List Expr} {t : TA} (F : FnG X.prog X.w X.K X.mg X.base CX k f fd ps sp) (nothing : X.A.guards = some []) (room : Room k X.A) (hg : Gl X x) (hm : X.mg x = some (.ref f)) (kp : PySem.W.keepIn X.K (.ref f) = true)
    (hb : Binds X.K fd ps ds) (hd : Vals dvs ds) (out : Passes CX X E) (ha : PA X (e :: es) t) (nd : (x == ("__debug__" : Str)) = false := by decide) (he : starEach (e :: es) X.env = (false, eval e X.env) :: starEach es X.env := by rfl)
    (hpl : (backTo pos (starEach es X.env)).any (·.1) = false := by rfl) : PE X (.Call (.Name x p) (e :: es) [] pos) (tCall sp dvs E t) := by
  refine ⟨fun pins s σ H Q I told => wpAny_Call_Name_kw (ld_glob I hg hm ?_ nd)⟩
  refine PySem.W.callWith_K (h₀ := X.base) I.ok.mod.kin kp (thn (ha.run pos pins s σ H _ I told) ?_) he hpl
  rintro us s1 ⟨vs, H1, J, r, q⟩
  exact ⟨J.kIn, runG F nothing room hb hd out J r q⟩
end
/-! ### what is shown by repr: plain data, whose lists and dicts were made by the law -/
def kD : Key → PyData
  | .inl i => .int i
  | .inr x => .str x
mutual
inductive Sh (H : Hp) : V → PyData → Prop
  | non : Sh H .non .none
  | bl (b : Bool) : Sh H (.bl b) (.bool b)
  | int (i : Int) : Sh H (.int i) (.int i)
  | str (x : Str) : Sh H (.str x) (.str x)
  | lst {a : Addr} {xs : List V} {ds : List PyData} : H a = some (.lst xs) → a ≠ sysModules → ShAll H xs ds → Sh H (.ref a) (.list ds)
  | tup {a : Addr} {xs : List V} {ds : List PyData} : H a = some (.tup xs) → ShAll H xs ds → Sh H (.ref a) (.tuple ds)
  | dic {a : Addr} {kvs : List (Key × V)} {ds : List PyData} : H a = some (.dK kvs) → ShAll H (kvs.map (·.2)) ds → Sh H (.ref a) (.dict ((kvs.map fun kv => kD kv.1).zip ds))
inductive ShAll (H : Hp) : List V → List PyData → Prop
  | nil : ShAll H [] []
  | cons {v : V} {vs : List V} {d : PyData} {ds : List PyData} : Sh H v d → ShAll H vs ds → ShAll H (v :: vs) (d :: ds)
end
theorem ShAll.length {H : Hp} : ∀ {vs : List V} {ds : List PyData}, ShAll H vs ds → vs.length = ds.length
  | _, _, .nil => rfl
  | _, _, .cons _ t => by rw [List.length_cons, List.length_cons, t.length]
mutual
theorem Sh.same {H H' : Hp} (s : Same H H') : ∀ {v : V} {d : PyData}, Sh H v d → Sh H' v d
  | _, _, .non => .non
  | _, _, .bl b => .bl b
  | _, _, .int i => .int i
  | _, _, .str x => .str x
  | _, _, .lst h n t => .lst (s _ _ h) n (t.same s)
  | _, _, .tup h t => .tup (s _ _ h) (t.same s)
  | _, _, .dic h t => .dic (s _ _ h) (t.same s)
theorem ShAll.same {H H' : Hp} (s : Same H H') : ∀ {vs : List V} {ds : List PyData}, ShAll H vs ds → ShAll H' vs ds
  | _, _, .nil => .nil
  | _, _, .cons h t => .cons (h.same s) (t.same s)
end
/-- the name of the class of such data -/
def tyD : PyData → String
  | .none => "NoneType"
  | .bool _ => "bool"
  | .int _ => "int"
  | .str _ => "str"
  | .list _ => "list"
  | .tuple _ => "tuple"
  | .dict _ => "dict"
theorem Sh.ty {K : PySem.W.Frag} {H : Hp} {v : V} {d : PyData} (h : Sh H v d) : TyX K H v (.type (tyD d)) := by
  cases h with
  | non => exact .base .non
  | bl b => exact .base (.bl b)
  | int i => exact .base (.int i)
  | str x => exact .base (.str x)
  | lst h _ _ => exact .base (.lst h)
  | tup h _ => exact .base (.tup h)
  | dic h _ => exact .base (.dK h)
section
variable {X : Cx} {pins : List (Addr × Obj)} {σ : L2.St} {H : Hp} {s : Shared}
theorem pairs_keys {P : Program} {w : World} {h : Heap} : ∀ {es : List DictEntry} {kvs : List (Key × Value)}, Pairs (mixKind P w) es kvs → ReadsAll h (es.map (·.key)) (kvs.map fun kv => kD kv.1) []
  | _, _, .nil => .nil
  | _, _, .cons (kv := kv) hk _ t => by
    have r := pairs_keys (h := h) t
    rcases keyIs_shape (k := kv.1) hk with ⟨i, u, e1, e2⟩ | ⟨x, u, e1, e2⟩
    · rw [List.map_cons, List.map_cons, e1, e2]
      exact ReadsAll.cons (as := []) (.int i u) r
    · rw [List.map_cons, List.map_cons, e1, e2]
      exact ReadsAll.cons (as := []) (.str x u) r
theorem pairs_vals {P : Program} {w : World} : ∀ {es : List DictEntry} {kvs : List (Key × Value)}, Pairs (mixKind P w) es kvs → es.map (·.val) = kvs.map (·.2)
  | _, _, .nil => rfl
  | _, _, .cons _ hv t => by rw [List.map_cons, List.map_cons, hv, pairs_vals t]
theorem kv_rel : ∀ {kvs : List (Key × V)} {vs : List (Key × Value)}, KV kvs vs → kvs.map (·.1) = vs.map (·.1) ∧ Vals (kvs.map (·.2)) (vs.map (·.2))
  | _, _, .nil => ⟨rfl, .nil⟩
  | _, _, .cons h t => by
    obtain ⟨a, b⟩ := kv_rel t
    exact ⟨by rw [List.map_cons, List.map_cons, a, h.1], .cons h.2 b⟩
mutual
theorem Sh.reads (I : Inv X pins σ H s) : ∀ (v : V) (d : PyData) (u : Value), Sh H v d → RelV v u → ∃ as, Reads s.heap u d as ∧ sysModules ∉ as
  | _, _, _, .non, r => by cases r; exact ⟨_, .none, List.not_mem_nil⟩
  | _, _, _, .bl b, r => by cases r; exact ⟨_, .bool b, List.not_mem_nil⟩
  | _, _, _, .int i, r => by obtain ⟨t, rfl⟩ := r; exact ⟨_, .int i t, List.not_mem_nil⟩
  | _, _, _, .str x, r => by obtain ⟨t, rfl⟩ := r; exact ⟨_, .str x t, List.not_mem_nil⟩
  | _, _, _, .lst (a := a) (xs := xs) h n t, r => by
    cases r
    obtain ⟨_, its, c, rv, ho⟩ := (show ObjOk X.prog X.w H s.heap a (.lst xs) from I.hok a _ h)
    obtain ⟨as, q, m⟩ := ShAll.reads I _ _ its t rv
    exact ⟨_, .list ho rfl rfl (by simpa using q), fun z => (List.mem_cons.mp z).elim (fun e => n e.symm) m⟩
  | _, _, _, .tup (a := a) (xs := xs) h t, r => by
    cases r
    obtain ⟨_, its, rv, o, ho, hc, c, hd⟩ := (show ObjOk X.prog X.w H s.heap a (.tup xs) from I.hok a _ h)
    obtain ⟨as, q, m⟩ := ShAll.reads I _ _ its t rv
    exact ⟨_, .tuple ho hc hd (by simpa using q), m⟩
  | _, _, _, .dic (a := a) (kvs := kvs) (ds := ds) h t, r => by
    cases r
    obtain ⟨_, low, vs, rel, o, es, ep, ho, hx, hd, _, hp, _⟩ := (show ObjOk X.prog X.w H s.heap a (.dK kvs) from I.hok a _ h)
    obtain ⟨rk, rv⟩ := kv_rel rel
    obtain ⟨as, q, m⟩ := ShAll.reads I _ _ (vs.map (·.2)) t rv
    have k1 : (kvs.map fun kv => kD kv.1) = vs.map fun kv => kD kv.1 := by
      have := congrArg (List.map kD) rk
      rw [List.map_map, List.map_map] at this
      exact this
    have ln : (kvs.map fun kv => kD kv.1).length = ds.length := by
      have := t.length
      rw [List.length_map] at this
      rw [List.length_map, this]
    refine ⟨_, .dict (as := []) (bs := as) ho hx.1 hd ?_ ?_, ?_⟩
    · rw [List.map_fst_zip (Nat.le_of_eq ln), k1]
      exact pairs_keys hp
    · rw [List.map_snd_zip (Nat.le_of_eq ln.symm), pairs_vals hp]
      exact q
    · intro z
      rcases List.mem_cons.mp z with e | e
      · exact absurd low (by rw [← e]; simp)
      · exact m e
theorem ShAll.reads (I : Inv X pins σ H s) : ∀ (vs : List V) (ds : List PyData) (us : List Value), ShAll H vs ds → Vals vs us → ∃ as, ReadsAll s.heap us ds as ∧ sysModules ∉ as
  | _, _, _, .nil, r => by cases r; exact ⟨_, .nil, List.not_mem_nil⟩
  | _, _, _, .cons h t, r => by
    cases r with
    | cons r1 r2 =>
      obtain ⟨as, q1, m1⟩ := Sh.reads I _ _ _ h r1
      obtain ⟨bs, q2, m2⟩ := ShAll.reads I _ _ _ t r2
      exact ⟨_, .cons q1 q2, fun z => (List.mem_append.mp z).elim m1 m2⟩
end
end
def rRepr : List V → Hp → VK → Prop := fun xs H Q => ∃ x d, xs = [x] ∧ Sh H x d ∧ d.showable = true ∧ d.shown.length ≤ sizeLine ∧ d.depth ≤ 50 ∧ Q (.str d.shown) H
theorem call_repr {X : Cx} (nothing : X.A.guards = some []) (hu : X.A.units + 64 < cLine) : CallR X (.builtin "repr") rRepr := by
  intro pins s σ H xs us Q I r h
  obtain ⟨x, d, rfl, sh, able, fits, deep, q⟩ := h
  cases r with
  | @cons _ u _ _ r1 r2 =>
    cases r2
    obtain ⟨as, rd, low⟩ := Sh.reads I _ _ _ sh r1
    have fin : ∀ h' t tk, (∀ b o, s.heap.get? b = some o → h'.get? b = some o) → EP X pins σ Q (.str d.shown t) { s with heap := h', toks := tk } := fun h' t tk kept => ⟨.str d.shown, H, I.kept kept, ⟨t, rfl⟩, q⟩
    cases sh with
    | non => cases r1; exact PySem.P.repr_of_none (fin _ _ _ fun _ _ z => z)
    | bl b => cases r1; exact PySem.P.repr_of_bool (fin _ _ _ fun _ _ z => z)
    | int i => obtain ⟨t, rfl⟩ := r1; exact PySem.P.repr_of_int (of_decide_eq_true able) (fin _ _ _ fun _ _ z => z)
    | str x => obtain ⟨t, rfl⟩ := r1; exact PySem.P.repr_of_str (fin _ _ _ fun _ _ z => z) fits
    | lst _ _ _ => cases r1; exact repr_of_reads' rd able (fun _ => low) nothing (by omega) (fun _ _ z => z) fin fits
    | tup _ _ => cases r1; exact repr_of_reads' rd able (fun _ => low) nothing (by omega) (fun _ _ z => z) fin fits
    | dic _ _ => cases r1; exact repr_of_reads' rd able (fun _ => low) nothing (by omega) (fun _ _ z => z) fin fits
/-- a display's list is none of the interpreter's own -/
def tLstN (t : TA) : TE := fun σ H Q => t σ H fun xs H1 => xs.length ≤ sizeLine ∧ ∀ p, H1 p = none → p ≠ sysModules → Q (.ref p) (upd H1 p (.lst xs))
theorem pe_lstN {X : Cx} {es : List Expr} {t : TA} {pos : Pos} (h : PA X es t) : PE X (.List es pos) (tLstN t) := by
  refine ⟨fun pins s σ H Q I told => wpAny_List_spliced (thn (h.run pos pins s σ H _ I told) ?_)⟩
  rintro us s1 ⟨xs, H1, J, r, small, q⟩
  have free : H1 s1.heap.objs.size = none := J.hok.fresh (Nat.le_refl _)
  refine ⟨by rw [← r.length]; exact small, .ref s1.heap.objs.size, upd H1 s1.heap.objs.size (.lst xs), J.laid (t' := s1.toks) (fun b u z => Heap.get?_push_of_some _ z) (Nat.le_refl _) ⟨small, us, 0, r, Heap.get?_push_size _ rfl⟩, rfl, q _ free (Nat.ne_of_gt J.big)⟩
/-! ### the end of a law whose defs are called where nothing is being shown -/
theorem law_G {P : Program} {w : World} {K : PySem.W.Frag} {mg mb : Str → Option Value} {CX : CXT} {k : Nat} {fa a : Addr} {fd : FuncData} {x : Str} {sp : Sp} {s : Shared} {vs : List Value} {ns : List Int}
    (inK : K.In s.heap) (gl : s.heap.Ns mainGlobals mg) (bl : s.heap.Ns builtinsNs mb) (boot : ∀ y : Str, y ≠ "__name__" → mb y = bootBuiltins y) (lim : s.heap.NoLimit) (ng : s.gens = #[])
    (at_ : s.heap.get? a = some { cls := .type "list", data := .seq vs.toArray }) (are : IntsAre vs ns) (small : ns.length ≤ sizeLine) (room : Room k callerA)
    (F : ∀ bs : Heap, K.In bs → bs.Ns mainGlobals mg → FnG P w K mg bs CX k fa fd [x] sp) (bound : ∀ (s : Shared) (u : Value), BindsTo s fd ⟨[u], []⟩ [(x, u)])
    (told : ∀ H : Hp, Only H → SqL K H a (ns.map V.int) → sp [.ref a] H (fun v _ => v = .bl true) fun _ _ _ => False)
    (noX : ∀ H e s', CX [] H s (fun _ _ _ => False) e s' → False) :
    codeAny (model P w) callerA (.call (.ref fa) ⟨[.ref a], []⟩) (fun r s' => r = .ok (.ret (.bool true)) ∧ OldK s.heap s'.heap ∧ s'.os = s.os ∧ AllBare s'.gens) s := by
  have main : ∀ H : Hp, Only H → SqL K H a (ns.map V.int) → HOk P w H s.heap → (∀ b, H b ≠ none → b = a) → (H a ≠ none → K.lookup a = none) →
      codeAny (model P w) callerA (.call (.ref fa) ⟨[.ref a], []⟩) (fun r s' => r = .ok (.ret (.bool true)) ∧ OldK s.heap s'.heap ∧ s'.os = s.os ∧ AllBare s'.gens) s := by
    intro H only list ok alone out
    have seen : ∀ {b : Addr} {o : Obj}, s.heap.get? b = some o → H b = none → (hidT s.heap H).get? b = some o := fun z n => hidT_get z n
    have dict : ∀ {b : Addr} {o : Obj} {es : Array DictEntry} {ep : Nat}, s.heap.get? b = some o → o.data = .dict es ep → H b = none := by
      intro b o es ep z dz
      refine Classical.byContradiction fun some_ => ?_
      have eb := alone b some_
      rw [eb, at_] at z
      cases z
      cases (show Data.seq vs.toArray _ = Data.dict es ep from dz)
    have names : ∀ {b : Addr} {m : Str → Option Value}, s.heap.Ns b m → (hidT s.heap H).Ns b m := by
      rintro b m ⟨o, es, ep, z, dz, rest⟩
      exact ⟨o, es, ep, seen z (dict z dz), dz, rest⟩
    have inB : K.In (hidT s.heap H) := by
      intro b o z
      refine seen (inK b o z) (Classical.byContradiction fun some_ => ?_)
      have eb := alone b some_
      subst eb
      rw [out some_] at z
      cases z
    obtain ⟨ml, l1, l2⟩ := lim
    have mod : Mod K mg (hidT s.heap H) := ⟨inB, names gl, ⟨mb, names bl, boot⟩, ⟨ml, names l1, l2⟩⟩
    have env : Env0 P w K mg (hidT s.heap H) callerA [] s H := { frames := rfl, mod := mod, bs := fun b o z => of_hidT z, bsz := Nat.le_of_eq (hidT_size _ _), funs := trivial, frf := (fun b hb => by cases (show b ∈ ([] : List Addr) from hb)), hok := ok, bare := .of_eq ng }
    refine codeAny_mono ((F _ inB (names gl)).go callerA rfl room [] s H _ [.ref a] [.ref a] _ _ env (bound s (.ref a)) (.cons rfl .nil) (told H only list)) fun r s2 z => ?_
    match r, z with
    | .error e, z => exact (noX H e s2 z).elim
    | .ok .next, z => exact z.elim
    | .ok .brk, z => exact z.elim
    | .ok .cont, z => exact z.elim
    | .ok (.ret u), ⟨v, H2, os, bare, un, ok2, rel, q⟩ =>
      cases (show v = V.bl true from q)
      cases (show u = Value.bool true from rel)
      refine ⟨rfl, OldK.of_keep fun b o z => ?_, os, bare⟩
      by_cases hb : H b = none
      · exact un.keep b o z hb (fun m => by cases (show b ∈ ([] : List Addr) from m)) (fun m => by cases m)
      · rcases only b with n | ⟨ob, xs, f⟩
        · exact absurd n hb
        · have o1 := (ok b _ f).1
          have o2 := (ok2 b _ (un.frzs b ob _ f)).1
          rw [z] at o1
          rw [Option.some.inj o1]
          exact o2
  have rel := vals_ints are
  cases hk : K.lookup a with
  | some o =>
    have z := inK a o hk
    rw [at_] at z
    cases z
    exact main (fun _ => none) (fun _ => .inl rfl) (.inr ⟨_, vs.toArray, _, hk, rfl, rfl, rfl, by rw [List.size_toArray, are.length]; exact small, by simpa using rel⟩) (fun b u z => by cases z) (fun b z => absurd rfl z) fun z => absurd rfl z
  | none =>
    have on : ∀ b : Addr, b = a → (if b = a then some (HO.frz { cls := .type "list", data := .seq vs.toArray } (.lst (ns.map V.int))) else none) = some (HO.frz { cls := .type "list", data := .seq vs.toArray } (.lst (ns.map V.int))) := fun b e => if_pos e
    refine main (fun b => if b = a then some (.frz { cls := .type "list", data := .seq vs.toArray } (.lst (ns.map V.int))) else none) (fun b => ?_) (.inl (.inr ⟨_, on a rfl⟩)) (fun b u z => ?_) (fun b z => ?_) fun _ => hk
    · rcases Classical.em (b = a) with e | e
      · exact .inr ⟨_, _, on b e⟩
      · exact .inl (if_neg e)
    · rcases Classical.em (b = a) with e | e
      · have := (on b e).symm.trans z
        cases this
        subst e
        exact ⟨at_, by rw [List.length_map]; exact small, vs, _, rel, at_⟩
      · have := (if_neg e).symm.trans z
        cases this
    · exact Classical.byContradiction fun e => z (if_neg e)
theorem walk_G {l : PySem.W.OpenLaw} {n k : Nat} {q : Program} {loose : List Str} {XP : (Str → Option Value) → Heap → Prop} {YP : World → Heap → Prop} {d : DefRec} {K : Params → PySem.W.Frag} {CX : World → CXT} {sp : World → Sp} {x : Str}
    (most : l.most = some n) (small : n ≤ sizeLine) (nodef : d.params.defaults = []) (room : Room k callerA) (inK : ∀ (w : World) (h : Heap), YP w h → (K w.params).In h)
    (F : ∀ (w : World) (mg : Str → Option Value) (fa : Addr) (h : Heap), (K w.params).In h → h.Ns mainGlobals mg → mg d.name = some (.ref fa) →
      ∃ fd : FuncData, (∀ (s : Shared) (u : Value), BindsTo s fd ⟨[u], []⟩ [(x, u)]) ∧ ∀ bs : Heap, (K w.params).In bs → bs.Ns mainGlobals mg → FnG l.prog w (K w.params) mg bs (CX w) k fa fd [x] (sp w))
    (told : ∀ (w : World) (H : Hp) (a : Addr) (ns : List Int), ns.length ≤ n → Only H → SqL (K w.params) H a (ns.map V.int) → sp w [.ref a] H (fun v _ => v = .bl true) fun _ _ _ => False)
    (noX : ∀ (w : World) (H : Hp) (s : Shared) (e : Value) (s' : Shared), CX w [] H s (fun _ _ _ => False) e s' → False) :
    PySem.W.WalkO q loose XP YP l.row.toRowW d [] (fun f vs => PySem.call f vs) := by
  refine Att.attach_call most nodef fun w s₀ s₁ mg mb fa o pm cd doc a vs ns G Y ho hd hcd hmg hobj hints hlen hg => ?_
  obtain ⟨fd, bound, FG⟩ := F w mg fa _ (inK w _ Y) G.T.g hmg
  exact law_G (inK w _ Y) G.T.g G.T.b G.T.builtins G.T.nolimit hg hobj hints (Nat.le_trans hlen small) room FG bound (fun H only list => told w H a ns hlen only list) fun H e s2 => noX w H s₁ e s2

/-! ### the end of a law whose defs are called where nothing is being shown, with tables of code objects -/
def LawAtG (l : PySem.W.OpenLaw) (w : World) (K : PySem.W.Frag) (CX : CXT) (k n : Nat) (x : Str) (mg : Str → Option Value) (f : Addr) (top : Heap) : Prop :=
  ∃ (fd : FuncData) (ts : List (Addr × Addr)) (sp : Sp), (∀ t ∈ ts, top.get? t.2 = some { cls := .none, data := .fields #[] }) ∧ (∀ t ∈ ts, K.lookup t.2 = none) ∧ (∀ t ∈ ts, PySem.W.CodeHd top t.1 t.2) ∧ (∀ (st : Shared) (v : Value), BindsTo st fd ⟨[v], []⟩ [(x, v)]) ∧
    (∀ (H : Hp) (p : Addr) (zs : List Int), zs.length ≤ n → (∀ z ∈ zs, Builtin.Int.intBits z ≤ 1048576) → (∀ t ∈ ts, H t.2 = some (.tbl #[])) → SqL K H p (zs.map V.int) → sp [.ref p] H (fun v _ => v = .bl true) fun _ _ _ => False) ∧
    ∀ under : Heap, K.In under → under.Ns mainGlobals mg → (∀ t ∈ ts, LamX.TabB under mg t.1 t.2) → FnG l.prog w K mg under CX k f fd [x] sp
theorem law_GT {P : Program} {w : World} {K : PySem.W.Frag} {mg mb : Str → Option Value} {CX : CXT} {k : Nat} {f p : Addr} {ts : List (Addr × Addr)} {fd : FuncData} {x : Str} {sp : Sp} {s : Shared} {us : List Value} {zs : List Int}
    (inK : K.In s.heap) (gl : s.heap.Ns mainGlobals mg) (bl : s.heap.Ns builtinsNs mb) (boot : ∀ y : Str, y ≠ "__name__" → mb y = bootBuiltins y) (lim : s.heap.NoLimit) (ng : s.gens = #[])
    (bare : ∀ t ∈ ts, s.heap.get? t.2 = some { cls := .none, data := .fields #[] }) (out : ∀ t ∈ ts, K.lookup t.2 = none) (code : ∀ t ∈ ts, PySem.W.CodeHd s.heap t.1 t.2)
    (bmod : ∃ (m : Addr) (o : Obj), mg "__builtins__" = some (.ref m) ∧ m ≠ builtinsNs ∧ s.heap.get? m = some o ∧ o.cls = .type "module" ∧ o.dict = some builtinsNs ∧ o.data = .plain)
    (script : s.heap.get? p = some { cls := .type "list", data := .seq us.toArray }) (are : IntsAre us zs) (small : zs.length ≤ sizeLine) (room : Room k callerA)
    (F : ∀ under : Heap, K.In under → under.Ns mainGlobals mg → (∀ t ∈ ts, LamX.TabB under mg t.1 t.2) → FnG P w K mg under CX k f fd [x] sp) (bound : ∀ (st : Shared) (v : Value), BindsTo st fd ⟨[v], []⟩ [(x, v)])
    (told : ∀ H : Hp, (∀ t ∈ ts, H t.2 = some (.tbl #[])) → SqL K H p (zs.map V.int) → sp [.ref p] H (fun v _ => v = .bl true) fun _ _ _ => False)
    (noX : ∀ H e st, CX [] H s (fun _ _ _ => False) e st → False) :
    codeAny (model P w) callerA (.call (.ref f) ⟨[.ref p], []⟩) (fun r st => r = .ok (.ret (.bool true)) ∧ OldK s.heap st.heap ∧ st.os = s.os ∧ AllBare st.gens) s := by
  have tabAt : ∀ c ∈ ts.map Prod.snd, s.heap.get? c = some { cls := .none, data := .fields #[] } := by
    intro c hc
    obtain ⟨t, ht, rfl⟩ := List.mem_map.mp hc
    exact bare t ht
  have inTs : ∀ {t : Addr × Addr}, t ∈ ts → t.2 ∈ ts.map Prod.snd := fun ht => List.mem_map_of_mem ht
  have pNo : ¬ p ∈ ts.map Prod.snd := by
    intro hp
    have both := (tabAt p hp).symm.trans script
    have kinds := congrArg (fun o : Option Obj => o.map Obj.cls) both
    simp at kinds
  have main : ∀ H : Hp, (∀ t ∈ ts, H t.2 = some (.tbl #[])) → (∀ c, H c = none ∨ c ∈ ts.map Prod.snd ∨ ∃ o ys, H c = some (.frz o (.lst ys))) → SqL K H p (zs.map V.int) → HOk P w H s.heap → (∀ c, H c ≠ none → c = p ∨ c ∈ ts.map Prod.snd) → (H p ≠ none → K.lookup p = none) →
      codeAny (model P w) callerA (.call (.ref f) ⟨[.ref p], []⟩) (fun r st => r = .ok (.ret (.bool true)) ∧ OldK s.heap st.heap ∧ st.os = s.os ∧ AllBare st.gens) s := by
    intro H tabs kinds list ok alone off
    have free : ∀ {c : Addr} {o : Obj}, s.heap.get? c = some o → (∀ ys m, ¬ o.data = .seq ys m) → ¬ o.data = .fields #[] → H c = none := by
      intro c o ho n1 n2
      refine Classical.byContradiction fun some_ => ?_
      rcases alone c some_ with rfl | hc
      · cases Option.some.inj (ho.symm.trans script)
        exact n1 _ _ rfl
      · cases Option.some.inj (ho.symm.trans (tabAt c hc))
        exact n2 rfl
    have names : ∀ {c : Addr} {m : Str → Option Value}, s.heap.Ns c m → (hidT s.heap H).Ns c m := by
      rintro c m ⟨o, es, ep, ho, dz, more⟩
      refine ⟨o, es, ep, hidT_get ho (free ho (fun ys j z => ?_) fun z => ?_), dz, more⟩ <;> exact Data.noConfusion (dz.symm.trans z)
    have inB : K.In (hidT s.heap H) := by
      intro c o ho
      refine hidT_get (inK c o ho) (Classical.byContradiction fun some_ => ?_)
      rcases alone c some_ with rfl | hc
      · exact absurd (ho.symm.trans (off some_)) (by simp)
      · obtain ⟨t, ht, rfl⟩ := List.mem_map.mp hc
        exact absurd (ho.symm.trans (out t ht)) (by simp)
    obtain ⟨ml, l1, l2⟩ := lim
    have mod : L2.Mod K mg (hidT s.heap H) := ⟨inB, names gl, ⟨mb, names bl, boot⟩, ⟨ml, names l1, l2⟩⟩
    have tables : ∀ t ∈ ts, LamX.TabB (hidT s.heap H) mg t.1 t.2 := by
      intro t ht
      constructor
      · obtain ⟨o, ys, file, tf, flags, tg, inF, text, tt, c1, c2, c3, c4, c5, c6, c7, c8, c9, c10⟩ := code t ht
        refine ⟨o, ys, file, tf, flags, tg, inF, text, tt, hidT_get c1 (free c1 (fun us j z => Data.noConfusion (c3.symm.trans z)) fun z => ?_), c2, c3, c4, c5, c6, c7, c8, c9, c10⟩
        have z2 := c3.symm.trans z
        cases z2
        simp at c4
      · obtain ⟨m, o, b1, b2, b3, b4, b5, b6⟩ := bmod
        refine ⟨m, o, b1, b2, fun z => ?_, fun z => ?_, hidT_get b3 (free b3 (fun us j z => Data.noConfusion (b6.symm.trans z)) fun z => Data.noConfusion (b6.symm.trans z)), b4, b5, b6⟩
        · obtain ⟨o', es, ep, ho, dz, _⟩ := gl
          subst z
          cases Option.some.inj (b3.symm.trans ho)
          exact Data.noConfusion (b6.symm.trans dz)
        · subst z
          cases Option.some.inj (b3.symm.trans (bare t ht))
          exact Data.noConfusion b6
      · intro z
        obtain ⟨o', es, ep, ho, dz, _⟩ := gl
        rw [z] at ho
        cases Option.some.inj (ho.symm.trans (bare t ht))
        exact Data.noConfusion dz
    have env : Env0 P w K mg (hidT s.heap H) callerA [] s H := { frames := rfl, mod := mod, bs := fun c o z => of_hidT z, bsz := Nat.le_of_eq (hidT_size _ _), funs := trivial, frf := (fun c hc => by cases (show c ∈ ([] : List Addr) from hc)), hok := ok, bare := .of_eq ng }
    refine codeAny_mono ((F _ inB (names gl) tables).go callerA rfl room [] s H _ [.ref p] [.ref p] _ _ env (bound s (.ref p)) (.cons rfl .nil) (told H tabs list)) fun r st z => ?_
    match r, z with
    | .error e, z => exact (noX H e st z).elim
    | .ok .next, z => exact z.elim
    | .ok .brk, z => exact z.elim
    | .ok .cont, z => exact z.elim
    | .ok (.ret u), ⟨v, H2, os, bg, un, ok2, rel, q⟩ =>
      cases (show v = V.bl true from q)
      cases (show u = Value.bool true from rel)
      have old : ∀ c o, ¬ c ∈ ts.map Prod.snd → s.heap.get? c = some o → st.heap.get? c = some o := by
        intro c o nc ho
        by_cases hc : H c = none
        · exact un.keep c o ho hc (fun m => by cases (show c ∈ ([] : List Addr) from m)) (fun m => by cases m)
        · rcases kinds c with n | n | ⟨ob, ys, fz⟩
          · exact absurd n hc
          · exact absurd n nc
          · have o1 := (ok c _ fz).1
            have o2 := (ok2 c _ (un.frzs c ob _ fz)).1
            rw [ho] at o1
            rw [Option.some.inj o1]
            exact o2
      have grown : ∀ c ∈ ts.map Prod.snd, ∃ more : Array Value, st.heap.get? c = some { cls := .none, data := .fields more } := by
        intro c hc
        obtain ⟨t, ht, rfl⟩ := List.mem_map.mp hc
        obtain ⟨more, hm⟩ := un.tbls t.2 #[] (tabs t ht)
        exact ⟨_, ok2 t.2 _ hm⟩
      refine ⟨rfl, ⟨fun c o ho => ?_, fun c o ho => ?_⟩, os, bg⟩
      · by_cases hc : c ∈ ts.map Prod.snd
        · obtain ⟨more, hm⟩ := grown c hc
          obtain ⟨t, ht, rfl⟩ := List.mem_map.mp hc
          cases Option.some.inj (ho.symm.trans (bare t ht))
          exact .inr (.inl ⟨((code t ht).tab (bare t ht)).isCodeTable, rfl, #[], more, rfl, by rw [Array.empty_append]; exact hm⟩)
        · exact .inl (old c o hc ho)
      · by_cases hc : c ∈ ts.map Prod.snd
        · obtain ⟨more, hm⟩ := grown c hc
          exact ⟨_, hm⟩
        · exact ⟨o, old c o hc ho⟩
  have rel := vals_ints are
  let base : Hp := fun c => if c ∈ ts.map Prod.snd then some (.tbl #[]) else none
  have onT : ∀ {c : Addr}, c ∈ ts.map Prod.snd → base c = some (.tbl #[]) := fun hc => if_pos hc
  have offT : ∀ {c : Addr}, ¬ c ∈ ts.map Prod.snd → base c = none := fun hc => if_neg hc
  cases hk : K.lookup p with
  | some o =>
    cases Option.some.inj ((inK p o hk).symm.trans script)
    refine main base (fun t ht => onT (inTs ht)) (fun c => ?_) (.inr ⟨_, us.toArray, _, hk, rfl, rfl, rfl, by rw [List.size_toArray, are.length]; exact small, by simpa using rel⟩) (fun c u z => ?_) (fun c z => ?_) fun z => absurd (offT pNo) z
    · rcases Classical.em (c ∈ ts.map Prod.snd) with hc | hc
      · exact .inr (.inl hc)
      · exact .inl (offT hc)
    · rcases Classical.em (c ∈ ts.map Prod.snd) with hc | hc
      · cases Option.some.inj ((onT hc).symm.trans z)
        exact tabAt c hc
      · exact absurd ((offT hc).symm.trans z) (by simp)
    · exact .inr (Classical.byContradiction fun hc => z (offT hc))
  | none =>
    let frz : HO := .frz { cls := .type "list", data := .seq us.toArray } (.lst (zs.map V.int))
    have onP : (fun c => if c = p then some frz else base c) p = some frz := if_pos rfl
    have offP : ∀ {c : Addr}, ¬ c = p → (fun c => if c = p then some frz else base c) c = base c := fun hc => if_neg hc
    refine main (fun c => if c = p then some frz else base c) (fun t ht => ?_) (fun c => ?_) (.inl (.inr ⟨_, onP⟩)) (fun c u z => ?_) (fun c z => ?_) fun _ => hk
    · refine (offP fun e => pNo ?_).trans (onT (inTs ht))
      rw [← e]
      exact inTs ht
    · rcases Classical.em (c = p) with rfl | e
      · exact .inr (.inr ⟨_, _, onP⟩)
      · rcases Classical.em (c ∈ ts.map Prod.snd) with hc | hc
        · exact .inr (.inl hc)
        · exact .inl ((offP e).trans (offT hc))
    · rcases Classical.em (c = p) with rfl | e
      · cases Option.some.inj (onP.symm.trans z)
        exact ⟨script, by rw [List.length_map]; exact small, us, _, rel, script⟩
      · have z := (offP e).symm.trans z
        rcases Classical.em (c ∈ ts.map Prod.snd) with hc | hc
        · cases Option.some.inj ((onT hc).symm.trans z)
          exact tabAt c hc
        · exact absurd ((offT hc).symm.trans z) (by simp)
    · rcases Classical.em (c = p) with e | e
      · exact .inl e
      · exact .inr (Classical.byContradiction fun hc => z ((offP e).trans (offT hc)))
theorem walk_GT {l : PySem.W.OpenLaw} {n k : Nat} {q : Program} {loose : List Str} {XP : (Str → Option Value) → Heap → Prop} {YP : World → Heap → Prop} {d : DefRec} {CX : World → CXT} {x : Str}
    (most : l.most = some n) (small : n ≤ sizeLine) (nodef : d.params.defaults = []) (room : Room k callerA)
    (F : ∀ (w : World) (mg : Str → Option Value) (f : Addr) (top : Heap), YP w top → top.Ns mainGlobals mg → mg d.name = some (.ref f) → ∃ K : PySem.W.Frag, K.In top ∧ LawAtG l w K (CX w) k n x mg f top)
    (noX : ∀ (w : World) (H : Hp) (s : Shared) (e : Value) (st : Shared), CX w [] H s (fun _ _ _ => False) e st → False) :
    PySem.W.WalkO q loose XP YP l.row.toRowW d [] (fun f vs => PySem.call f vs) := by
  refine Att.attach_callB most nodef fun w s0 s mg mb f o pm cd doc p us zs G Y ho hd hcd named script are few bits ng => ?_
  obtain ⟨K, inK, fd, ts, sp, bare, out, code, bound, told, FG⟩ := F w mg f _ Y G.T.g named
  exact law_GT inK G.T.g G.T.b G.T.builtins G.T.nolimit ng bare out code G.T.bmain script are (Nat.le_trans few small) room FG bound (fun H tabs list => told H p zs few bits tabs list) fun H e st => noX w H s e st

/-! ### data made by the law or the program: numbers, truths, texts, lists and tuples of these -/
mutual
inductive Tk (H : Hp) : V → PyData → Prop
  | bl (b : Bool) : Tk H (.bl b) (.bool b)
  | int (i : Int) : Tk H (.int i) (.int i)
  | str (x : Str) : Tk H (.str x) (.str x)
  | lst {a : Addr} {xs : List V} {ds : List PyData} : H a = some (.lst xs) → TkAll H xs ds → Tk H (.ref a) (.list ds)
  | tup {a : Addr} {xs : List V} {ds : List PyData} : H a = some (.tup xs) → TkAll H xs ds → Tk H (.ref a) (.tuple ds)
inductive TkAll (H : Hp) : List V → List PyData → Prop
  | nil : TkAll H [] []
  | cons {v : V} {vs : List V} {d : PyData} {ds : List PyData} : Tk H v d → TkAll H vs ds → TkAll H (v :: vs) (d :: ds)
end
theorem TkAll.length {H : Hp} : ∀ {vs : List V} {ds : List PyData}, TkAll H vs ds → vs.length = ds.length
  | _, _, .nil => rfl
  | _, _, .cons _ t => by rw [List.length_cons, List.length_cons, t.length]
mutual
theorem Tk.same {H H' : Hp} (s : Same H H') : ∀ {v : V} {d : PyData}, Tk H v d → Tk H' v d
  | _, _, .bl b => .bl b
  | _, _, .int i => .int i
  | _, _, .str x => .str x
  | _, _, .lst h t => .lst (s _ _ h) (t.same s)
  | _, _, .tup h t => .tup (s _ _ h) (t.same s)
theorem TkAll.same {H H' : Hp} (s : Same H H') : ∀ {vs : List V} {ds : List PyData}, TkAll H vs ds → TkAll H' vs ds
  | _, _, .nil => .nil
  | _, _, .cons h t => .cons (h.same s) (t.same s)
end
theorem TkAll.get {H : Hp} : ∀ {xs : List V} {ds : List PyData} {j : Nat} {x : V}, TkAll H xs ds → xs[j]? = some x → ∃ d, ds[j]? = some d ∧ Tk H x d
  | _, _, _, _, .nil, h => by simp at h
  | _, _, 0, _, .cons (d := d) a _, h => by
    cases (Option.some.inj h)
    exact ⟨d, rfl, a⟩
  | _, _, j + 1, _, .cons _ t, h => t.get h
theorem TkAll.append {H : Hp} : ∀ {xs ys : List V} {ds es : List PyData}, TkAll H xs ds → TkAll H ys es → TkAll H (xs ++ ys) (ds ++ es)
  | _, _, _, _, .nil, t => t
  | _, _, _, _, .cons a r, t => .cons a (r.append t)
theorem TkAll.ints {H : Hp} : ∀ ns : List Int, TkAll H (ns.map V.int) (ns.map PyData.int)
  | [] => .nil
  | n :: r => .cons (.int n) (TkAll.ints r)
theorem Tk.int_inv {H : Hp} {v : V} {i : Int} (h : Tk H v (.int i)) : v = .int i := by cases h; rfl
theorem Tk.tup_inv {H : Hp} {v : V} {ds : List PyData} (h : Tk H v (.tuple ds)) : ∃ a xs, v = .ref a ∧ H a = some (.tup xs) ∧ TkAll H xs ds := by
  cases h with
  | tup h t => exact ⟨_, _, rfl, h, t⟩
theorem Tk.lst_inv {H : Hp} {v : V} {ds : List PyData} (h : Tk H v (.list ds)) : ∃ a xs, v = .ref a ∧ H a = some (.lst xs) ∧ TkAll H xs ds := by
  cases h with
  | lst h t => exact ⟨_, _, rfl, h, t⟩
theorem TkAll.int_inv {H : Hp} : ∀ {vs : List V} {ns : List Int}, TkAll H vs (ns.map PyData.int) → vs = ns.map V.int
  | _, [], .nil => rfl
  | _, n :: r, .cons h t => by rw [List.map_cons, h.int_inv, t.int_inv]
/-- heaps without one place -/
def hd1 (p : Addr) (H : Hp) : Hp := fun b => if b = p then none else H b
theorem hd1_le {p : Addr} {H : Hp} : Same (hd1 p H) H := fun b o e => by
  unfold hd1 at e
  by_cases h : b = p
  · rw [if_pos h] at e; cases e
  · rw [if_neg h] at e; exact e
theorem hd1_same {p : Addr} {H H' : Hp} (s : Same H H') : Same (hd1 p H) (hd1 p H') := fun b o e => by
  unfold hd1 at e ⊢
  by_cases h : b = p
  · rw [if_pos h] at e; cases e
  · rw [if_neg h] at e ⊢; exact s _ _ e
theorem hd1_upd {p : Addr} {H : Hp} {o : HO} : Same (hd1 p H) (hd1 p (upd H p o)) := fun b x e => by
  unfold hd1 at e ⊢
  by_cases h : b = p
  · rw [if_pos h] at e; cases e
  · rw [if_neg h] at e ⊢; rw [upd_ne h]; exact e
theorem hd1_at {p b : Addr} {H : Hp} (h : b ≠ p) : hd1 p H b = H b := if_neg h
theorem hd1_of {p : Addr} {H H' : Hp} (s : Same H H') (n : H p = none) : Same H (hd1 p H') := fun b o e => by
  rw [hd1_at (ne_of_none e n)]
  exact s _ _ e
theorem same_of_hd1 {p : Addr} {H H' : Hp} {o : HO} (s : Same H (hd1 p H')) : Same H (upd H' p o) := fun b x e => by
  have z := s b x e
  unfold hd1 at z
  by_cases h : b = p
  · rw [if_pos h] at z; cases z
  · rw [if_neg h] at z; rw [upd_ne h]; exact z

/-! ### tables and gates -/
def tabOf (bs : List Bool) : Str := ⟨(bs.map fun b => if b = true then 49 else 48).toArray⟩
def plc (ws : List Int) : Int := ws.foldl (fun p w => 2 * p + w) 0
def gateM (bs : List Bool) (ws : List Int) : Int := if bs.getD (plc ws).toNat false = true then 1 else 0
theorem plc_snoc (ws : List Int) (w : Int) : plc (ws ++ [w]) = 2 * plc ws + w := by
  unfold plc
  rw [List.foldl_append]
  rfl
theorem plc_take {ws : List Int} {i : Nat} {u : Int} (h : ws[i]? = some u) : plc (ws.take (i + 1)) = 2 * plc (ws.take i) + u := by
  rw [List.take_add_one, h]
  exact plc_snoc _ _
theorem plc_bd : ∀ (n : Nat) (ws : List Int), ws.length = n → (∀ w ∈ ws, w = 0 ∨ w = 1) → 0 ≤ plc ws ∧ plc ws < 2 ^ n := by
  intro n
  induction n with
  | zero =>
    intro ws h _
    cases List.eq_nil_of_length_eq_zero h
    decide
  | succ n ih =>
    intro ws h hw
    have hne : ws ≠ [] := fun z => by rw [z] at h; cases h
    obtain ⟨r, x, rfl⟩ : ∃ r x, ws = r ++ [x] := ⟨ws.dropLast, ws.getLast hne, (List.dropLast_concat_getLast hne).symm⟩
    have hr := ih r (by rw [List.length_append] at h; simpa using h) fun w h' => hw w (List.mem_append_left _ h')
    have hx := hw x (by simp)
    rw [plc_snoc, Int.pow_succ]
    omega
theorem gate01 (bs : List Bool) (ws : List Int) : gateM bs ws = 0 ∨ gateM bs ws = 1 := by
  unfold gateM
  split
  · exact .inr rfl
  · exact .inl rfl
theorem int_sign (b : Bool) : PySem.intText? ⟨#[if b = true then 49 else 48]⟩ = some (if b = true then 1 else 0) := by
  cases b <;> decide +kernel
def spGate (K : PySem.W.Frag) : Sp := fun vs H Q _ => ∃ (bs : List Bool) (la : Addr) (ws : List Int), vs = [.str (tabOf bs), .ref la] ∧ SqL K H la (ws.map V.int) ∧ (∀ w ∈ ws, w = 0 ∨ w = 1) ∧ bs.length = 2 ^ ws.length ∧ ws.length ≤ 3 ∧ Q (.int (gateM bs ws)) H
theorem gate_read {bs : List Bool} {ws : List Int} (hw : ∀ w ∈ ws, w = 0 ∨ w = 1) (hb : bs.length = 2 ^ ws.length) (h3 : ws.length ≤ 3) : ∃ b : Bool, 0 ≤ plc ws ∧ plc ws < 2 ^ 63 ∧ plc ws < (tabOf bs).length ∧ (tabOf bs).cps[(plc ws).toNat]? = some (if b = true then 49 else 48) ∧ gateM bs ws = if b = true then 1 else 0 := by
  obtain ⟨p0, p1⟩ := plc_bd _ ws rfl hw
  have p8 : plc ws < 8 := by
    have : (2 : Int) ^ ws.length ≤ 8 := by
      have : ws.length = 0 ∨ ws.length = 1 ∨ ws.length = 2 ∨ ws.length = 3 := by omega
      rcases this with h | h | h | h <;> rw [h] <;> decide
    omega
  have hlt : (plc ws).toNat < bs.length := by
    have : ((2 ^ ws.length : Nat) : Int) = (2 : Int) ^ ws.length := by simp
    omega
  refine ⟨bs[(plc ws).toNat], p0, by omega, ?_, ?_, ?_⟩
  · have : (tabOf bs).length = bs.length := by simp [tabOf, Str.length]
    rw [this]
    omega
  · simp [tabOf, List.getElem?_eq_getElem hlt]
  · unfold gateM
    rw [List.getD_eq_getElem?_getD, List.getElem?_eq_getElem hlt]
    rfl

/-! ### walks -/
theorem gx_tup {α : Type} {K : PySem.W.Frag} {a : Addr} {xs : List V} {g : TG} {tt : TT} {te : TE} {vs : List Nat} {σ0 : L2.St} {End : α → Hp → Prop} {Yd : α → V → Hp → (α → Hp → Prop) → Prop} {a0 : α} {H0 : Hp} (Pv : Nat → α → Hp → Prop) (h0 : Pv 0 a0 H0)
    (hl : ∀ i c H, i ≤ xs.length → Pv i c H → SqT K H a xs)
    (hs : ∀ i x c H, xs[i]? = some x → Pv i c H → g x σ0 H fun σ2 H2 => wipe σ2 vs = σ0 ∧ tt σ2 H2 fun b H3 => if b = true then te σ2 H3 fun y H4 => Yd c y H4 (Pv (i + 1)) else Pv (i + 1) c H3) (hd : ∀ c H, Pv xs.length c H → End c H) :
    ∃ W : Nat → Nat → α → Hp → Prop, (∃ m, W 0 m a0 H0) ∧ tGx (Itt K a) g tt te σ0 vs End Yd W := by
  refine ⟨fun i m c H => m = xs.length - i ∧ i ≤ xs.length ∧ Pv i c H, ⟨xs.length, rfl, Nat.zero_le _, h0⟩, ?_⟩
  rintro i m c H ⟨rfl, hi, p⟩
  by_cases hlt : i < xs.length
  · have hx : xs[i]? = some xs[i] := List.getElem?_eq_getElem hlt
    refine .inr ⟨⟨xs, xs[i], hl i c H hi p, hx⟩, Pv (i + 1), fun c' H' p' => ⟨xs.length - (i + 1), by omega, rfl, hlt, p'⟩, fun x H' y => ?_⟩
    obtain ⟨rfl, y⟩ := y
    exact hs i x c _ (y xs (hl i c _ hi p)) p
  · have e : i = xs.length := by omega
    subst e
    exact .inl ⟨⟨xs, hl _ c H hi p, Nat.le_refl _⟩, hd c H p⟩
theorem lc_zipT {K : PySem.W.Frag} {a b : Addr} {xs ys : List V} {g : TG} {tt : TT} {te : TE} {vs : List Nat} {σ : L2.St} {H1 : Hp} {D : Addr} {Qd : Hp → Prop} (el : xs.length = ys.length) (Pv : Nat → Hp → Prop) (h0 : Pv 0 (upd H1 D (.lst []))) (hl : ∀ i H, i ≤ xs.length → Pv i H → SqT K H a xs ∧ SqT K H b ys)
    (hs : ∀ i x y T H, xs[i]? = some x → ys[i]? = some y → H T = none → Pv i H → g (.ref T) (wipe σ vs) (upd H T (.tup [x, y])) fun σ2 H2 => wipe σ2 vs = wipe σ vs ∧ tt σ2 H2 fun b H3 =>
      if b = true then te σ2 H3 fun y H4 => ∃ acc, H4 D = some (.lst acc) ∧ acc.length < sizeLine ∧ Pv (i + 1) (upd H4 D (.lst (acc ++ [y]))) else Pv (i + 1) H3) (hd : ∀ H, Pv xs.length H → Qd H) :
    ∃ W : Nat → Nat → Hp → Prop, (∃ m, W 0 m (upd H1 D (.lst []))) ∧ ∀ i m H, W i m H →
      ((RZ.ItzT K a b).stop i H ∧ Qd H) ∨ ((RZ.ItzT K a b).go i H ∧ ∃ Nx : Hp → Prop, (∀ H', Nx H' → ∃ m', m' < m ∧ W (i + 1) m' H') ∧ ∀ x H', (RZ.ItzT K a b).yld i H x H' → g x (wipe σ vs) H' fun σ2 H2 => wipe σ2 vs = wipe σ vs ∧ tt σ2 H2 fun b H3 =>
        if b = true then te σ2 H3 fun y H4 => ∃ acc, H4 D = some (.lst acc) ∧ acc.length < sizeLine ∧ Nx (upd H4 D (.lst (acc ++ [y]))) else Nx H3) := by
  refine ⟨fun i m H => m = xs.length - i ∧ i ≤ xs.length ∧ Pv i H, ⟨xs.length, by simp, Nat.zero_le _, h0⟩, ?_⟩
  rintro i m H ⟨rfl, hi, p⟩
  obtain ⟨qx, qy⟩ := hl i H hi p
  by_cases hlt : i < xs.length
  · have hx : xs[i]? = some xs[i] := List.getElem?_eq_getElem hlt
    have hy : ys[i]? = some (ys[i]'(by omega)) := List.getElem?_eq_getElem _
    refine .inr ⟨⟨xs, ys, _, _, qx, qy, hx, hy⟩, Pv (i + 1), fun H' p' => ⟨xs.length - (i + 1), by omega, rfl, hlt, p'⟩, fun x H' y => ?_⟩
    obtain ⟨T, x1, y1, rfl, nT, rfl, e1, e2⟩ := y
    exact hs i x1 y1 T H (e1 xs qx) (e2 ys qy) nT p
  · have e : i = xs.length := by omega
    subst e
    exact .inl ⟨⟨xs, ys, qx, qy, .inl (Nat.le_refl _)⟩, hd H p⟩

/-! ### nets, and the words of nets -/
abbrev Gt := List Bool × List Nat
def gD (g : Gt) : PyData := .tuple [.str (tabOf g.1), .tuple ((g.2.map Int.ofNat).map PyData.int)]
def netD (many : Int) (gs : List Gt) : PyData := .tuple [.int many, .tuple (gs.map gD)]
def rowD (r : List Int) : PyData := .tuple (r.map PyData.int)
def chD (a b : List Int) : PyData := .tuple [rowD a, rowD b]
def GtOk (n : Nat) (g : Gt) : Prop := g.1.length = 2 ^ g.2.length ∧ 1 ≤ g.2.length ∧ g.2.length ≤ 3 ∧ ∀ i ∈ g.2, i < n
def NetOk (n : Nat) (gs : List Gt) : Prop := ∀ k g, gs[k]? = some g → GtOk (n + k) g
def Row01 (r : List Int) : Prop := ∀ x ∈ r, x = 0 ∨ x = 1
mutual
theorem Tk.gr {H H' : Hp} (s : Gr H H') : ∀ {v : V} {d : PyData}, Tk H v d → Tk H' v d
  | _, _, .bl b => .bl b
  | _, _, .int i => .int i
  | _, _, .str x => .str x
  | _, _, .lst h t => .lst (s.lst h) (t.gr s)
  | _, _, .tup h t => .tup (s.tup h) (t.gr s)
theorem TkAll.gr {H H' : Hp} (s : Gr H H') : ∀ {vs : List V} {ds : List PyData}, TkAll H vs ds → TkAll H' vs ds
  | _, _, .nil => .nil
  | _, _, .cons h t => .cons (h.gr s) (t.gr s)
end
theorem Tk.row_inv {H : Hp} {v : V} {r : List Int} (h : Tk H v (rowD r)) : ∃ a, v = .ref a ∧ H a = some (.tup (r.map V.int)) := by
  obtain ⟨a, xs, rfl, ha, t⟩ := h.tup_inv
  rw [t.int_inv] at ha
  exact ⟨a, rfl, ha⟩
theorem Tk.ch_inv {H : Hp} {v : V} {a b : List Int} (h : Tk H v (chD a b)) : ∃ c ra rb, v = .ref c ∧ H c = some (.tup [.ref ra, .ref rb]) ∧ H ra = some (.tup (a.map V.int)) ∧ H rb = some (.tup (b.map V.int)) := by
  obtain ⟨c, xs, rfl, hc, t⟩ := h.tup_inv
  cases t with
  | cons h1 t => cases t with
    | cons h2 t =>
      cases t
      obtain ⟨ra, rfl, ha⟩ := h1.row_inv
      obtain ⟨rb, rfl, hb⟩ := h2.row_inv
      exact ⟨c, ra, rb, rfl, hc, ha, hb⟩
theorem Tk.net_inv {H : Hp} {v : V} {m : Int} {gs : List Gt} (h : Tk H v (netD m gs)) : ∃ n g xs, v = .ref n ∧ H n = some (.tup [.int m, .ref g]) ∧ H g = some (.tup xs) ∧ TkAll H xs (gs.map gD) := by
  obtain ⟨n, xs, rfl, hn, t⟩ := h.tup_inv
  cases t with
  | cons h1 t => cases t with
    | cons h2 t =>
      cases t
      cases h1
      obtain ⟨g, ys, rfl, hg, t2⟩ := h2.tup_inv
      exact ⟨n, g, ys, rfl, hn, hg, t2⟩
theorem Tk.gt_inv {H : Hp} {v : V} {g : Gt} (h : Tk H v (gD g)) : ∃ a i, v = .ref a ∧ H a = some (.tup [.str (tabOf g.1), .ref i]) ∧ H i = some (.tup ((g.2.map Int.ofNat).map V.int)) := by
  obtain ⟨a, xs, rfl, ha, t⟩ := h.tup_inv
  cases t with
  | cons h1 t => cases t with
    | cons h2 t =>
      cases t
      cases h1
      obtain ⟨i, rfl, hi⟩ := (show Tk H _ (rowD (g.2.map Int.ofNat)) from h2).row_inv
      exact ⟨a, i, rfl, ha, hi⟩
theorem TkAll.at {H : Hp} {α : Type} {f : α → PyData} {xs : List V} {ds : List α} (t : TkAll H xs (ds.map f)) {j : Nat} {v : V} (h : xs[j]? = some v) : ∃ x, ds[j]? = some x ∧ Tk H v (f x) := by
  obtain ⟨dx, hdx, tx⟩ := t.get h
  rw [List.getElem?_map] at hdx
  cases hz : ds[j]? with
  | none => rw [hz] at hdx; cases hdx
  | some x =>
    rw [hz] at hdx
    cases Option.some.inj hdx
    exact ⟨x, rfl, tx⟩
theorem TkAll.at' {H : Hp} {α : Type} {f : α → PyData} {xs : List V} {ds : List α} (t : TkAll H xs (ds.map f)) {j : Nat} {x : α} (h : ds[j]? = some x) : ∃ v, xs[j]? = some v ∧ Tk H v (f x) := by
  have hl := t.length
  rw [List.length_map] at hl
  have hj := (List.getElem?_eq_some_iff.mp h).1
  obtain ⟨y, hy, ty⟩ := t.at (List.getElem?_eq_getElem (l := xs) (i := j) (by omega))
  cases Option.some.inj (h.symm.trans hy)
  exact ⟨_, List.getElem?_eq_getElem _, ty⟩
theorem grow_upd {H H' : Hp} {p : Addr} {o : HO} (g : Gr H H') (n : H' p = none) : Gr H (upd H' p o) := g.trans (Gr.none n)
/-- no table, no older list: only the list at D is written -/
def GrD (D : Addr) (H H' : Hp) : Prop := Gr H (hd1 D H')
theorem GrD.gr {D : Addr} {H H' : Hp} (g : GrD D H H') : Gr H H' := g.trans (Gr.of hd1_le)
theorem TabG_hd1 {D P : Addr} {H : Hp} (h : GxR.TabG H P) (n : D ≠ P) : GxR.TabG (hd1 D H) P := by
  obtain ⟨ps, e, t⟩ := h
  exact ⟨ps, by rw [hd1_at (Ne.symm n)]; exact e, t⟩
theorem GrD.new {D : Addr} {H : Hp} {o : HO} (n : H D = none) : GrD D H (upd H D o) := Gr.of (hd1_of (same_upd n) n)
theorem hd1_gr {D : Addr} {H H' : Hp} (g : Gr H H') (hD : ∀ P, GxR.TabG H P → D ≠ P) : Gr (hd1 D H) (hd1 D H') := by
  refine ⟨fun b o n e => ?_, fun b t => ?_⟩
  · have hb : b ≠ D := fun z => by
      unfold hd1 at e
      rw [if_pos z] at e; cases e
    rw [hd1_at hb] at e ⊢
    exact g.1 b o n e
  · obtain ⟨ps, e, t⟩ := t
    have e' := hd1_le _ _ e
    exact TabG_hd1 (g.2 b ⟨ps, e', t⟩) (hD b ⟨ps, e', t⟩)
theorem GrD.then {D : Addr} {H H1 H2 : Hp} {xs : List V} (a : GrD D H H1) (hD : H1 D = some (.lst xs)) (b : Gr H1 H2) : GrD D H H2 := a.trans (hd1_gr b fun P ⟨ps, e, _⟩ z => by
  rw [← z, hD] at e
  cases e)
theorem GrD.set {D : Addr} {H H1 : Hp} {o : HO} (a : GrD D H H1) : GrD D H (upd H1 D o) := a.trans (Gr.of hd1_upd)

end Gk

set_option Elab.async false
set_option linter.all false
set_option maxRecDepth 100000
set_option maxHeartbeats 1000000
set_option pp.maxSteps 1500
set_option pp.deepTerms false
namespace Gk
open PySem PySem.Spec PyProof.Rows L2
/-! ### data of tuples alone: no list that is written can harm it -/
mutual
def noL : PyData → Bool
  | .list _ => false
  | .tuple ds => noLs ds
  | _ => true
def noLs : List PyData → Bool
  | [] => true
  | d :: r => noL d && noLs r
end
def Ts (H H' : Hp) : Prop := ∀ b xs, H b = some (HO.tup xs) → H' b = some (.tup xs)
theorem Ts.refl {H : Hp} : Ts H H := fun _ _ e => e
theorem Ts.trans {H H1 H2 : Hp} (a : Ts H H1) (b : Ts H1 H2) : Ts H H2 := fun c xs e => b c xs (a c xs e)
theorem Ts.same {H H' : Hp} (s : Same H H') : Ts H H' := fun b xs e => s _ _ e
theorem Ts.gr {H H' : Hp} (s : Gr H H') : Ts H H' := fun b xs e => s.tup e
theorem Ts.new {H : Hp} {p : Addr} {o : HO} (h : H p = none) : Ts H (upd H p o) := Ts.same (same_upd h)
theorem Ts.set {H : Hp} {p : Addr} {xs ys : List V} (h : H p = some (.lst xs)) : Ts H (upd H p (.lst ys)) := fun b zs e => by
  rw [upd_ne (ne_of e h (by intro z; cases z))]
  exact e
mutual
theorem Tk.ts {H H' : Hp} (s : Ts H H') : ∀ {v : V} {d : PyData}, Tk H v d → noL d = true → Tk H' v d
  | _, _, .bl b, _ => .bl b
  | _, _, .int i, _ => .int i
  | _, _, .str x, _ => .str x
  | _, _, .lst h t, n => by cases n
  | _, _, .tup h t, n => .tup (s _ _ h) (t.ts s n)
theorem TkAll.ts {H H' : Hp} (s : Ts H H') : ∀ {vs : List V} {ds : List PyData}, TkAll H vs ds → noLs ds = true → TkAll H' vs ds
  | _, _, .nil, _ => .nil
  | _, _, .cons (d := d) (ds := ds) h t, n => by
    have n' : noL d = true ∧ noLs ds = true := Bool.and_eq_true_iff.mp n
    exact .cons (h.ts s n'.1) (t.ts s n'.2)
end
theorem noLs_map {α : Type} {f : α → PyData} (h : ∀ x, noL (f x) = true) : ∀ l : List α, noLs (l.map f) = true
  | [] => rfl
  | x :: r => by
    show (noL (f x) && noLs (r.map f)) = true
    rw [h x, noLs_map h r]
    rfl
theorem noL_row (r : List Int) : noL (rowD r) = true := noLs_map (fun _ => rfl) r
theorem noL_gate (g : Gt) : noL (gD g) = true := by
  show (true && (noLs ((g.2.map Int.ofNat).map PyData.int) && true)) = true
  rw [noLs_map (fun _ => rfl)]
  rfl
theorem noL_gates (gs : List Gt) : noLs (gs.map gD) = true := noLs_map noL_gate gs
theorem noL_net (m : Int) (gs : List Gt) : noL (netD m gs) = true := by
  show (true && (noLs (gs.map gD) && true)) = true
  rw [noL_gates]
  rfl
theorem noL_ch (a b : List Int) : noL (chD a b) = true := by
  show (noL (rowD a) && (noL (rowD b) && true)) = true
  rw [noL_row, noL_row]
  rfl

/-! ### slices and sums of tuples: what is told stands in a heap that has grown -/
theorem cut_all {xs : List V} {lo hi : Option Int} (h : HT.sIx xs.length 0 lo = 0 ∧ HT.sIx xs.length xs.length hi = xs.length) : cutV xs lo hi = xs := by
  unfold cutV
  rw [h.1, h.2, List.drop_zero, Nat.sub_zero, List.take_length]
theorem same_refl {H : Hp} : Same H H := fun _ _ e => e
theorem slA {K : PySem.W.Frag} {a : Addr} {xs : List V} {lo hi : Option Int} {H : Hp} {Q : VK} (h : H a = some (.tup xs)) (q : ∀ p H', Same H H' → H' p = some (.tup (cutV xs lo hi)) → Q (.ref p) H') : rSlA K (.ref a) lo hi H Q :=
  ⟨a, xs, rfl, SqT.of h, fun w => q a H same_refl (by rw [cut_all w]; exact h), fun _ p np => q p _ (same_upd np) upd_same⟩
theorem slAn {K : PySem.W.Frag} {a : Addr} {xs : List V} {lo : Option Int} {H : Hp} {Q : VK} {σ : L2.St} (h : H a = some (.tup xs)) (q : ∀ p H', Same H H' → H' p = some (.tup (cutV xs lo none)) → Q (.ref p) H') : tNoPart σ H (fun u H3 => rSlA K (.ref a) lo u H3 Q) := slA h q
theorem catA {K : PySem.W.Frag} {a b : Addr} {xs ys : List V} {H : Hp} {Q : VK} (ha : H a = some (.tup xs)) (hb : H b = some (.tup ys)) (hl : xs.length + ys.length ≤ sizeLine) (q : ∀ p H', Same H H' → H' p = some (.tup (xs ++ ys)) → Q (.ref p) H') : rCatA K (.ref a) (.ref b) H Q :=
  ⟨a, b, xs, ys, rfl, rfl, SqT.of ha, SqT.of hb, hl, fun e => q b H same_refl (by rw [e]; exact hb), fun _ e => q a H same_refl (by rw [e, List.append_nil]; exact ha), fun _ _ p np => q p _ (same_upd np) upd_same⟩
theorem cut_to {xs : List V} {k : Nat} : cutV xs none (some (k : Int)) = xs.take k := by
  unfold cutV
  rw [HT.sIx_none, HT.sIx_nat, List.drop_zero, Nat.sub_zero]
  apply List.ext_getElem?
  intro i
  rw [List.getElem?_take, List.getElem?_take]
  by_cases h : i < k
  · rw [if_pos h]
    by_cases h2 : i < xs.length
    · rw [if_pos (by omega)]
    · rw [List.getElem?_eq_none (by omega)]
      split <;> rfl
  · rw [if_neg h, if_neg (by omega)]
theorem cut_from {xs : List V} {k : Nat} : cutV xs (some (k : Int)) none = xs.drop k := by
  unfold cutV
  rw [HT.sIx_none, HT.sIx_nat]
  by_cases h : k ≤ xs.length
  · rw [Nat.min_eq_left h]
    exact List.take_of_length_le (by rw [List.length_drop]; exact Nat.le_refl _)
  · rw [Nat.min_eq_right (by omega), Nat.sub_self, List.take_zero, List.drop_eq_nil_of_le (by omega)]
theorem TkAll.take {H : Hp} : ∀ {xs : List V} {ds : List PyData} (k : Nat), TkAll H xs ds → TkAll H (xs.take k) (ds.take k)
  | _, _, 0, _ => by rw [List.take_zero, List.take_zero]; exact .nil
  | _, _, _ + 1, .nil => .nil
  | _, _, k + 1, .cons a t => .cons a (t.take k)
theorem TkAll.drop {H : Hp} : ∀ {xs : List V} {ds : List PyData} (k : Nat), TkAll H xs ds → TkAll H (xs.drop k) (ds.drop k)
  | _, _, 0, t => t
  | _, _, _ + 1, .nil => .nil
  | _, _, k + 1, .cons _ t => t.drop k
theorem set_put {α : Type} {l : List α} {i : Nat} {x : α} (h : i < l.length) : (l.take i ++ [x]) ++ l.drop (i + 1) = l.set i x := by
  rw [List.set_eq_take_append_cons_drop, if_pos h, List.append_assoc]
  rfl
def rJoinK (K : PySem.W.Frag) : V → List V → Hp → VK → Prop := fun x xs H Q => ∃ a p, ∃ ys : List Str, x = .str a ∧ xs = [.ref p] ∧ (SqL K H p (ys.map V.str) ∨ SqT K H p (ys.map V.str)) ∧ (ys.map (·.length)).sum + ys.length * a.length ≤ 16777216 ∧ Q (.str (Txt.join a ys)) H

section
variable {P : Program} {w : World} {K : PySem.W.Frag} {mg : Str → Option Value} {base : Heap}
/-! ### the deck of k07 to k13: a dict with cells from behind, a seed, a count -/
theorem mix_mul (x : Int) (h : 0 ≤ x) (h1 : x < 2147483648) : -2 ^ 64 < x ∧ x < 2 ^ 64 := by omega
def sp_mixed (K : PySem.W.Frag) : Sp := fun vs H Q _ => ∃ i : Int, vs = [.int i] ∧ ∀ v : Int, 0 ≤ v → v < 2147483587 → Q (.int v) H
theorem ok_mixed (T : Tx K mg) : FnOk P w K mg base CX0 1 T.f_mixed T.fd_mixed ["_law_number"] (sp_mixed K) := by
  refine T.F_mixed.ok sc_mixed (fun vs H Q E h => ?_) (fun cdv A outer s H vs Q E hr h => ?_)
  · obtain ⟨i, rfl, _⟩ := h
    rfl
  · obtain ⟨i, rfl, q⟩ := h
    refine ⟨_, (pss_cons (ps_set (i := 0) sc_mixed.nd rfl (by first | exact .inl rfl | exact .inr rfl) (pe_op op_mod (pe_op op_add (pe_op op_mul (pe_op op_mod (pv 0) pe_int) pe_int) pe_int) pe_int)) (pss_cons (ps_set (i := 0) sc_mixed.nd rfl (by first | exact .inl rfl | exact .inr rfl) (pe_op op_mod (pe_op op_add (pe_op op_add (pe_op op_mul (pv 0) (pv 0)) (pe_op op_mul pe_int (pv 0))) pe_int) pe_int)) (pss_one (ps_ret (pe_op op_mod (pe_op op_add (pe_op op_mul (pv 0) pe_int) pe_int) pe_int))))), ?_⟩
    have p1 : (0 : Int) < 2147483629 := by decide
    have p2 : (0 : Int) < 2147483647 := by decide
    have p3 : (0 : Int) < 2147483587 := by decide
    have small : ∀ x y : Int, 0 < y → y < 2147483648 → (-2 ^ 64 < x % y ∧ x % y < 2 ^ 64) := fun x y h0 h1 => by
      have a := Int.emod_nonneg x (show y ≠ 0 by omega)
      have b := Int.emod_lt_of_pos x h0
      omega
    refine ⟨.int i, rfl, _, _, rfl, rfl, p1, _, _, rfl, rfl, .inr ⟨by decide, by decide⟩, _, _, rfl, rfl, _, _, rfl, rfl, p2, ?_⟩
    refine ⟨_, rfl, _, rfl, _, _, rfl, rfl, .inl (small _ _ p2 (by decide)), _, rfl, _, _, rfl, rfl, .inl ⟨by decide, by decide⟩, _, _, rfl, rfl, _, _, rfl, rfl, _, _, rfl, rfl, p1, ?_⟩
    refine ⟨_, rfl, _, _, rfl, rfl, .inr ⟨by decide, by decide⟩, _, _, rfl, rfl, _, _, rfl, rfl, p3, ?_⟩
    exact q _ (Int.emod_nonneg _ (by decide)) (Int.emod_lt_of_pos _ p3)
def kC : Key := .inr (Str.ofString "cells")
def kS : Key := .inr (Str.ofString "seed")
def kA : Key := .inr (Str.ofString "at")
def DeckF (H : Hp) (d l : Addr) (n : Int) : Prop := d ≠ l ∧ ∃ (cs : List Int) (y z : Int), H d = some (.dK [(kC, .ref l), (kS, .int y), (kA, .int z)]) ∧ H l = some (.lst (cs.map V.int)) ∧ cs.length ≤ 63 ∧ 0 ≤ z ∧ z ≤ n
theorem cut63 {ns : List Int} (h : ns.length ≤ 63) : cutV (ns.map V.int) none (some 63) = ns.map V.int := by
  unfold cutV
  have e : HT.sIx (ns.map V.int).length (ns.map V.int).length (some 63) = min 63 (ns.map V.int).length := HT.sIx_nat _ _ 63
  rw [HT.sIx_none, e, List.length_map, List.drop_zero]
  apply List.take_of_length_le
  rw [List.length_map]
  omega
def sp_deck (K : PySem.W.Frag) : Sp := fun vs H Q _ => ∃ (a : Addr) (ns : List Int), vs = [.ref a] ∧ SqL K H a (ns.map V.int) ∧ ns.length ≤ 63 ∧ ∀ H' d l, Same H H' → DeckF H' d l 0 → Q (.ref d) H'
theorem ok_deck (T : Tx K mg) : FnOk P w K mg base CX0 1 T.f_deck T.fd_deck ["_law_script"] (sp_deck K) := by
  refine T.F_deck.ok sc_deck (fun vs H Q E h => ?_) (fun cdv A outer s H vs Q E hr h => ?_)
  · obtain ⟨a, ns, rfl, _⟩ := h
    rfl
  · obtain ⟨a, ns, rfl, hS, hlen, q⟩ := h
    refine ⟨_, (pss_cons (ps_set (i := 1) sc_deck.nd rfl (by first | exact .inl rfl | exact .inr rfl) (pe_callTy call_list_of (by rfl) T.m_list (by decide +kernel) (pa_cons (pe_slice sl_list (pv 0) po_none (po_some pe_int)) pa_nil))) (pss_one (ps_ret (pe_disp (pps_cons pe_str (pe_revL (pv 1)) (pps_cons pe_str (pe_op op_add pe_int (pe_op op_mod (pe_callB (cr_sum rfl) (by rfl) T.m_sum (by decide +kernel) (pa_cons (pv 1) pa_nil)) pe_int)) (pps_cons pe_str pe_int pps_nil))) (by rfl) (by rfl) (fun z => by cases z) (by decide))))), ?_⟩
    refine ⟨.ref a, rfl, 63, rfl, a, _, rfl, hS, fun c1 n1 => ?_⟩
    rw [cut63 hlen]
    have s1 := same_upd (o := (HO.lst (ns.map V.int))) n1
    have h1 : upd H c1 (HO.lst (ns.map V.int)) c1 = some (HO.lst (ns.map V.int)) := upd_same
    generalize upd H c1 (HO.lst (ns.map V.int)) = H1 at s1 h1 ⊢
    refine ⟨c1, _, rfl, .inl (SqL.of h1), fun c2 n2 => ?_⟩
    have s2 := same_upd (o := (HO.lst (ns.map V.int))) n2
    have h2 : upd H1 c2 (HO.lst (ns.map V.int)) c2 = some (HO.lst (ns.map V.int)) := upd_same
    generalize upd H1 c2 (HO.lst (ns.map V.int)) = H2 at s2 h2 ⊢
    refine fun d nd => ?_
    have s3 := same_upd (o := (HO.dK [])) nd
    have h3 : upd H2 d (HO.dK []) d = some (HO.dK []) := upd_same
    generalize upd H2 d (HO.dK []) = H3 at s3 h3 ⊢
    refine ⟨.ref c2, rfl, c2, _, rfl, SqL.of (s3 _ _ h2), fun l nl => ?_⟩
    have s4 := same_upd (o := (HO.lst (ns.map V.int).reverse)) nl
    have h4 : upd H3 l (HO.lst (ns.map V.int).reverse) l = some (HO.lst (ns.map V.int).reverse) := upd_same
    generalize upd H3 l (HO.lst (ns.map V.int).reverse) = H4 at s4 h4 ⊢
    have s24 := s3.trans s4
    refine ⟨.ref c2, rfl, c2, ns, rfl, SqL.of (s24 _ _ h2), _, _, rfl, rfl, (show (0 : Int) < 2147483647 by decide), _, _, rfl, rfl, ?_⟩
    refine ⟨s4 _ _ h3, [(kC, .ref l), (kS, _), (kA, .int 0)], rfl, (show 3 ≤ 15 by decide), ?_⟩
    have nH : H d = none := by
      cases e : H d with
      | none => rfl
      | some o =>
        have := (s1.trans s2) _ _ e
        rw [nd] at this
        cases this
    have em : ∀ v1 v2 v3 : V, mergeK [] [(kC, v1), (kS, v2), (kA, v3)] = [(kC, v1), (kS, v2), (kA, v3)] := fun v1 v2 v3 => rfl
    rw [em]
    have ndl : l ≠ d := (ne_of_none h3 nl).symm
    have hl' : upd H4 d (.dK [(kC, .ref l), (kS, V.int (48271 + ns.sum % 2147483647)), (kA, .int 0)]) l = some (.lst ((ns.reverse).map V.int)) := by
      rw [upd_ne ndl, h4, List.map_reverse]
    refine q _ d l (fun b o e => ?_) ⟨ndl.symm, ns.reverse, _, 0, upd_same, hl', by rw [List.length_reverse]; exact hlen, Int.le_refl _, Int.le_refl _⟩
    rw [upd_ne (ne_of_none e nH)]
    exact (((s1.trans s2).trans s3).trans s4) _ _ e
/-! ### a draw -/
theorem DeckF.mono {H : Hp} {d l : Addr} {n m : Int} (D : DeckF H d l n) (h : n ≤ m) : DeckF H d l m := by
  obtain ⟨ne, cs, y, z, h1, h2, h3, h4, h5⟩ := D
  exact ⟨ne, cs, y, z, h1, h2, h3, h4, Int.le_trans h5 h⟩
theorem DeckF.same {H H' : Hp} {d l : Addr} {n : Int} (D : DeckF H d l n) (s : Same H H') : DeckF H' d l n := by
  obtain ⟨ne, cs, y, z, hd, hl, r⟩ := D
  exact ⟨ne, cs, y, z, s _ _ hd, s _ _ hl, r⟩
theorem DeckF.gr {H H' : Hp} {d l : Addr} {n : Int} (D : DeckF H d l n) (s : Gr H H') : DeckF H' d l n := by
  obtain ⟨ne, cs, y, z, hd, hl, r⟩ := D
  exact ⟨ne, cs, y, z, s.1 d _ (fun _ z => by cases z) hd, s.lst hl, r⟩
theorem DeckF.upd {H : Hp} {d l p : Addr} {n : Int} {o : HO} (D : DeckF H d l n) (h1 : p ≠ d) (h2 : p ≠ l) : DeckF (upd H p o) d l n := by
  obtain ⟨ne, cs, y, z, hd, hl, r⟩ := D
  exact ⟨ne, cs, y, z, by rw [upd_ne h1.symm]; exact hd, by rw [upd_ne h2.symm]; exact hl, r⟩
theorem DeckF.off {H : Hp} {d l p : Addr} {n : Int} (D : DeckF H d l n) (h : H p = none) : p ≠ d ∧ p ≠ l := by
  obtain ⟨ne, cs, y, z, hd, hl, r⟩ := D
  exact ⟨(ne_of_none hd h).symm, (ne_of_none hl h).symm⟩
theorem dgC {H : Hp} {d l : Addr} {y z : Int} (h : H d = some (.dK [(kC, .ref l), (kS, .int y), (kA, .int z)])) : DGet H d (.str (Str.ofString "cells")) (some (.ref l)) := DGet.k (k := kC) h
theorem dgS {H : Hp} {d l : Addr} {y z : Int} (h : H d = some (.dK [(kC, .ref l), (kS, .int y), (kA, .int z)])) : DGet H d (.str (Str.ofString "seed")) (some (.int y)) := DGet.k (k := kS) h
theorem dgA {H : Hp} {d l : Addr} {y z : Int} (h : H d = some (.dK [(kC, .ref l), (kS, .int y), (kA, .int z)])) : DGet H d (.str (Str.ofString "at")) (some (.int z)) := DGet.k (k := kA) h
theorem dpS {H : Hp} {d l : Addr} {y z : Int} (v : Int) (h : H d = some (.dK [(kC, .ref l), (kS, .int y), (kA, .int z)])) : DPut H d (.str (Str.ofString "seed")) (.int v) (upd H d (.dK [(kC, .ref l), (kS, .int v), (kA, .int z)])) := DPut.k (k := kS) h (by show 3 < sizeLine; decide)
theorem dpA {H : Hp} {d l : Addr} {y z : Int} (v : Int) (h : H d = some (.dK [(kC, .ref l), (kS, .int y), (kA, .int z)])) : DPut H d (.str (Str.ofString "at")) (.int v) (upd H d (.dK [(kC, .ref l), (kS, .int y), (kA, .int v)])) := DPut.k (k := kA) h (by show 3 < sizeLine; decide)
theorem never_ok {f : Addr} {fd : FuncData} {ps : List Str} : FnOk P w K mg base CX0 0 f fd ps (fun _ _ _ _ => False) := ⟨fun _ _ _ _ h => h.elim, fun _ _ _ _ _ _ _ _ _ _ _ _ _ h => h.elim⟩
def sp_drawN (K : PySem.W.Frag) (B c : Int) : Sp := fun vs H Q _ => ∃ (d l : Addr) (m n : Int), vs = [.ref d, .int m] ∧ DeckF H d l n ∧ n + c < 1000000000 ∧ 0 < m ∧ m ≤ B ∧ ∀ H' v, DeckF H' d l (n + c) → Fr d l H H' → 0 ≤ v → v < m → Q (.int v) H'
theorem ok_draw0 (T : Tx K mg) : FnOk P w K mg base CX0 2 T.f_draw T.fd_draw ["_law_deck_here", "_law_most"] (sp_drawN K 1000000 1) := by
  refine T.F_draw.ok sc_draw (fun vs H Q E h => ?_) (fun cdv A outer s H vs Q E hr h => ?_)
  · obtain ⟨d, l, m, n, rfl, _⟩ := h
    rfl
  · obtain ⟨d, l, m, n, rfl, D, hn, hm0, hm1, q⟩ := h
    refine ⟨_, (pss_cons (ps_if (pt_cmpR op_gt (pv 1) (pe_op op_pow pe_int pe_int) (nomark _)) (pss_cons (ps_set (i := 2) sc_draw.nd rfl (by first | exact .inl rfl | exact .inr rfl) (pe_call (never_ok) (hr.mono (by decide)) (by rfl) T.g_draw T.F_draw.kp T.b_draw .nil pass0 (pa_cons (pv 0) (pa_cons (pe_op op_pow pe_int pe_int) pa_nil)))) (pss_one (ps_ret (pe_op op_mod (pe_op op_add (pv 2) (pe_op op_mul (pe_op op_pow pe_int pe_int) (pe_call (never_ok) (hr.mono (by decide)) (by rfl) T.g_draw T.F_draw.kp T.b_draw .nil pass0 (pa_cons (pv 0) (pa_cons (pe_op op_add (pe_op op_fdiv (pe_op op_sub (pv 1) pe_int) (pe_op op_pow pe_int pe_int)) pe_int) pa_nil))))) (pv 1))))) pss_nil) (pss_cons (ps_dput (hu_of hr) (pv 0) pe_str (pe_op op_add (pe_dget (hu_of hr) (pv 0) pe_str (fun _ _ => rfl)) pe_int) rfl) (pss_cons (ps_if (pt_cmpR (op_eqD hr.units) (pe_dget (hu_of hr) (pv 0) pe_str (fun _ _ => rfl)) (pe_lst pa_nil) (nomark _)) (pss_cons (ps_dput (hu_of hr) (pv 0) pe_str (pe_call (ok_mixed T) (hr.mono (by decide)) (by rfl) T.g_mixed T.F_mixed.kp T.b_mixed .nil pass0 (pa_cons (pe_op op_add (pe_dget (hu_of hr) (pv 0) pe_str (fun _ _ => rfl)) (pe_dget (hu_of hr) (pv 0) pe_str (fun _ _ => rfl))) pa_nil)) rfl) (pss_one (ps_ret (pe_op op_mod (pe_op op_fdiv (pe_dget (hu_of hr) (pv 0) pe_str (fun _ _ => rfl)) pe_int) (pv 1))))) pss_nil) (pss_cons (ps_set (i := 3) sc_draw.nd rfl (by first | exact .inl rfl | exact .inr rfl) (pe_bm0 PySem.F.plainAttrs_list PySem.F.slot_list_pop PySem.F.type_list_pop mt_pop (pe_dget (hu_of hr) (pv 0) pe_str (fun _ _ => rfl)))) (pss_cons (ps_if (pt_cmpR op_ge (pv 3) (pe_op op_pow pe_int pe_int) (nomark _)) (pss_cons (ps_expr (pe_bm PySem.F.plainAttrs_list PySem.F.slot_list_append PySem.F.type_list_append mt_append (pe_dget (hu_of hr) (pv 0) pe_str (fun _ _ => rfl)) (pa_cons (pe_op op_fdiv (pv 3) (pv 1)) pa_nil))) (pss_one (ps_ret (pe_op op_mod (pv 3) (pv 1))))) pss_nil) (pss_one (ps_ret (pe_op op_mod (pe_op op_fdiv (pe_call (ok_mixed T) (hr.mono (by decide)) (by rfl) T.g_mixed T.F_mixed.kp T.b_mixed .nil pass0 (pa_cons (pe_op op_add (pv 3) (pe_dget (hu_of hr) (pv 0) pe_str (fun _ _ => rfl))) pa_nil)) pe_int) (pv 1))))))))), ?_⟩
    refine ⟨.int m, rfl, _, _, rfl, rfl, ⟨by decide, by decide, by decide⟩, _, _, rfl, rfl, _, rfl, ite2 (fun z => ?_) (fun small => ?_)⟩
    · have z' : (10 : Int) ^ (6 : Int).toNat < m := of_decide_eq_true z
      have e6 : (10 : Int) ^ (6 : Int).toNat = 1000000 := by decide
      omega
    obtain ⟨ne, cs, y, z, hd, hl, hcs, hz0, hz1⟩ := D
    refine ⟨.ref d, rfl, d, .int z, rfl, dgA hd, _, _, rfl, rfl, .ref d, rfl, d, _, rfl, dpA (z + 1) hd, ?_⟩
    have hd1 : upd H d (.dK [(kC, .ref l), (kS, .int y), (kA, .int (z + 1))]) d = some (.dK [(kC, .ref l), (kS, .int y), (kA, .int (z + 1))]) := upd_same
    have hl1 : upd H d (.dK [(kC, .ref l), (kS, .int y), (kA, .int (z + 1))]) l = some (.lst (cs.map V.int)) := by rw [upd_ne ne.symm]; exact hl
    have fr1 : Fr d l H (upd H d (.dK [(kC, .ref l), (kS, .int y), (kA, .int (z + 1))])) := Fr.d
    generalize upd H d (.dK [(kC, .ref l), (kS, .int y), (kA, .int (z + 1))]) = H1 at hd1 hl1 fr1 ⊢
    refine ⟨.ref d, rfl, d, .ref l, rfl, dgC hd1, Nat.zero_le _, fun p np => ?_⟩
    have s2 := same_upd (o := (HO.lst [])) np
    have h2 : upd H1 p (HO.lst []) p = some (HO.lst []) := upd_same
    generalize upd H1 p (HO.lst []) = H2 at s2 h2 ⊢
    have hd2 := s2 _ _ hd1
    have hl2 := s2 _ _ hl1
    refine ⟨.list (cs.map .int), .list [], .lst (SqL.of hl2) (dpInts cs), .lst (SqL.of h2) .nil, shInts cs, rfl, _, rfl, ?_⟩
    have fr2 : Fr d l H H2 := fr1.trans (Fr.of s2)
    cases cs with
    | nil =>
      refine iteT ?_
      refine ⟨.ref d, rfl, d, .int y, rfl, dgS hd2, .ref d, rfl, d, .int (z + 1), rfl, dgA hd2, _, _, rfl, rfl, _, rfl, fun v v0 v1 => ?_⟩
      refine ⟨.ref d, rfl, d, _, rfl, dpS v hd2, ?_⟩
      refine ⟨.ref d, rfl, d, .int v, rfl, dgS upd_same, _, _, rfl, rfl, (⟨by decide, by decide⟩ : (0 : Int) < 8 ∧ (8 : Int) < 1073741824), .int m, rfl, _, _, rfl, rfl, hm0, ?_⟩
      exact q _ _ ⟨ne, [], v, z + 1, upd_same, by rw [upd_ne ne.symm]; exact hl2, Nat.zero_le _, by omega, by omega⟩ (fr2.trans Fr.d) (Int.emod_nonneg _ (by omega)) (Int.emod_lt_of_pos _ hm0)
    | cons c0 r0 =>
      refine iteF ?_
      obtain ⟨r, c, hrc⟩ : ∃ r c, c0 :: r0 = r ++ [c] := ⟨(c0 :: r0).dropLast, (c0 :: r0).getLast (by simp), (List.dropLast_concat_getLast (by simp)).symm⟩
      rw [hrc] at hl2 hcs
      rw [List.map_append] at hl2
      have lr : r.length ≤ 62 := by rw [List.length_append] at hcs; simp at hcs; omega
      refine ⟨.ref d, rfl, d, .ref l, rfl, dgC hd2, .inl ⟨rfl, _, SqL.of hl2⟩, l, _, .int c, rfl, rfl, hl2, by simp, ?_⟩
      have edl : (r.map V.int ++ [c].map V.int).dropLast = r.map V.int := List.dropLast_concat ..
      rw [edl]
      have hl3 : upd H2 l (.lst (r.map V.int)) l = some (.lst (r.map V.int)) := upd_same
      have hd3 : upd H2 l (.lst (r.map V.int)) d = some (.dK [(kC, .ref l), (kS, .int y), (kA, .int (z + 1))]) := by rw [upd_ne ne]; exact hd2
      have fr3 : Fr d l H (upd H2 l (.lst (r.map V.int))) := fr2.trans Fr.l
      show tSeq _ _ _ _ (upd H2 l (.lst (r.map V.int)))
      generalize upd H2 l (.lst (r.map V.int)) = H3 at hl3 hd3 fr3 ⊢
      have m6 : m ≤ 1000000 := by
        have e6 : (10 : Int) ^ (6 : Int).toNat = 1000000 := by decide
        have h6 : ¬ (10 : Int) ^ (6 : Int).toNat < m := fun k => small (decide_eq_true k)
        rw [e6] at h6
        omega
      refine ⟨.int c, rfl, _, _, rfl, rfl, ⟨by decide, by decide, by decide⟩, _, _, rfl, rfl, _, rfl, ite2 (fun _ => ?_) (fun _ => ?_)⟩
      · refine ⟨.ref d, rfl, d, .ref l, rfl, dgC hd3, .inl ⟨rfl, _, SqL.of hl3⟩, .int c, rfl, .int m, rfl, _, _, rfl, rfl, (⟨hm0, by omega⟩ : 0 < m ∧ m < 1073741824), l, _, _, rfl, rfl, hl3, ?_, ?_⟩
        · rw [List.length_map]
          exact Nat.lt_of_lt_of_le (show r.length < 128 by omega) (by decide)
        refine ⟨.int c, rfl, .int m, rfl, _, _, rfl, rfl, hm0, ?_⟩
        exact q _ _ ⟨ne, r ++ [c / m], y, z + 1, by rw [upd_ne ne]; exact hd3, by rw [upd_same, List.map_append]; rfl, by rw [List.length_append]; show r.length + 1 ≤ 63; omega, by omega, by omega⟩ (fr3.trans Fr.l) (Int.emod_nonneg _ (by omega)) (Int.emod_lt_of_pos _ hm0)
      · refine ⟨.int c, rfl, .ref d, rfl, d, .int (z + 1), rfl, dgA hd3, _, _, rfl, rfl, _, rfl, fun v v0 v1 => ?_⟩
        refine ⟨_, _, rfl, rfl, (⟨by decide, by decide⟩ : (0 : Int) < 8 ∧ (8 : Int) < 1073741824), .int m, rfl, _, _, rfl, rfl, hm0, ?_⟩
        exact q _ _ ⟨ne, r, y, z + 1, hd3, hl3, by omega, by omega, by omega⟩ fr3 (Int.emod_nonneg _ (by omega)) (Int.emod_lt_of_pos _ hm0)
theorem ok_draw1 (T : Tx K mg) : FnOk P w K mg base CX0 3 T.f_draw T.fd_draw ["_law_deck_here", "_law_most"] (sp_drawN K 1000000000000 2) := by
  refine T.F_draw.ok sc_draw (fun vs H Q E h => ?_) (fun cdv A outer s H vs Q E hr h => ?_)
  · obtain ⟨d, l, m, n, rfl, _⟩ := h
    rfl
  · obtain ⟨d, l, m, n, rfl, D, hn, hm0, hm1, q⟩ := h
    refine ⟨_, (pss_cons (ps_if (pt_cmpR op_gt (pv 1) (pe_op op_pow pe_int pe_int) (nomark _)) (pss_cons (ps_set (i := 2) sc_draw.nd rfl (by first | exact .inl rfl | exact .inr rfl) (pe_call (ok_draw0 T) (hr.mono (by decide)) (by rfl) T.g_draw T.F_draw.kp T.b_draw .nil pass0 (pa_cons (pv 0) (pa_cons (pe_op op_pow pe_int pe_int) pa_nil)))) (pss_one (ps_ret (pe_op op_mod (pe_op op_add (pv 2) (pe_op op_mul (pe_op op_pow pe_int pe_int) (pe_call (ok_draw0 T) (hr.mono (by decide)) (by rfl) T.g_draw T.F_draw.kp T.b_draw .nil pass0 (pa_cons (pv 0) (pa_cons (pe_op op_add (pe_op op_fdiv (pe_op op_sub (pv 1) pe_int) (pe_op op_pow pe_int pe_int)) pe_int) pa_nil))))) (pv 1))))) pss_nil) (pss_cons (ps_dput (hu_of hr) (pv 0) pe_str (pe_op op_add (pe_dget (hu_of hr) (pv 0) pe_str (fun _ _ => rfl)) pe_int) rfl) (pss_cons (ps_if (pt_cmpR (op_eqD hr.units) (pe_dget (hu_of hr) (pv 0) pe_str (fun _ _ => rfl)) (pe_lst pa_nil) (nomark _)) (pss_cons (ps_dput (hu_of hr) (pv 0) pe_str (pe_call (ok_mixed T) (hr.mono (by decide)) (by rfl) T.g_mixed T.F_mixed.kp T.b_mixed .nil pass0 (pa_cons (pe_op op_add (pe_dget (hu_of hr) (pv 0) pe_str (fun _ _ => rfl)) (pe_dget (hu_of hr) (pv 0) pe_str (fun _ _ => rfl))) pa_nil)) rfl) (pss_one (ps_ret (pe_op op_mod (pe_op op_fdiv (pe_dget (hu_of hr) (pv 0) pe_str (fun _ _ => rfl)) pe_int) (pv 1))))) pss_nil) (pss_cons (ps_set (i := 3) sc_draw.nd rfl (by first | exact .inl rfl | exact .inr rfl) (pe_bm0 PySem.F.plainAttrs_list PySem.F.slot_list_pop PySem.F.type_list_pop mt_pop (pe_dget (hu_of hr) (pv 0) pe_str (fun _ _ => rfl)))) (pss_cons (ps_if (pt_cmpR op_ge (pv 3) (pe_op op_pow pe_int pe_int) (nomark _)) (pss_cons (ps_expr (pe_bm PySem.F.plainAttrs_list PySem.F.slot_list_append PySem.F.type_list_append mt_append (pe_dget (hu_of hr) (pv 0) pe_str (fun _ _ => rfl)) (pa_cons (pe_op op_fdiv (pv 3) (pv 1)) pa_nil))) (pss_one (ps_ret (pe_op op_mod (pv 3) (pv 1))))) pss_nil) (pss_one (ps_ret (pe_op op_mod (pe_op op_fdiv (pe_call (ok_mixed T) (hr.mono (by decide)) (by rfl) T.g_mixed T.F_mixed.kp T.b_mixed .nil pass0 (pa_cons (pe_op op_add (pv 3) (pe_dget (hu_of hr) (pv 0) pe_str (fun _ _ => rfl))) pa_nil)) pe_int) (pv 1))))))))), ?_⟩
    refine ⟨.int m, rfl, _, _, rfl, rfl, ⟨by decide, by decide, by decide⟩, _, _, rfl, rfl, _, rfl, ite2 (fun z => ?_) (fun small => ?_)⟩
    · have z' : (10 : Int) ^ (6 : Int).toNat < m := of_decide_eq_true z
      have e6 : (10 : Int) ^ (6 : Int).toNat = 1000000 := by decide
      rw [e6] at z'
      have hq : (m - 1) / (10 : Int) ^ (6 : Int).toNat + 1 ≤ 1000000 ∧ 0 < (m - 1) / (10 : Int) ^ (6 : Int).toNat + 1 := by rw [e6]; omega
      refine ⟨.ref d, rfl, _, _, rfl, rfl, ⟨by decide, by decide, by decide⟩, d, l, _, n, rfl, D, by omega, by decide, by decide, fun H1 low D1 fr1 l0 l1 => ?_⟩
      refine ⟨.int low, rfl, _, _, rfl, rfl, ⟨by decide, by decide, by decide⟩, .ref d, rfl, .int m, rfl, _, _, rfl, rfl, _, _, rfl, rfl, ⟨by decide, by decide, by decide⟩, _, _, rfl, rfl, (⟨by decide, by decide⟩ : (0 : Int) < 10 ^ (6 : Int).toNat ∧ (10 : Int) ^ (6 : Int).toNat < 1073741824), _, _, rfl, rfl, d, l, _, _, rfl, D1, ?_, hq.2, hq.1, fun H2 v D2 fr2 v0 v1 => ⟨_, _, rfl, rfl, .inl ⟨by decide, by decide⟩, _, _, rfl, rfl, .int m, rfl, _, _, rfl, rfl, hm0, ?_⟩⟩
      · omega
      exact q _ _ (D2.mono (by omega)) (fr1.trans fr2) (Int.emod_nonneg _ (by omega)) (Int.emod_lt_of_pos _ hm0)
    obtain ⟨ne, cs, y, z, hd, hl, hcs, hz0, hz1⟩ := D
    refine ⟨.ref d, rfl, d, .int z, rfl, dgA hd, _, _, rfl, rfl, .ref d, rfl, d, _, rfl, dpA (z + 1) hd, ?_⟩
    have hd1 : upd H d (.dK [(kC, .ref l), (kS, .int y), (kA, .int (z + 1))]) d = some (.dK [(kC, .ref l), (kS, .int y), (kA, .int (z + 1))]) := upd_same
    have hl1 : upd H d (.dK [(kC, .ref l), (kS, .int y), (kA, .int (z + 1))]) l = some (.lst (cs.map V.int)) := by rw [upd_ne ne.symm]; exact hl
    have fr1 : Fr d l H (upd H d (.dK [(kC, .ref l), (kS, .int y), (kA, .int (z + 1))])) := Fr.d
    generalize upd H d (.dK [(kC, .ref l), (kS, .int y), (kA, .int (z + 1))]) = H1 at hd1 hl1 fr1 ⊢
    refine ⟨.ref d, rfl, d, .ref l, rfl, dgC hd1, Nat.zero_le _, fun p np => ?_⟩
    have s2 := same_upd (o := (HO.lst [])) np
    have h2 : upd H1 p (HO.lst []) p = some (HO.lst []) := upd_same
    generalize upd H1 p (HO.lst []) = H2 at s2 h2 ⊢
    have hd2 := s2 _ _ hd1
    have hl2 := s2 _ _ hl1
    refine ⟨.list (cs.map .int), .list [], .lst (SqL.of hl2) (dpInts cs), .lst (SqL.of h2) .nil, shInts cs, rfl, _, rfl, ?_⟩
    have fr2 : Fr d l H H2 := fr1.trans (Fr.of s2)
    cases cs with
    | nil =>
      refine iteT ?_
      refine ⟨.ref d, rfl, d, .int y, rfl, dgS hd2, .ref d, rfl, d, .int (z + 1), rfl, dgA hd2, _, _, rfl, rfl, _, rfl, fun v v0 v1 => ?_⟩
      refine ⟨.ref d, rfl, d, _, rfl, dpS v hd2, ?_⟩
      refine ⟨.ref d, rfl, d, .int v, rfl, dgS upd_same, _, _, rfl, rfl, (⟨by decide, by decide⟩ : (0 : Int) < 8 ∧ (8 : Int) < 1073741824), .int m, rfl, _, _, rfl, rfl, hm0, ?_⟩
      exact q _ _ ⟨ne, [], v, z + 1, upd_same, by rw [upd_ne ne.symm]; exact hl2, Nat.zero_le _, by omega, by omega⟩ (fr2.trans Fr.d) (Int.emod_nonneg _ (by omega)) (Int.emod_lt_of_pos _ hm0)
    | cons c0 r0 =>
      refine iteF ?_
      obtain ⟨r, c, hrc⟩ : ∃ r c, c0 :: r0 = r ++ [c] := ⟨(c0 :: r0).dropLast, (c0 :: r0).getLast (by simp), (List.dropLast_concat_getLast (by simp)).symm⟩
      rw [hrc] at hl2 hcs
      rw [List.map_append] at hl2
      have lr : r.length ≤ 62 := by rw [List.length_append] at hcs; simp at hcs; omega
      refine ⟨.ref d, rfl, d, .ref l, rfl, dgC hd2, .inl ⟨rfl, _, SqL.of hl2⟩, l, _, .int c, rfl, rfl, hl2, by simp, ?_⟩
      have edl : (r.map V.int ++ [c].map V.int).dropLast = r.map V.int := List.dropLast_concat ..
      rw [edl]
      have hl3 : upd H2 l (.lst (r.map V.int)) l = some (.lst (r.map V.int)) := upd_same
      have hd3 : upd H2 l (.lst (r.map V.int)) d = some (.dK [(kC, .ref l), (kS, .int y), (kA, .int (z + 1))]) := by rw [upd_ne ne]; exact hd2
      have fr3 : Fr d l H (upd H2 l (.lst (r.map V.int))) := fr2.trans Fr.l
      show tSeq _ _ _ _ (upd H2 l (.lst (r.map V.int)))
      generalize upd H2 l (.lst (r.map V.int)) = H3 at hl3 hd3 fr3 ⊢
      have m6 : m ≤ 1000000 := by
        have e6 : (10 : Int) ^ (6 : Int).toNat = 1000000 := by decide
        have h6 : ¬ (10 : Int) ^ (6 : Int).toNat < m := fun k => small (decide_eq_true k)
        rw [e6] at h6
        omega
      refine ⟨.int c, rfl, _, _, rfl, rfl, ⟨by decide, by decide, by decide⟩, _, _, rfl, rfl, _, rfl, ite2 (fun _ => ?_) (fun _ => ?_)⟩
      · refine ⟨.ref d, rfl, d, .ref l, rfl, dgC hd3, .inl ⟨rfl, _, SqL.of hl3⟩, .int c, rfl, .int m, rfl, _, _, rfl, rfl, (⟨hm0, by omega⟩ : 0 < m ∧ m < 1073741824), l, _, _, rfl, rfl, hl3, ?_, ?_⟩
        · rw [List.length_map]
          exact Nat.lt_of_lt_of_le (show r.length < 128 by omega) (by decide)
        refine ⟨.int c, rfl, .int m, rfl, _, _, rfl, rfl, hm0, ?_⟩
        exact q _ _ ⟨ne, r ++ [c / m], y, z + 1, by rw [upd_ne ne]; exact hd3, by rw [upd_same, List.map_append]; rfl, by rw [List.length_append]; show r.length + 1 ≤ 63; omega, by omega, by omega⟩ (fr3.trans Fr.l) (Int.emod_nonneg _ (by omega)) (Int.emod_lt_of_pos _ hm0)
      · refine ⟨.int c, rfl, .ref d, rfl, d, .int (z + 1), rfl, dgA hd3, _, _, rfl, rfl, _, rfl, fun v v0 v1 => ?_⟩
        refine ⟨_, _, rfl, rfl, (⟨by decide, by decide⟩ : (0 : Int) < 8 ∧ (8 : Int) < 1073741824), .int m, rfl, _, _, rfl, rfl, hm0, ?_⟩
        exact q _ _ ⟨ne, r, y, z + 1, hd3, hl3, by omega, by omega, by omega⟩ fr3 (Int.emod_nonneg _ (by omega)) (Int.emod_lt_of_pos _ hm0)
theorem ok_draw2 (T : Tx K mg) : FnOk P w K mg base CX0 4 T.f_draw T.fd_draw ["_law_deck_here", "_law_most"] (sp_drawN K 1000000000000000000 4) := by
  refine T.F_draw.ok sc_draw (fun vs H Q E h => ?_) (fun cdv A outer s H vs Q E hr h => ?_)
  · obtain ⟨d, l, m, n, rfl, _⟩ := h
    rfl
  · obtain ⟨d, l, m, n, rfl, D, hn, hm0, hm1, q⟩ := h
    refine ⟨_, (pss_cons (ps_if (pt_cmpR op_gt (pv 1) (pe_op op_pow pe_int pe_int) (nomark _)) (pss_cons (ps_set (i := 2) sc_draw.nd rfl (by first | exact .inl rfl | exact .inr rfl) (pe_call (ok_draw1 T) (hr.mono (by decide)) (by rfl) T.g_draw T.F_draw.kp T.b_draw .nil pass0 (pa_cons (pv 0) (pa_cons (pe_op op_pow pe_int pe_int) pa_nil)))) (pss_one (ps_ret (pe_op op_mod (pe_op op_add (pv 2) (pe_op op_mul (pe_op op_pow pe_int pe_int) (pe_call (ok_draw1 T) (hr.mono (by decide)) (by rfl) T.g_draw T.F_draw.kp T.b_draw .nil pass0 (pa_cons (pv 0) (pa_cons (pe_op op_add (pe_op op_fdiv (pe_op op_sub (pv 1) pe_int) (pe_op op_pow pe_int pe_int)) pe_int) pa_nil))))) (pv 1))))) pss_nil) (pss_cons (ps_dput (hu_of hr) (pv 0) pe_str (pe_op op_add (pe_dget (hu_of hr) (pv 0) pe_str (fun _ _ => rfl)) pe_int) rfl) (pss_cons (ps_if (pt_cmpR (op_eqD hr.units) (pe_dget (hu_of hr) (pv 0) pe_str (fun _ _ => rfl)) (pe_lst pa_nil) (nomark _)) (pss_cons (ps_dput (hu_of hr) (pv 0) pe_str (pe_call (ok_mixed T) (hr.mono (by decide)) (by rfl) T.g_mixed T.F_mixed.kp T.b_mixed .nil pass0 (pa_cons (pe_op op_add (pe_dget (hu_of hr) (pv 0) pe_str (fun _ _ => rfl)) (pe_dget (hu_of hr) (pv 0) pe_str (fun _ _ => rfl))) pa_nil)) rfl) (pss_one (ps_ret (pe_op op_mod (pe_op op_fdiv (pe_dget (hu_of hr) (pv 0) pe_str (fun _ _ => rfl)) pe_int) (pv 1))))) pss_nil) (pss_cons (ps_set (i := 3) sc_draw.nd rfl (by first | exact .inl rfl | exact .inr rfl) (pe_bm0 PySem.F.plainAttrs_list PySem.F.slot_list_pop PySem.F.type_list_pop mt_pop (pe_dget (hu_of hr) (pv 0) pe_str (fun _ _ => rfl)))) (pss_cons (ps_if (pt_cmpR op_ge (pv 3) (pe_op op_pow pe_int pe_int) (nomark _)) (pss_cons (ps_expr (pe_bm PySem.F.plainAttrs_list PySem.F.slot_list_append PySem.F.type_list_append mt_append (pe_dget (hu_of hr) (pv 0) pe_str (fun _ _ => rfl)) (pa_cons (pe_op op_fdiv (pv 3) (pv 1)) pa_nil))) (pss_one (ps_ret (pe_op op_mod (pv 3) (pv 1))))) pss_nil) (pss_one (ps_ret (pe_op op_mod (pe_op op_fdiv (pe_call (ok_mixed T) (hr.mono (by decide)) (by rfl) T.g_mixed T.F_mixed.kp T.b_mixed .nil pass0 (pa_cons (pe_op op_add (pv 3) (pe_dget (hu_of hr) (pv 0) pe_str (fun _ _ => rfl))) pa_nil)) pe_int) (pv 1))))))))), ?_⟩
    refine ⟨.int m, rfl, _, _, rfl, rfl, ⟨by decide, by decide, by decide⟩, _, _, rfl, rfl, _, rfl, ite2 (fun z => ?_) (fun small => ?_)⟩
    · have z' : (10 : Int) ^ (6 : Int).toNat < m := of_decide_eq_true z
      have e6 : (10 : Int) ^ (6 : Int).toNat = 1000000 := by decide
      rw [e6] at z'
      have hq : (m - 1) / (10 : Int) ^ (6 : Int).toNat + 1 ≤ 1000000000000 ∧ 0 < (m - 1) / (10 : Int) ^ (6 : Int).toNat + 1 := by rw [e6]; omega
      refine ⟨.ref d, rfl, _, _, rfl, rfl, ⟨by decide, by decide, by decide⟩, d, l, _, n, rfl, D, by omega, by decide, by decide, fun H1 low D1 fr1 l0 l1 => ?_⟩
      refine ⟨.int low, rfl, _, _, rfl, rfl, ⟨by decide, by decide, by decide⟩, .ref d, rfl, .int m, rfl, _, _, rfl, rfl, _, _, rfl, rfl, ⟨by decide, by decide, by decide⟩, _, _, rfl, rfl, (⟨by decide, by decide⟩ : (0 : Int) < 10 ^ (6 : Int).toNat ∧ (10 : Int) ^ (6 : Int).toNat < 1073741824), _, _, rfl, rfl, d, l, _, _, rfl, D1, ?_, hq.2, hq.1, fun H2 v D2 fr2 v0 v1 => ⟨_, _, rfl, rfl, .inl ⟨by decide, by decide⟩, _, _, rfl, rfl, .int m, rfl, _, _, rfl, rfl, hm0, ?_⟩⟩
      · omega
      exact q _ _ (D2.mono (by omega)) (fr1.trans fr2) (Int.emod_nonneg _ (by omega)) (Int.emod_lt_of_pos _ hm0)
    obtain ⟨ne, cs, y, z, hd, hl, hcs, hz0, hz1⟩ := D
    refine ⟨.ref d, rfl, d, .int z, rfl, dgA hd, _, _, rfl, rfl, .ref d, rfl, d, _, rfl, dpA (z + 1) hd, ?_⟩
    have hd1 : upd H d (.dK [(kC, .ref l), (kS, .int y), (kA, .int (z + 1))]) d = some (.dK [(kC, .ref l), (kS, .int y), (kA, .int (z + 1))]) := upd_same
    have hl1 : upd H d (.dK [(kC, .ref l), (kS, .int y), (kA, .int (z + 1))]) l = some (.lst (cs.map V.int)) := by rw [upd_ne ne.symm]; exact hl
    have fr1 : Fr d l H (upd H d (.dK [(kC, .ref l), (kS, .int y), (kA, .int (z + 1))])) := Fr.d
    generalize upd H d (.dK [(kC, .ref l), (kS, .int y), (kA, .int (z + 1))]) = H1 at hd1 hl1 fr1 ⊢
    refine ⟨.ref d, rfl, d, .ref l, rfl, dgC hd1, Nat.zero_le _, fun p np => ?_⟩
    have s2 := same_upd (o := (HO.lst [])) np
    have h2 : upd H1 p (HO.lst []) p = some (HO.lst []) := upd_same
    generalize upd H1 p (HO.lst []) = H2 at s2 h2 ⊢
    have hd2 := s2 _ _ hd1
    have hl2 := s2 _ _ hl1
    refine ⟨.list (cs.map .int), .list [], .lst (SqL.of hl2) (dpInts cs), .lst (SqL.of h2) .nil, shInts cs, rfl, _, rfl, ?_⟩
    have fr2 : Fr d l H H2 := fr1.trans (Fr.of s2)
    cases cs with
    | nil =>
      refine iteT ?_
      refine ⟨.ref d, rfl, d, .int y, rfl, dgS hd2, .ref d, rfl, d, .int (z + 1), rfl, dgA hd2, _, _, rfl, rfl, _, rfl, fun v v0 v1 => ?_⟩
      refine ⟨.ref d, rfl, d, _, rfl, dpS v hd2, ?_⟩
      refine ⟨.ref d, rfl, d, .int v, rfl, dgS upd_same, _, _, rfl, rfl, (⟨by decide, by decide⟩ : (0 : Int) < 8 ∧ (8 : Int) < 1073741824), .int m, rfl, _, _, rfl, rfl, hm0, ?_⟩
      exact q _ _ ⟨ne, [], v, z + 1, upd_same, by rw [upd_ne ne.symm]; exact hl2, Nat.zero_le _, by omega, by omega⟩ (fr2.trans Fr.d) (Int.emod_nonneg _ (by omega)) (Int.emod_lt_of_pos _ hm0)
    | cons c0 r0 =>
      refine iteF ?_
      obtain ⟨r, c, hrc⟩ : ∃ r c, c0 :: r0 = r ++ [c] := ⟨(c0 :: r0).dropLast, (c0 :: r0).getLast (by simp), (List.dropLast_concat_getLast (by simp)).symm⟩
      rw [hrc] at hl2 hcs
      rw [List.map_append] at hl2
      have lr : r.length ≤ 62 := by rw [List.length_append] at hcs; simp at hcs; omega
      refine ⟨.ref d, rfl, d, .ref l, rfl, dgC hd2, .inl ⟨rfl, _, SqL.of hl2⟩, l, _, .int c, rfl, rfl, hl2, by simp, ?_⟩
      have edl : (r.map V.int ++ [c].map V.int).dropLast = r.map V.int := List.dropLast_concat ..
      rw [edl]
      have hl3 : upd H2 l (.lst (r.map V.int)) l = some (.lst (r.map V.int)) := upd_same
      have hd3 : upd H2 l (.lst (r.map V.int)) d = some (.dK [(kC, .ref l), (kS, .int y), (kA, .int (z + 1))]) := by rw [upd_ne ne]; exact hd2
      have fr3 : Fr d l H (upd H2 l (.lst (r.map V.int))) := fr2.trans Fr.l
      show tSeq _ _ _ _ (upd H2 l (.lst (r.map V.int)))
      generalize upd H2 l (.lst (r.map V.int)) = H3 at hl3 hd3 fr3 ⊢
      have m6 : m ≤ 1000000 := by
        have e6 : (10 : Int) ^ (6 : Int).toNat = 1000000 := by decide
        have h6 : ¬ (10 : Int) ^ (6 : Int).toNat < m := fun k => small (decide_eq_true k)
        rw [e6] at h6
        omega
      refine ⟨.int c, rfl, _, _, rfl, rfl, ⟨by decide, by decide, by decide⟩, _, _, rfl, rfl, _, rfl, ite2 (fun _ => ?_) (fun _ => ?_)⟩
      · refine ⟨.ref d, rfl, d, .ref l, rfl, dgC hd3, .inl ⟨rfl, _, SqL.of hl3⟩, .int c, rfl, .int m, rfl, _, _, rfl, rfl, (⟨hm0, by omega⟩ : 0 < m ∧ m < 1073741824), l, _, _, rfl, rfl, hl3, ?_, ?_⟩
        · rw [List.length_map]
          exact Nat.lt_of_lt_of_le (show r.length < 128 by omega) (by decide)
        refine ⟨.int c, rfl, .int m, rfl, _, _, rfl, rfl, hm0, ?_⟩
        exact q _ _ ⟨ne, r ++ [c / m], y, z + 1, by rw [upd_ne ne]; exact hd3, by rw [upd_same, List.map_append]; rfl, by rw [List.length_append]; show r.length + 1 ≤ 63; omega, by omega, by omega⟩ (fr3.trans Fr.l) (Int.emod_nonneg _ (by omega)) (Int.emod_lt_of_pos _ hm0)
      · refine ⟨.int c, rfl, .ref d, rfl, d, .int (z + 1), rfl, dgA hd3, _, _, rfl, rfl, _, rfl, fun v v0 v1 => ?_⟩
        refine ⟨_, _, rfl, rfl, (⟨by decide, by decide⟩ : (0 : Int) < 8 ∧ (8 : Int) < 1073741824), .int m, rfl, _, _, rfl, rfl, hm0, ?_⟩
        exact q _ _ ⟨ne, r, y, z + 1, hd3, hl3, by omega, by omega, by omega⟩ fr3 (Int.emod_nonneg _ (by omega)) (Int.emod_lt_of_pos _ hm0)
theorem ok_draw3 (T : Tx K mg) : FnOk P w K mg base CX0 5 T.f_draw T.fd_draw ["_law_deck_here", "_law_most"] (sp_drawN K 1000000000000000000000000 8) := by
  refine T.F_draw.ok sc_draw (fun vs H Q E h => ?_) (fun cdv A outer s H vs Q E hr h => ?_)
  · obtain ⟨d, l, m, n, rfl, _⟩ := h
    rfl
  · obtain ⟨d, l, m, n, rfl, D, hn, hm0, hm1, q⟩ := h
    refine ⟨_, (pss_cons (ps_if (pt_cmpR op_gt (pv 1) (pe_op op_pow pe_int pe_int) (nomark _)) (pss_cons (ps_set (i := 2) sc_draw.nd rfl (by first | exact .inl rfl | exact .inr rfl) (pe_call (ok_draw2 T) (hr.mono (by decide)) (by rfl) T.g_draw T.F_draw.kp T.b_draw .nil pass0 (pa_cons (pv 0) (pa_cons (pe_op op_pow pe_int pe_int) pa_nil)))) (pss_one (ps_ret (pe_op op_mod (pe_op op_add (pv 2) (pe_op op_mul (pe_op op_pow pe_int pe_int) (pe_call (ok_draw2 T) (hr.mono (by decide)) (by rfl) T.g_draw T.F_draw.kp T.b_draw .nil pass0 (pa_cons (pv 0) (pa_cons (pe_op op_add (pe_op op_fdiv (pe_op op_sub (pv 1) pe_int) (pe_op op_pow pe_int pe_int)) pe_int) pa_nil))))) (pv 1))))) pss_nil) (pss_cons (ps_dput (hu_of hr) (pv 0) pe_str (pe_op op_add (pe_dget (hu_of hr) (pv 0) pe_str (fun _ _ => rfl)) pe_int) rfl) (pss_cons (ps_if (pt_cmpR (op_eqD hr.units) (pe_dget (hu_of hr) (pv 0) pe_str (fun _ _ => rfl)) (pe_lst pa_nil) (nomark _)) (pss_cons (ps_dput (hu_of hr) (pv 0) pe_str (pe_call (ok_mixed T) (hr.mono (by decide)) (by rfl) T.g_mixed T.F_mixed.kp T.b_mixed .nil pass0 (pa_cons (pe_op op_add (pe_dget (hu_of hr) (pv 0) pe_str (fun _ _ => rfl)) (pe_dget (hu_of hr) (pv 0) pe_str (fun _ _ => rfl))) pa_nil)) rfl) (pss_one (ps_ret (pe_op op_mod (pe_op op_fdiv (pe_dget (hu_of hr) (pv 0) pe_str (fun _ _ => rfl)) pe_int) (pv 1))))) pss_nil) (pss_cons (ps_set (i := 3) sc_draw.nd rfl (by first | exact .inl rfl | exact .inr rfl) (pe_bm0 PySem.F.plainAttrs_list PySem.F.slot_list_pop PySem.F.type_list_pop mt_pop (pe_dget (hu_of hr) (pv 0) pe_str (fun _ _ => rfl)))) (pss_cons (ps_if (pt_cmpR op_ge (pv 3) (pe_op op_pow pe_int pe_int) (nomark _)) (pss_cons (ps_expr (pe_bm PySem.F.plainAttrs_list PySem.F.slot_list_append PySem.F.type_list_append mt_append (pe_dget (hu_of hr) (pv 0) pe_str (fun _ _ => rfl)) (pa_cons (pe_op op_fdiv (pv 3) (pv 1)) pa_nil))) (pss_one (ps_ret (pe_op op_mod (pv 3) (pv 1))))) pss_nil) (pss_one (ps_ret (pe_op op_mod (pe_op op_fdiv (pe_call (ok_mixed T) (hr.mono (by decide)) (by rfl) T.g_mixed T.F_mixed.kp T.b_mixed .nil pass0 (pa_cons (pe_op op_add (pv 3) (pe_dget (hu_of hr) (pv 0) pe_str (fun _ _ => rfl))) pa_nil)) pe_int) (pv 1))))))))), ?_⟩
    refine ⟨.int m, rfl, _, _, rfl, rfl, ⟨by decide, by decide, by decide⟩, _, _, rfl, rfl, _, rfl, ite2 (fun z => ?_) (fun small => ?_)⟩
    · have z' : (10 : Int) ^ (6 : Int).toNat < m := of_decide_eq_true z
      have e6 : (10 : Int) ^ (6 : Int).toNat = 1000000 := by decide
      rw [e6] at z'
      have hq : (m - 1) / (10 : Int) ^ (6 : Int).toNat + 1 ≤ 1000000000000000000 ∧ 0 < (m - 1) / (10 : Int) ^ (6 : Int).toNat + 1 := by rw [e6]; omega
      refine ⟨.ref d, rfl, _, _, rfl, rfl, ⟨by decide, by decide, by decide⟩, d, l, _, n, rfl, D, by omega, by decide, by decide, fun H1 low D1 fr1 l0 l1 => ?_⟩
      refine ⟨.int low, rfl, _, _, rfl, rfl, ⟨by decide, by decide, by decide⟩, .ref d, rfl, .int m, rfl, _, _, rfl, rfl, _, _, rfl, rfl, ⟨by decide, by decide, by decide⟩, _, _, rfl, rfl, (⟨by decide, by decide⟩ : (0 : Int) < 10 ^ (6 : Int).toNat ∧ (10 : Int) ^ (6 : Int).toNat < 1073741824), _, _, rfl, rfl, d, l, _, _, rfl, D1, ?_, hq.2, hq.1, fun H2 v D2 fr2 v0 v1 => ⟨_, _, rfl, rfl, .inl ⟨by decide, by decide⟩, _, _, rfl, rfl, .int m, rfl, _, _, rfl, rfl, hm0, ?_⟩⟩
      · omega
      exact q _ _ (D2.mono (by omega)) (fr1.trans fr2) (Int.emod_nonneg _ (by omega)) (Int.emod_lt_of_pos _ hm0)
    obtain ⟨ne, cs, y, z, hd, hl, hcs, hz0, hz1⟩ := D
    refine ⟨.ref d, rfl, d, .int z, rfl, dgA hd, _, _, rfl, rfl, .ref d, rfl, d, _, rfl, dpA (z + 1) hd, ?_⟩
    have hd1 : upd H d (.dK [(kC, .ref l), (kS, .int y), (kA, .int (z + 1))]) d = some (.dK [(kC, .ref l), (kS, .int y), (kA, .int (z + 1))]) := upd_same
    have hl1 : upd H d (.dK [(kC, .ref l), (kS, .int y), (kA, .int (z + 1))]) l = some (.lst (cs.map V.int)) := by rw [upd_ne ne.symm]; exact hl
    have fr1 : Fr d l H (upd H d (.dK [(kC, .ref l), (kS, .int y), (kA, .int (z + 1))])) := Fr.d
    generalize upd H d (.dK [(kC, .ref l), (kS, .int y), (kA, .int (z + 1))]) = H1 at hd1 hl1 fr1 ⊢
    refine ⟨.ref d, rfl, d, .ref l, rfl, dgC hd1, Nat.zero_le _, fun p np => ?_⟩
    have s2 := same_upd (o := (HO.lst [])) np
    have h2 : upd H1 p (HO.lst []) p = some (HO.lst []) := upd_same
    generalize upd H1 p (HO.lst []) = H2 at s2 h2 ⊢
    have hd2 := s2 _ _ hd1
    have hl2 := s2 _ _ hl1
    refine ⟨.list (cs.map .int), .list [], .lst (SqL.of hl2) (dpInts cs), .lst (SqL.of h2) .nil, shInts cs, rfl, _, rfl, ?_⟩
    have fr2 : Fr d l H H2 := fr1.trans (Fr.of s2)
    cases cs with
    | nil =>
      refine iteT ?_
      refine ⟨.ref d, rfl, d, .int y, rfl, dgS hd2, .ref d, rfl, d, .int (z + 1), rfl, dgA hd2, _, _, rfl, rfl, _, rfl, fun v v0 v1 => ?_⟩
      refine ⟨.ref d, rfl, d, _, rfl, dpS v hd2, ?_⟩
      refine ⟨.ref d, rfl, d, .int v, rfl, dgS upd_same, _, _, rfl, rfl, (⟨by decide, by decide⟩ : (0 : Int) < 8 ∧ (8 : Int) < 1073741824), .int m, rfl, _, _, rfl, rfl, hm0, ?_⟩
      exact q _ _ ⟨ne, [], v, z + 1, upd_same, by rw [upd_ne ne.symm]; exact hl2, Nat.zero_le _, by omega, by omega⟩ (fr2.trans Fr.d) (Int.emod_nonneg _ (by omega)) (Int.emod_lt_of_pos _ hm0)
    | cons c0 r0 =>
      refine iteF ?_
      obtain ⟨r, c, hrc⟩ : ∃ r c, c0 :: r0 = r ++ [c] := ⟨(c0 :: r0).dropLast, (c0 :: r0).getLast (by simp), (List.dropLast_concat_getLast (by simp)).symm⟩
      rw [hrc] at hl2 hcs
      rw [List.map_append] at hl2
      have lr : r.length ≤ 62 := by rw [List.length_append] at hcs; simp at hcs; omega
      refine ⟨.ref d, rfl, d, .ref l, rfl, dgC hd2, .inl ⟨rfl, _, SqL.of hl2⟩, l, _, .int c, rfl, rfl, hl2, by simp, ?_⟩
      have edl : (r.map V.int ++ [c].map V.int).dropLast = r.map V.int := List.dropLast_concat ..
      rw [edl]
      have hl3 : upd H2 l (.lst (r.map V.int)) l = some (.lst (r.map V.int)) := upd_same
      have hd3 : upd H2 l (.lst (r.map V.int)) d = some (.dK [(kC, .ref l), (kS, .int y), (kA, .int (z + 1))]) := by rw [upd_ne ne]; exact hd2
      have fr3 : Fr d l H (upd H2 l (.lst (r.map V.int))) := fr2.trans Fr.l
      show tSeq _ _ _ _ (upd H2 l (.lst (r.map V.int)))
      generalize upd H2 l (.lst (r.map V.int)) = H3 at hl3 hd3 fr3 ⊢
      have m6 : m ≤ 1000000 := by
        have e6 : (10 : Int) ^ (6 : Int).toNat = 1000000 := by decide
        have h6 : ¬ (10 : Int) ^ (6 : Int).toNat < m := fun k => small (decide_eq_true k)
        rw [e6] at h6
        omega
      refine ⟨.int c, rfl, _, _, rfl, rfl, ⟨by decide, by decide, by decide⟩, _, _, rfl, rfl, _, rfl, ite2 (fun _ => ?_) (fun _ => ?_)⟩
      · refine ⟨.ref d, rfl, d, .ref l, rfl, dgC hd3, .inl ⟨rfl, _, SqL.of hl3⟩, .int c, rfl, .int m, rfl, _, _, rfl, rfl, (⟨hm0, by omega⟩ : 0 < m ∧ m < 1073741824), l, _, _, rfl, rfl, hl3, ?_, ?_⟩
        · rw [List.length_map]
          exact Nat.lt_of_lt_of_le (show r.length < 128 by omega) (by decide)
        refine ⟨.int c, rfl, .int m, rfl, _, _, rfl, rfl, hm0, ?_⟩
        exact q _ _ ⟨ne, r ++ [c / m], y, z + 1, by rw [upd_ne ne]; exact hd3, by rw [upd_same, List.map_append]; rfl, by rw [List.length_append]; show r.length + 1 ≤ 63; omega, by omega, by omega⟩ (fr3.trans Fr.l) (Int.emod_nonneg _ (by omega)) (Int.emod_lt_of_pos _ hm0)
      · refine ⟨.int c, rfl, .ref d, rfl, d, .int (z + 1), rfl, dgA hd3, _, _, rfl, rfl, _, rfl, fun v v0 v1 => ?_⟩
        refine ⟨_, _, rfl, rfl, (⟨by decide, by decide⟩ : (0 : Int) < 8 ∧ (8 : Int) < 1073741824), .int m, rfl, _, _, rfl, rfl, hm0, ?_⟩
        exact q _ _ ⟨ne, r, y, z + 1, hd3, hl3, by omega, by omega, by omega⟩ fr3 (Int.emod_nonneg _ (by omega)) (Int.emod_lt_of_pos _ hm0)
theorem ok_draw4 (T : Tx K mg) : FnOk P w K mg base CX0 6 T.f_draw T.fd_draw ["_law_deck_here", "_law_most"] (sp_drawN K 1000000000000000000000000000000 16) := by
  refine T.F_draw.ok sc_draw (fun vs H Q E h => ?_) (fun cdv A outer s H vs Q E hr h => ?_)
  · obtain ⟨d, l, m, n, rfl, _⟩ := h
    rfl
  · obtain ⟨d, l, m, n, rfl, D, hn, hm0, hm1, q⟩ := h
    refine ⟨_, (pss_cons (ps_if (pt_cmpR op_gt (pv 1) (pe_op op_pow pe_int pe_int) (nomark _)) (pss_cons (ps_set (i := 2) sc_draw.nd rfl (by first | exact .inl rfl | exact .inr rfl) (pe_call (ok_draw3 T) (hr.mono (by decide)) (by rfl) T.g_draw T.F_draw.kp T.b_draw .nil pass0 (pa_cons (pv 0) (pa_cons (pe_op op_pow pe_int pe_int) pa_nil)))) (pss_one (ps_ret (pe_op op_mod (pe_op op_add (pv 2) (pe_op op_mul (pe_op op_pow pe_int pe_int) (pe_call (ok_draw3 T) (hr.mono (by decide)) (by rfl) T.g_draw T.F_draw.kp T.b_draw .nil pass0 (pa_cons (pv 0) (pa_cons (pe_op op_add (pe_op op_fdiv (pe_op op_sub (pv 1) pe_int) (pe_op op_pow pe_int pe_int)) pe_int) pa_nil))))) (pv 1))))) pss_nil) (pss_cons (ps_dput (hu_of hr) (pv 0) pe_str (pe_op op_add (pe_dget (hu_of hr) (pv 0) pe_str (fun _ _ => rfl)) pe_int) rfl) (pss_cons (ps_if (pt_cmpR (op_eqD hr.units) (pe_dget (hu_of hr) (pv 0) pe_str (fun _ _ => rfl)) (pe_lst pa_nil) (nomark _)) (pss_cons (ps_dput (hu_of hr) (pv 0) pe_str (pe_call (ok_mixed T) (hr.mono (by decide)) (by rfl) T.g_mixed T.F_mixed.kp T.b_mixed .nil pass0 (pa_cons (pe_op op_add (pe_dget (hu_of hr) (pv 0) pe_str (fun _ _ => rfl)) (pe_dget (hu_of hr) (pv 0) pe_str (fun _ _ => rfl))) pa_nil)) rfl) (pss_one (ps_ret (pe_op op_mod (pe_op op_fdiv (pe_dget (hu_of hr) (pv 0) pe_str (fun _ _ => rfl)) pe_int) (pv 1))))) pss_nil) (pss_cons (ps_set (i := 3) sc_draw.nd rfl (by first | exact .inl rfl | exact .inr rfl) (pe_bm0 PySem.F.plainAttrs_list PySem.F.slot_list_pop PySem.F.type_list_pop mt_pop (pe_dget (hu_of hr) (pv 0) pe_str (fun _ _ => rfl)))) (pss_cons (ps_if (pt_cmpR op_ge (pv 3) (pe_op op_pow pe_int pe_int) (nomark _)) (pss_cons (ps_expr (pe_bm PySem.F.plainAttrs_list PySem.F.slot_list_append PySem.F.type_list_append mt_append (pe_dget (hu_of hr) (pv 0) pe_str (fun _ _ => rfl)) (pa_cons (pe_op op_fdiv (pv 3) (pv 1)) pa_nil))) (pss_one (ps_ret (pe_op op_mod (pv 3) (pv 1))))) pss_nil) (pss_one (ps_ret (pe_op op_mod (pe_op op_fdiv (pe_call (ok_mixed T) (hr.mono (by decide)) (by rfl) T.g_mixed T.F_mixed.kp T.b_mixed .nil pass0 (pa_cons (pe_op op_add (pv 3) (pe_dget (hu_of hr) (pv 0) pe_str (fun _ _ => rfl))) pa_nil)) pe_int) (pv 1))))))))), ?_⟩
    refine ⟨.int m, rfl, _, _, rfl, rfl, ⟨by decide, by decide, by decide⟩, _, _, rfl, rfl, _, rfl, ite2 (fun z => ?_) (fun small => ?_)⟩
    · have z' : (10 : Int) ^ (6 : Int).toNat < m := of_decide_eq_true z
      have e6 : (10 : Int) ^ (6 : Int).toNat = 1000000 := by decide
      rw [e6] at z'
      have hq : (m - 1) / (10 : Int) ^ (6 : Int).toNat + 1 ≤ 1000000000000000000000000 ∧ 0 < (m - 1) / (10 : Int) ^ (6 : Int).toNat + 1 := by rw [e6]; omega
      refine ⟨.ref d, rfl, _, _, rfl, rfl, ⟨by decide, by decide, by decide⟩, d, l, _, n, rfl, D, by omega, by decide, by decide, fun H1 low D1 fr1 l0 l1 => ?_⟩
      refine ⟨.int low, rfl, _, _, rfl, rfl, ⟨by decide, by decide, by decide⟩, .ref d, rfl, .int m, rfl, _, _, rfl, rfl, _, _, rfl, rfl, ⟨by decide, by decide, by decide⟩, _, _, rfl, rfl, (⟨by decide, by decide⟩ : (0 : Int) < 10 ^ (6 : Int).toNat ∧ (10 : Int) ^ (6 : Int).toNat < 1073741824), _, _, rfl, rfl, d, l, _, _, rfl, D1, ?_, hq.2, hq.1, fun H2 v D2 fr2 v0 v1 => ⟨_, _, rfl, rfl, .inl ⟨by decide, by decide⟩, _, _, rfl, rfl, .int m, rfl, _, _, rfl, rfl, hm0, ?_⟩⟩
      · omega
      exact q _ _ (D2.mono (by omega)) (fr1.trans fr2) (Int.emod_nonneg _ (by omega)) (Int.emod_lt_of_pos _ hm0)
    obtain ⟨ne, cs, y, z, hd, hl, hcs, hz0, hz1⟩ := D
    refine ⟨.ref d, rfl, d, .int z, rfl, dgA hd, _, _, rfl, rfl, .ref d, rfl, d, _, rfl, dpA (z + 1) hd, ?_⟩
    have hd1 : upd H d (.dK [(kC, .ref l), (kS, .int y), (kA, .int (z + 1))]) d = some (.dK [(kC, .ref l), (kS, .int y), (kA, .int (z + 1))]) := upd_same
    have hl1 : upd H d (.dK [(kC, .ref l), (kS, .int y), (kA, .int (z + 1))]) l = some (.lst (cs.map V.int)) := by rw [upd_ne ne.symm]; exact hl
    have fr1 : Fr d l H (upd H d (.dK [(kC, .ref l), (kS, .int y), (kA, .int (z + 1))])) := Fr.d
    generalize upd H d (.dK [(kC, .ref l), (kS, .int y), (kA, .int (z + 1))]) = H1 at hd1 hl1 fr1 ⊢
    refine ⟨.ref d, rfl, d, .ref l, rfl, dgC hd1, Nat.zero_le _, fun p np => ?_⟩
    have s2 := same_upd (o := (HO.lst [])) np
    have h2 : upd H1 p (HO.lst []) p = some (HO.lst []) := upd_same
    generalize upd H1 p (HO.lst []) = H2 at s2 h2 ⊢
    have hd2 := s2 _ _ hd1
    have hl2 := s2 _ _ hl1
    refine ⟨.list (cs.map .int), .list [], .lst (SqL.of hl2) (dpInts cs), .lst (SqL.of h2) .nil, shInts cs, rfl, _, rfl, ?_⟩
    have fr2 : Fr d l H H2 := fr1.trans (Fr.of s2)
    cases cs with
    | nil =>
      refine iteT ?_
      refine ⟨.ref d, rfl, d, .int y, rfl, dgS hd2, .ref d, rfl, d, .int (z + 1), rfl, dgA hd2, _, _, rfl, rfl, _, rfl, fun v v0 v1 => ?_⟩
      refine ⟨.ref d, rfl, d, _, rfl, dpS v hd2, ?_⟩
      refine ⟨.ref d, rfl, d, .int v, rfl, dgS upd_same, _, _, rfl, rfl, (⟨by decide, by decide⟩ : (0 : Int) < 8 ∧ (8 : Int) < 1073741824), .int m, rfl, _, _, rfl, rfl, hm0, ?_⟩
      exact q _ _ ⟨ne, [], v, z + 1, upd_same, by rw [upd_ne ne.symm]; exact hl2, Nat.zero_le _, by omega, by omega⟩ (fr2.trans Fr.d) (Int.emod_nonneg _ (by omega)) (Int.emod_lt_of_pos _ hm0)
    | cons c0 r0 =>
      refine iteF ?_
      obtain ⟨r, c, hrc⟩ : ∃ r c, c0 :: r0 = r ++ [c] := ⟨(c0 :: r0).dropLast, (c0 :: r0).getLast (by simp), (List.dropLast_concat_getLast (by simp)).symm⟩
      rw [hrc] at hl2 hcs
      rw [List.map_append] at hl2
      have lr : r.length ≤ 62 := by rw [List.length_append] at hcs; simp at hcs; omega
      refine ⟨.ref d, rfl, d, .ref l, rfl, dgC hd2, .inl ⟨rfl, _, SqL.of hl2⟩, l, _, .int c, rfl, rfl, hl2, by simp, ?_⟩
      have edl : (r.map V.int ++ [c].map V.int).dropLast = r.map V.int := List.dropLast_concat ..
      rw [edl]
      have hl3 : upd H2 l (.lst (r.map V.int)) l = some (.lst (r.map V.int)) := upd_same
      have hd3 : upd H2 l (.lst (r.map V.int)) d = some (.dK [(kC, .ref l), (kS, .int y), (kA, .int (z + 1))]) := by rw [upd_ne ne]; exact hd2
      have fr3 : Fr d l H (upd H2 l (.lst (r.map V.int))) := fr2.trans Fr.l
      show tSeq _ _ _ _ (upd H2 l (.lst (r.map V.int)))
      generalize upd H2 l (.lst (r.map V.int)) = H3 at hl3 hd3 fr3 ⊢
      have m6 : m ≤ 1000000 := by
        have e6 : (10 : Int) ^ (6 : Int).toNat = 1000000 := by decide
        have h6 : ¬ (10 : Int) ^ (6 : Int).toNat < m := fun k => small (decide_eq_true k)
        rw [e6] at h6
        omega
      refine ⟨.int c, rfl, _, _, rfl, rfl, ⟨by decide, by decide, by decide⟩, _, _, rfl, rfl, _, rfl, ite2 (fun _ => ?_) (fun _ => ?_)⟩
      · refine ⟨.ref d, rfl, d, .ref l, rfl, dgC hd3, .inl ⟨rfl, _, SqL.of hl3⟩, .int c, rfl, .int m, rfl, _, _, rfl, rfl, (⟨hm0, by omega⟩ : 0 < m ∧ m < 1073741824), l, _, _, rfl, rfl, hl3, ?_, ?_⟩
        · rw [List.length_map]
          exact Nat.lt_of_lt_of_le (show r.length < 128 by omega) (by decide)
        refine ⟨.int c, rfl, .int m, rfl, _, _, rfl, rfl, hm0, ?_⟩
        exact q _ _ ⟨ne, r ++ [c / m], y, z + 1, by rw [upd_ne ne]; exact hd3, by rw [upd_same, List.map_append]; rfl, by rw [List.length_append]; show r.length + 1 ≤ 63; omega, by omega, by omega⟩ (fr3.trans Fr.l) (Int.emod_nonneg _ (by omega)) (Int.emod_lt_of_pos _ hm0)
      · refine ⟨.int c, rfl, .ref d, rfl, d, .int (z + 1), rfl, dgA hd3, _, _, rfl, rfl, _, rfl, fun v v0 v1 => ?_⟩
        refine ⟨_, _, rfl, rfl, (⟨by decide, by decide⟩ : (0 : Int) < 8 ∧ (8 : Int) < 1073741824), .int m, rfl, _, _, rfl, rfl, hm0, ?_⟩
        exact q _ _ ⟨ne, r, y, z + 1, hd3, hl3, by omega, by omega, by omega⟩ fr3 (Int.emod_nonneg _ (by omega)) (Int.emod_lt_of_pos _ hm0)
theorem ok_draw5 (T : Tx K mg) : FnOk P w K mg base CX0 7 T.f_draw T.fd_draw ["_law_deck_here", "_law_most"] (sp_drawN K 1000000000000000000000000000000000000 32) := by
  refine T.F_draw.ok sc_draw (fun vs H Q E h => ?_) (fun cdv A outer s H vs Q E hr h => ?_)
  · obtain ⟨d, l, m, n, rfl, _⟩ := h
    rfl
  · obtain ⟨d, l, m, n, rfl, D, hn, hm0, hm1, q⟩ := h
    refine ⟨_, (pss_cons (ps_if (pt_cmpR op_gt (pv 1) (pe_op op_pow pe_int pe_int) (nomark _)) (pss_cons (ps_set (i := 2) sc_draw.nd rfl (by first | exact .inl rfl | exact .inr rfl) (pe_call (ok_draw4 T) (hr.mono (by decide)) (by rfl) T.g_draw T.F_draw.kp T.b_draw .nil pass0 (pa_cons (pv 0) (pa_cons (pe_op op_pow pe_int pe_int) pa_nil)))) (pss_one (ps_ret (pe_op op_mod (pe_op op_add (pv 2) (pe_op op_mul (pe_op op_pow pe_int pe_int) (pe_call (ok_draw4 T) (hr.mono (by decide)) (by rfl) T.g_draw T.F_draw.kp T.b_draw .nil pass0 (pa_cons (pv 0) (pa_cons (pe_op op_add (pe_op op_fdiv (pe_op op_sub (pv 1) pe_int) (pe_op op_pow pe_int pe_int)) pe_int) pa_nil))))) (pv 1))))) pss_nil) (pss_cons (ps_dput (hu_of hr) (pv 0) pe_str (pe_op op_add (pe_dget (hu_of hr) (pv 0) pe_str (fun _ _ => rfl)) pe_int) rfl) (pss_cons (ps_if (pt_cmpR (op_eqD hr.units) (pe_dget (hu_of hr) (pv 0) pe_str (fun _ _ => rfl)) (pe_lst pa_nil) (nomark _)) (pss_cons (ps_dput (hu_of hr) (pv 0) pe_str (pe_call (ok_mixed T) (hr.mono (by decide)) (by rfl) T.g_mixed T.F_mixed.kp T.b_mixed .nil pass0 (pa_cons (pe_op op_add (pe_dget (hu_of hr) (pv 0) pe_str (fun _ _ => rfl)) (pe_dget (hu_of hr) (pv 0) pe_str (fun _ _ => rfl))) pa_nil)) rfl) (pss_one (ps_ret (pe_op op_mod (pe_op op_fdiv (pe_dget (hu_of hr) (pv 0) pe_str (fun _ _ => rfl)) pe_int) (pv 1))))) pss_nil) (pss_cons (ps_set (i := 3) sc_draw.nd rfl (by first | exact .inl rfl | exact .inr rfl) (pe_bm0 PySem.F.plainAttrs_list PySem.F.slot_list_pop PySem.F.type_list_pop mt_pop (pe_dget (hu_of hr) (pv 0) pe_str (fun _ _ => rfl)))) (pss_cons (ps_if (pt_cmpR op_ge (pv 3) (pe_op op_pow pe_int pe_int) (nomark _)) (pss_cons (ps_expr (pe_bm PySem.F.plainAttrs_list PySem.F.slot_list_append PySem.F.type_list_append mt_append (pe_dget (hu_of hr) (pv 0) pe_str (fun _ _ => rfl)) (pa_cons (pe_op op_fdiv (pv 3) (pv 1)) pa_nil))) (pss_one (ps_ret (pe_op op_mod (pv 3) (pv 1))))) pss_nil) (pss_one (ps_ret (pe_op op_mod (pe_op op_fdiv (pe_call (ok_mixed T) (hr.mono (by decide)) (by rfl) T.g_mixed T.F_mixed.kp T.b_mixed .nil pass0 (pa_cons (pe_op op_add (pv 3) (pe_dget (hu_of hr) (pv 0) pe_str (fun _ _ => rfl))) pa_nil)) pe_int) (pv 1))))))))), ?_⟩
    refine ⟨.int m, rfl, _, _, rfl, rfl, ⟨by decide, by decide, by decide⟩, _, _, rfl, rfl, _, rfl, ite2 (fun z => ?_) (fun small => ?_)⟩
    · have z' : (10 : Int) ^ (6 : Int).toNat < m := of_decide_eq_true z
      have e6 : (10 : Int) ^ (6 : Int).toNat = 1000000 := by decide
      rw [e6] at z'
      have hq : (m - 1) / (10 : Int) ^ (6 : Int).toNat + 1 ≤ 1000000000000000000000000000000 ∧ 0 < (m - 1) / (10 : Int) ^ (6 : Int).toNat + 1 := by rw [e6]; omega
      refine ⟨.ref d, rfl, _, _, rfl, rfl, ⟨by decide, by decide, by decide⟩, d, l, _, n, rfl, D, by omega, by decide, by decide, fun H1 low D1 fr1 l0 l1 => ?_⟩
      refine ⟨.int low, rfl, _, _, rfl, rfl, ⟨by decide, by decide, by decide⟩, .ref d, rfl, .int m, rfl, _, _, rfl, rfl, _, _, rfl, rfl, ⟨by decide, by decide, by decide⟩, _, _, rfl, rfl, (⟨by decide, by decide⟩ : (0 : Int) < 10 ^ (6 : Int).toNat ∧ (10 : Int) ^ (6 : Int).toNat < 1073741824), _, _, rfl, rfl, d, l, _, _, rfl, D1, ?_, hq.2, hq.1, fun H2 v D2 fr2 v0 v1 => ⟨_, _, rfl, rfl, .inl ⟨by decide, by decide⟩, _, _, rfl, rfl, .int m, rfl, _, _, rfl, rfl, hm0, ?_⟩⟩
      · omega
      exact q _ _ (D2.mono (by omega)) (fr1.trans fr2) (Int.emod_nonneg _ (by omega)) (Int.emod_lt_of_pos _ hm0)
    obtain ⟨ne, cs, y, z, hd, hl, hcs, hz0, hz1⟩ := D
    refine ⟨.ref d, rfl, d, .int z, rfl, dgA hd, _, _, rfl, rfl, .ref d, rfl, d, _, rfl, dpA (z + 1) hd, ?_⟩
    have hd1 : upd H d (.dK [(kC, .ref l), (kS, .int y), (kA, .int (z + 1))]) d = some (.dK [(kC, .ref l), (kS, .int y), (kA, .int (z + 1))]) := upd_same
    have hl1 : upd H d (.dK [(kC, .ref l), (kS, .int y), (kA, .int (z + 1))]) l = some (.lst (cs.map V.int)) := by rw [upd_ne ne.symm]; exact hl
    have fr1 : Fr d l H (upd H d (.dK [(kC, .ref l), (kS, .int y), (kA, .int (z + 1))])) := Fr.d
    generalize upd H d (.dK [(kC, .ref l), (kS, .int y), (kA, .int (z + 1))]) = H1 at hd1 hl1 fr1 ⊢
    refine ⟨.ref d, rfl, d, .ref l, rfl, dgC hd1, Nat.zero_le _, fun p np => ?_⟩
    have s2 := same_upd (o := (HO.lst [])) np
    have h2 : upd H1 p (HO.lst []) p = some (HO.lst []) := upd_same
    generalize upd H1 p (HO.lst []) = H2 at s2 h2 ⊢
    have hd2 := s2 _ _ hd1
    have hl2 := s2 _ _ hl1
    refine ⟨.list (cs.map .int), .list [], .lst (SqL.of hl2) (dpInts cs), .lst (SqL.of h2) .nil, shInts cs, rfl, _, rfl, ?_⟩
    have fr2 : Fr d l H H2 := fr1.trans (Fr.of s2)
    cases cs with
    | nil =>
      refine iteT ?_
      refine ⟨.ref d, rfl, d, .int y, rfl, dgS hd2, .ref d, rfl, d, .int (z + 1), rfl, dgA hd2, _, _, rfl, rfl, _, rfl, fun v v0 v1 => ?_⟩
      refine ⟨.ref d, rfl, d, _, rfl, dpS v hd2, ?_⟩
      refine ⟨.ref d, rfl, d, .int v, rfl, dgS upd_same, _, _, rfl, rfl, (⟨by decide, by decide⟩ : (0 : Int) < 8 ∧ (8 : Int) < 1073741824), .int m, rfl, _, _, rfl, rfl, hm0, ?_⟩
      exact q _ _ ⟨ne, [], v, z + 1, upd_same, by rw [upd_ne ne.symm]; exact hl2, Nat.zero_le _, by omega, by omega⟩ (fr2.trans Fr.d) (Int.emod_nonneg _ (by omega)) (Int.emod_lt_of_pos _ hm0)
    | cons c0 r0 =>
      refine iteF ?_
      obtain ⟨r, c, hrc⟩ : ∃ r c, c0 :: r0 = r ++ [c] := ⟨(c0 :: r0).dropLast, (c0 :: r0).getLast (by simp), (List.dropLast_concat_getLast (by simp)).symm⟩
      rw [hrc] at hl2 hcs
      rw [List.map_append] at hl2
      have lr : r.length ≤ 62 := by rw [List.length_append] at hcs; simp at hcs; omega
      refine ⟨.ref d, rfl, d, .ref l, rfl, dgC hd2, .inl ⟨rfl, _, SqL.of hl2⟩, l, _, .int c, rfl, rfl, hl2, by simp, ?_⟩
      have edl : (r.map V.int ++ [c].map V.int).dropLast = r.map V.int := List.dropLast_concat ..
      rw [edl]
      have hl3 : upd H2 l (.lst (r.map V.int)) l = some (.lst (r.map V.int)) := upd_same
      have hd3 : upd H2 l (.lst (r.map V.int)) d = some (.dK [(kC, .ref l), (kS, .int y), (kA, .int (z + 1))]) := by rw [upd_ne ne]; exact hd2
      have fr3 : Fr d l H (upd H2 l (.lst (r.map V.int))) := fr2.trans Fr.l
      show tSeq _ _ _ _ (upd H2 l (.lst (r.map V.int)))
      generalize upd H2 l (.lst (r.map V.int)) = H3 at hl3 hd3 fr3 ⊢
      have m6 : m ≤ 1000000 := by
        have e6 : (10 : Int) ^ (6 : Int).toNat = 1000000 := by decide
        have h6 : ¬ (10 : Int) ^ (6 : Int).toNat < m := fun k => small (decide_eq_true k)
        rw [e6] at h6
        omega
      refine ⟨.int c, rfl, _, _, rfl, rfl, ⟨by decide, by decide, by decide⟩, _, _, rfl, rfl, _, rfl, ite2 (fun _ => ?_) (fun _ => ?_)⟩
      · refine ⟨.ref d, rfl, d, .ref l, rfl, dgC hd3, .inl ⟨rfl, _, SqL.of hl3⟩, .int c, rfl, .int m, rfl, _, _, rfl, rfl, (⟨hm0, by omega⟩ : 0 < m ∧ m < 1073741824), l, _, _, rfl, rfl, hl3, ?_, ?_⟩
        · rw [List.length_map]
          exact Nat.lt_of_lt_of_le (show r.length < 128 by omega) (by decide)
        refine ⟨.int c, rfl, .int m, rfl, _, _, rfl, rfl, hm0, ?_⟩
        exact q _ _ ⟨ne, r ++ [c / m], y, z + 1, by rw [upd_ne ne]; exact hd3, by rw [upd_same, List.map_append]; rfl, by rw [List.length_append]; show r.length + 1 ≤ 63; omega, by omega, by omega⟩ (fr3.trans Fr.l) (Int.emod_nonneg _ (by omega)) (Int.emod_lt_of_pos _ hm0)
      · refine ⟨.int c, rfl, .ref d, rfl, d, .int (z + 1), rfl, dgA hd3, _, _, rfl, rfl, _, rfl, fun v v0 v1 => ?_⟩
        refine ⟨_, _, rfl, rfl, (⟨by decide, by decide⟩ : (0 : Int) < 8 ∧ (8 : Int) < 1073741824), .int m, rfl, _, _, rfl, rfl, hm0, ?_⟩
        exact q _ _ ⟨ne, r, y, z + 1, hd3, hl3, by omega, by omega, by omega⟩ fr3 (Int.emod_nonneg _ (by omega)) (Int.emod_lt_of_pos _ hm0)
def sp_draw (K : PySem.W.Frag) : Sp := sp_drawN K 1000000000000000000000000000000000000 32
theorem ok_draw (T : Tx K mg) : FnOk P w K mg base CX0 7 T.f_draw T.fd_draw ["_law_deck_here", "_law_most"] (sp_draw K) := ok_draw5 T

end
end Gk

set_option Elab.async false
set_option linter.all false
set_option maxRecDepth 100000
set_option maxHeartbeats 1000000
set_option pp.maxSteps 1500
set_option pp.deepTerms false
namespace Gk
open PySem PySem.Spec PyProof.Rows L2
/-! ### a wave told by its changes -/
def cnt (ts : List Int) (t : Int) : Nat := (ts.filter fun x => decide (x ≤ t)).length
theorem cnt_app (a b : List Int) (t : Int) : cnt (a ++ b) t = cnt a t + cnt b t := by unfold cnt; rw [List.filter_append, List.length_append]
theorem cnt_le (ts : List Int) (t : Int) : cnt ts t ≤ ts.length := List.length_filter_le ..
theorem cnt_all {ts : List Int} {t : Int} (h : ∀ x ∈ ts, x ≤ t) : cnt ts t = ts.length := by
  unfold cnt
  rw [List.filter_eq_self.mpr fun x hx => decide_eq_true (h x hx)]
theorem cnt_no {ts : List Int} {t : Int} (h : ∀ x ∈ ts, t < x) : cnt ts t = 0 := by
  unfold cnt
  rw [List.length_eq_zero_iff, List.filter_eq_nil_iff]
  intro x hx k
  have := h x hx
  have := of_decide_eq_true k
  omega
theorem cnt_one (x t : Int) : cnt [x] t = if x ≤ t then 1 else 0 := by
  unfold cnt
  by_cases h : x ≤ t
  · rw [if_pos h, List.filter_cons, if_pos (decide_eq_true h)]
    rfl
  · rw [if_neg h, List.filter_cons, if_neg (fun k => h (of_decide_eq_true k))]
    rfl
def stepT (f : Int → Int) (acc : List Int × Int) (t : Int) : List Int × Int := if f t ≠ acc.2 then (acc.1 ++ [t], f t) else (acc.1, f t)
structure TInv (f : Int → Int) (ms : List Int) (i : Nat) (acc : List Int × Int) : Prop where
  c : ∀ t, (∀ x ∈ ms.drop i, t < x) → (f (-1) + (cnt acc.1 t : Int)) % 2 = f t
  here : acc.2 = (f (-1) + (acc.1.length : Int)) % 2
  sub : acc.1.Sublist (ms.take i)
theorem tinv0 {f : Int → Int} {ms : List Int} (h01 : ∀ t, f t = 0 ∨ f t = 1) (h0 : ∀ x ∈ ms, 0 ≤ x) (con : ∀ s t, s ≤ t → (∀ x ∈ ms, ¬ (s < x ∧ x ≤ t)) → f s = f t) : TInv f ms 0 ([], f (-1)) := by
  refine ⟨fun t ht => ?_, ?_, List.nil_sublist _⟩
  · have e : f (-1) = f t := by
      by_cases z : t ≤ -1
      · exact (con t (-1) z fun x hx k => by have := h0 x hx; omega).symm
      · exact con (-1) t (by omega) fun x hx k => by have := ht x hx; omega
    show (f (-1) + 0) % 2 = f t
    rw [e]
    rcases h01 t with k | k <;> rw [k] <;> rfl
  · show f (-1) = (f (-1) + 0) % 2
    rcases h01 (-1) with k | k <;> rw [k] <;> rfl
theorem tinv_step {f : Int → Int} {ms : List Int} {i : Nat} {acc : List Int × Int} {u : Int} (h01 : ∀ t, f t = 0 ∨ f t = 1) (rise : ms.Pairwise (· < ·)) (con : ∀ s t, s ≤ t → (∀ x ∈ ms, ¬ (s < x ∧ x ≤ t)) → f s = f t) (I : TInv f ms i acc) (hu : ms[i]? = some u) : TInv f ms (i + 1) (stepT f acc u) := by
  have hi : i < ms.length := (List.getElem?_eq_some_iff.mp hu).1
  have ed : ms.drop i = u :: ms.drop (i + 1) := by
    rw [List.drop_eq_getElem_cons hi]
    congr 1
    rw [List.getElem?_eq_getElem hi] at hu
    exact Option.some.inj hu
  have et : ms.take (i + 1) = ms.take i ++ [u] := by rw [List.take_add_one, hu]; rfl
  have esplit : ms = ms.take i ++ (u :: ms.drop (i + 1)) := by rw [← ed, List.take_append_drop]
  have below : ∀ x ∈ ms.take i, x < u := fun x hx => by
    rw [esplit] at rise
    exact (List.pairwise_append.mp rise).2.2 x hx u List.mem_cons_self
  have above : ∀ t, u ≤ t → (∀ x ∈ ms.drop (i + 1), t < x) → f u = f t := fun t h1 h2 => con u t h1 fun x hx k => by
    rw [esplit] at hx
    rcases List.mem_append.mp hx with q | q
    · have := below x q
      omega
    · rcases List.mem_cons.mp q with q | q
      · omega
      · have := h2 x q
        omega
  have fu := h01 u
  have f1 := h01 (-1)
  have hh := I.here
  unfold stepT
  by_cases z : f u ≠ acc.2
  · rw [if_pos z]
    refine ⟨fun t ht => ?_, ?_, ?_⟩
    · show (f (-1) + (cnt (acc.1 ++ [u]) t : Int)) % 2 = f t
      rw [cnt_app, cnt_one]
      by_cases y : u ≤ t
      · rw [if_pos y, cnt_all (ts := acc.1) fun x hx => by have := below x (I.sub.subset hx); omega]
        have e := above t y ht
        rw [← e]
        push_cast
        rcases fu with k | k <;> rw [k] at z ⊢ <;> omega
      · rw [if_neg y]
        have := I.c t fun x hx => by
          rw [ed] at hx
          rcases List.mem_cons.mp hx with q | q
          · omega
          · exact ht x q
        rw [Nat.add_zero]
        exact this
    · show f u = (f (-1) + ((acc.1 ++ [u]).length : Int)) % 2
      rw [List.length_append]
      push_cast
      have : (([u] : List Int).length : Int) = 1 := rfl
      rcases fu with k | k <;> rw [k] at z ⊢ <;> omega
    · rw [et]
      exact I.sub.append (List.Sublist.refl _)
  · rw [if_neg z]
    have z : f u = acc.2 := by omega
    refine ⟨fun t ht => ?_, ?_, ?_⟩
    · show (f (-1) + (cnt acc.1 t : Int)) % 2 = f t
      by_cases y : u ≤ t
      · rw [cnt_all (ts := acc.1) fun x hx => by have := below x (I.sub.subset hx); omega]
        rw [← above t y ht, z, hh]
      · exact I.c t fun x hx => by
          rw [ed] at hx
          rcases List.mem_cons.mp hx with q | q
          · omega
          · exact ht x q
    · show f u = _
      rw [z, hh]
    · rw [et]
      exact I.sub.trans (List.sublist_append_left _ _)

/-! ### waves: a first worth and the rising times of the changes -/
def wv (x : Int × List Int) (t : Int) : Int := (x.1 + (cnt x.2 t : Int)) % 2
structure Wv (x : Int × List Int) (f : Int → Int) : Prop where
  at_ : ∀ t, wv x t = f t
  lo : ∀ t ∈ x.2, 0 ≤ t
  rise : x.2.Pairwise (· < ·)
  f01 : x.1 = 0 ∨ x.1 = 1
theorem cnt_cons (a : Int) (l : List Int) (t : Int) : cnt (a :: l) t = (if a ≤ t then 1 else 0) + cnt l t := by
  rw [show a :: l = [a] ++ l from rfl, cnt_app, cnt_one]
theorem cnt_step : ∀ (l : List Int) (t : Int), l.Pairwise (· < ·) → cnt l t = cnt l (t - 1) + if t ∈ l then 1 else 0
  | [], t, _ => by simp [cnt]
  | a :: l, t, h => by
    obtain ⟨h1, h2⟩ := List.pairwise_cons.mp h
    rw [cnt_cons, cnt_cons, cnt_step l t h2]
    by_cases e : t = a
    · subst e
      have no : t ∉ l := fun z => by have := h1 t z; omega
      rw [if_pos (Int.le_refl _), if_neg no, if_neg (show ¬ t ≤ t - 1 by omega), if_pos (show t ∈ t :: l from List.mem_cons_self)]
      omega
    · have iff : (if t ∈ a :: l then 1 else 0) = (if t ∈ l then 1 else 0) := by simp [List.mem_cons, e]
      rw [iff]
      by_cases z : a ≤ t
      · rw [if_pos z, if_pos (show a ≤ t - 1 by omega)]
        omega
      · rw [if_neg z, if_neg (show ¬ a ≤ t - 1 by omega)]
        omega
theorem wv01 (x : Int × List Int) (t : Int) : wv x t = 0 ∨ wv x t = 1 := by unfold wv; omega
theorem Wv.first {x : Int × List Int} {f : Int → Int} (W : Wv x f) : x.1 = f (-1) := by
  rw [← W.at_ (-1)]
  unfold wv
  rw [cnt_no fun t ht => by have := W.lo t ht; omega]
  have := W.f01
  show x.1 = (x.1 + (0 : Int)) % 2
  omega
theorem Wv.mem {x : Int × List Int} {f : Int → Int} (W : Wv x f) (t : Int) : t ∈ x.2 ↔ f t ≠ f (t - 1) := by
  rw [← W.at_ t, ← W.at_ (t - 1)]
  unfold wv
  rw [cnt_step x.2 t W.rise]
  by_cases z : t ∈ x.2
  · rw [if_pos z]
    refine ⟨fun _ => ?_, fun _ => z⟩
    push_cast
    omega
  · rw [if_neg z]
    refine ⟨fun k => absurd k z, fun k => ?_⟩
    exact absurd rfl k
theorem rise_ext : ∀ {a b : List Int}, a.Pairwise (· < ·) → b.Pairwise (· < ·) → (∀ x, x ∈ a ↔ x ∈ b) → a = b
  | [], [], _, _, _ => rfl
  | [], y :: _, _, _, h => by have := (h y).mpr List.mem_cons_self; cases this
  | x :: _, [], _, _, h => by have := (h x).mp List.mem_cons_self; cases this
  | x :: r, y :: s, ha, hb, h => by
    obtain ⟨a1, a2⟩ := List.pairwise_cons.mp ha
    obtain ⟨b1, b2⟩ := List.pairwise_cons.mp hb
    have e : x = y := by
      rcases List.mem_cons.mp ((h x).mp List.mem_cons_self) with z | z
      · exact z
      · rcases List.mem_cons.mp ((h y).mpr List.mem_cons_self) with z' | z'
        · exact z'.symm
        · have := a1 y z'
          have := b1 x z
          omega
    subst e
    rw [rise_ext a2 b2 fun u => ⟨fun hu => ?_, fun hu => ?_⟩]
    · rcases List.mem_cons.mp ((h u).mp (List.mem_cons_of_mem _ hu)) with z | z
      · have := a1 u hu
        omega
      · exact z
    · rcases List.mem_cons.mp ((h u).mpr (List.mem_cons_of_mem _ hu)) with z | z
      · have := b1 u hu
        omega
      · exact z
theorem Wv.uniq {x y : Int × List Int} {f : Int → Int} (W : Wv x f) (W' : Wv y f) : x = y := by
  obtain ⟨a, b⟩ := x
  obtain ⟨c, d⟩ := y
  have e1 : a = c := W.first.trans W'.first.symm
  have e2 : b = d := rise_ext W.rise W'.rise fun t => (W.mem t).trans (W'.mem t).symm
  rw [e1, e2]
theorem few_len : ∀ {l : List Int} {lo : Int} {n : Nat}, l.Pairwise (· < ·) → (∀ x ∈ l, lo ≤ x ∧ x < lo + n) → l.length ≤ n
  | [], _, _, _, _ => Nat.zero_le _
  | a :: l, lo, n, h, b => by
    obtain ⟨h1, h2⟩ := List.pairwise_cons.mp h
    have ha := b a List.mem_cons_self
    obtain ⟨k, rfl⟩ : ∃ k, n = k + 1 := ⟨n - 1, by omega⟩
    have := few_len (l := l) (lo := lo + 1) (n := k) h2 fun x hx => by
      have := h1 x hx
      have := (b x (List.mem_cons_of_mem _ hx)).2
      push_cast at this
      omega
    rw [List.length_cons]
    omega
theorem cnt_map (d : Int) (l : List Int) (t : Int) : cnt (l.map fun x => x + d) t = cnt l (t - d) := by
  induction l with
  | nil => rfl
  | cons a r ih =>
    rw [List.map_cons, cnt_cons, cnt_cons, ih]
    by_cases z : a ≤ t - d
    · rw [if_pos z, if_pos (by omega)]
    · rw [if_neg z, if_neg (by omega)]
def shiftW (x : Int × List Int) (d : Int) : Int × List Int := (x.1, x.2.map fun t => t + d)
theorem Wv.shift {x : Int × List Int} {f : Int → Int} (W : Wv x f) {d : Int} (h : 0 ≤ d) : Wv (shiftW x d) (fun t => f (t - d)) := by
  refine ⟨fun t => ?_, fun t ht => ?_, ?_, W.f01⟩
  · rw [← W.at_ (t - d)]
    unfold wv shiftW
    rw [cnt_map]
  · obtain ⟨u, hu, rfl⟩ := List.mem_map.mp ht
    have := W.lo u hu
    show 0 ≤ u + d
    omega
  · exact List.pairwise_map.mpr (W.rise.imp fun h => by omega)
theorem Wv.ext {x : Int × List Int} {f g : Int → Int} (W : Wv x f) (h : ∀ t, f t = g t) : Wv x g := ⟨fun t => (W.at_ t).trans (h t), W.lo, W.rise, W.f01⟩
theorem Wv.self {x : Int × List Int} {f : Int → Int} (W : Wv x f) : Wv x (wv x) := ⟨fun _ => rfl, W.lo, W.rise, W.f01⟩
/-! ### a gate's wave of its ins' waves -/
def gateV (bs : List Bool) (ws : List (Int × List Int)) (t : Int) : Int := gateM bs (ws.map fun x => wv x t)
theorem cnt_same {ts : List Int} {s t : Int} (le : s ≤ t) (h : ∀ x ∈ ts, ¬ (s < x ∧ x ≤ t)) : cnt ts s = cnt ts t := by
  unfold cnt
  congr 1
  refine List.filter_congr fun x hx => ?_
  have := h x hx
  by_cases z : x ≤ s
  · rw [decide_eq_true z, decide_eq_true (show x ≤ t by omega)]
  · rw [decide_eq_false z, decide_eq_false (show ¬ x ≤ t by omega)]
theorem gateV_con {bs : List Bool} {ws : List (Int × List Int)} {ms : List Int} (mem : ∀ t, t ∈ ms ↔ ∃ x ∈ ws, t ∈ x.2) (s t : Int) (le : s ≤ t) (h : ∀ x ∈ ms, ¬ (s < x ∧ x ≤ t)) : gateV bs ws s = gateV bs ws t := by
  unfold gateV
  congr 1
  refine List.map_congr_left fun x hx => ?_
  unfold wv
  rw [cnt_same le fun u hu => h u ((mem u).mpr ⟨x, hx, hu⟩)]
/-- what the gate's walk over the turns leaves is its wave -/
theorem gateV_end {bs : List Bool} {ws : List (Int × List Int)} {ms : List Int} {acc : List Int × Int} (rise : ms.Pairwise (· < ·)) (lo : ∀ x ∈ ms, 0 ≤ x) (I : TInv (gateV bs ws) ms ms.length acc) : Wv (gateV bs ws (-1), acc.1) (gateV bs ws) := by
  refine ⟨fun t => ?_, fun t ht => lo t (List.mem_of_mem_take (I.sub.subset ht)), ?_, gate01 _ _⟩
  · exact I.c t fun x hx => by rw [List.drop_length] at hx; cases hx
  · have := I.sub
    rw [List.take_length] at this
    exact rise.sublist this

end Gk

set_option Elab.async false
set_option linter.all false
set_option maxRecDepth 100000
set_option maxHeartbeats 1000000
set_option pp.maxSteps 1500
set_option pp.deepTerms false
namespace Gk
open PySem PySem.Spec PyProof.Rows L2
/-! ### what each wire is worth at each time -/
def Shape (gs : List Gt) (D : List (List Int)) : Prop := D.length = gs.length ∧ ∀ (g : Nat) (gt : Gt) (d : List Int), gs[g]? = some gt → D[g]? = some d → d.length = gt.2.length
structure ValOk (m : Nat) (gs : List Gt) (D : List (List Int)) (a b : List Int) (V : Nat → Int → Int) : Prop where
  i : ∀ (r : Nat) (t : Int), r < m → V r t = if 0 ≤ t then b.getD r 0 else a.getD r 0
  g : ∀ (g : Nat) (gt : Gt) (d : List Int) (t : Int), gs[g]? = some gt → D[g]? = some d → V (m + g) t = gateM gt.1 ((gt.2.zip d).map fun x => V x.1 (t - x.2))
def inV (a b : List Int) : List (Int → Int) := (a.zip b).map fun p t => if 0 ≤ t then p.2 else p.1
def stepV (fs : List (Int → Int)) (e : Gt × List Int) : List (Int → Int) := fs ++ [fun t => gateM e.1.1 ((e.1.2.zip e.2).map fun x => (fs.getD x.1 (fun _ => 0)) (t - x.2))]
def valsM (gs : List Gt) (D : List (List Int)) (a b : List Int) : List (Int → Int) := (gs.zip D).foldl stepV (inV a b)
def valAt (gs : List Gt) (D : List (List Int)) (a b : List Int) (r : Nat) (t : Int) : Int := (valsM gs D a b).getD r (fun _ => 0) t
theorem stepV_len (fs : List (Int → Int)) (e : Gt × List Int) : (stepV fs e).length = fs.length + 1 := by
  unfold stepV
  rw [List.length_append]
  rfl
theorem stepV_at (fs : List (Int → Int)) (e : Gt × List Int) {n : Nat} (h : fs.length = n) (t : Int) : (stepV fs e).getD n (fun _ => 0) t = gateM e.1.1 ((e.1.2.zip e.2).map fun x => (fs.getD x.1 (fun _ => 0)) (t - x.2)) := by
  subst h
  unfold stepV
  rw [List.getD_eq_getElem?_getD, List.getElem?_append_right (Nat.le_refl _), Nat.sub_self]
  rfl
theorem foldV_app : ∀ (l : List (Gt × List Int)) (fs : List (Int → Int)), ∃ t, l.foldl stepV fs = fs ++ t
  | [], fs => ⟨[], (List.append_nil _).symm⟩
  | e :: l, fs => by
    obtain ⟨t, h⟩ := foldV_app l (stepV fs e)
    refine ⟨[fun t => gateM e.1.1 ((e.1.2.zip e.2).map fun x => (fs.getD x.1 (fun _ => 0)) (t - x.2))] ++ t, ?_⟩
    rw [List.foldl_cons, h]
    show (fs ++ [_]) ++ t = _
    rw [List.append_assoc]
theorem foldV_len : ∀ (l : List (Gt × List Int)) (fs : List (Int → Int)), (l.foldl stepV fs).length = fs.length + l.length
  | [], _ => rfl
  | e :: l, fs => by
    rw [List.foldl_cons, foldV_len l, stepV_len, List.length_cons]
    omega
theorem inV_len {a b : List Int} {m : Nat} (la : a.length = m) (lb : b.length = m) : (inV a b).length = m := by
  unfold inV
  rw [List.length_map, List.length_zip, la, lb, Nat.min_self]
theorem valsM_pre {gs : List Gt} {D : List (List Int)} {a b : List Int} {m : Nat} (la : a.length = m) (lb : b.length = m) (i : Nat) (hi : i ≤ (gs.zip D).length) {k : Nat} (hk : k < m + i) : (valsM gs D a b).getD k (fun _ => 0) = (((gs.zip D).take i).foldl stepV (inV a b)).getD k (fun _ => 0) := by
  have e : valsM gs D a b = ((gs.zip D).drop i).foldl stepV (((gs.zip D).take i).foldl stepV (inV a b)) := by
    unfold valsM
    rw [← List.foldl_append, List.take_append_drop]
  obtain ⟨t, et⟩ := foldV_app ((gs.zip D).drop i) (((gs.zip D).take i).foldl stepV (inV a b))
  rw [e, et, List.getD_eq_getElem?_getD, List.getD_eq_getElem?_getD, List.getElem?_append_left (by rw [foldV_len, inV_len la lb, List.length_take]; omega)]
theorem val_ok {m : Nat} {gs : List Gt} {D : List (List Int)} {a b : List Int} (la : a.length = m) (lb : b.length = m) (okn : NetOk m gs) (sh : Shape gs D) : ValOk m gs D a b (valAt gs D a b) := by
  have lz : (gs.zip D).length = gs.length := by rw [List.length_zip, sh.1, Nat.min_self]
  refine ⟨fun r t hr => ?_, fun g gt d t hg hd => ?_⟩
  · unfold valAt
    rw [valsM_pre la lb 0 (Nat.zero_le _) (by omega)]
    show (inV a b).getD r (fun _ => 0) t = _
    unfold inV
    have h1 : a[r]? = some (a[r]'(by omega)) := List.getElem?_eq_getElem _
    have h2 : b[r]? = some (b[r]'(by omega)) := List.getElem?_eq_getElem _
    have hz : (a.zip b)[r]? = some (a[r]'(by omega), b[r]'(by omega)) := by rw [List.getElem?_zip_eq_some]; exact ⟨h1, h2⟩
    rw [List.getD_eq_getElem?_getD, List.getElem?_map, hz, List.getD_eq_getElem?_getD, List.getD_eq_getElem?_getD, h1, h2]
    rfl
  · have hz : (gs.zip D)[g]? = some (gt, d) := by rw [List.getElem?_zip_eq_some]; exact ⟨hg, hd⟩
    have hgl := (List.getElem?_eq_some_iff.mp hg).1
    have lt : (((gs.zip D).take g).foldl stepV (inV a b)).length = m + g := by rw [foldV_len, inV_len la lb, List.length_take]; omega
    unfold valAt
    rw [valsM_pre la lb (g + 1) (by omega) (by omega), List.take_add_one, hz, List.foldl_append]
    show (stepV (((gs.zip D).take g).foldl stepV (inV a b)) (gt, d)).getD (m + g) (fun _ => 0) t = _
    rw [stepV_at _ _ lt]
    show gateM gt.1 _ = _
    congr 1
    refine List.map_congr_left fun x hx => ?_
    have := (okn g gt hg).2.2.2 x.1 (List.of_mem_zip (a := x.1) (b := x.2) hx).1
    rw [valsM_pre la lb g (by omega) (by omega)]
theorem V01 {m : Nat} {gs : List Gt} {D : List (List Int)} {a b : List Int} (la : a.length = m) (lb : b.length = m) (ha : Row01 a) (hb : Row01 b) (okn : NetOk m gs) (sh : Shape gs D) {r : Nat} (hr : r < m + gs.length) (t : Int) : valAt gs D a b r t = 0 ∨ valAt gs D a b r t = 1 := by
  have V := val_ok la lb okn sh
  have at0 : ∀ {l : List Int}, Row01 l → ∀ r, l.getD r 0 = 0 ∨ l.getD r 0 = 1 := fun {l} h r => by
    rw [List.getD_eq_getElem?_getD]
    cases e : l[r]? with
    | none => exact .inl rfl
    | some x => exact h x (List.mem_of_getElem? e)
  by_cases z : r < m
  · rw [V.i r t z]
    split
    · exact at0 hb r
    · exact at0 ha r
  · obtain ⟨g, rfl⟩ : ∃ g, r = m + g := ⟨r - m, by omega⟩
    have hg : g < gs.length := by omega
    have hd : g < D.length := by rw [sh.1]; exact hg
    rw [V.g g _ _ t (List.getElem?_eq_getElem hg) (List.getElem?_eq_getElem hd)]
    exact gate01 _ _
def NonNeg (D : List (List Int)) : Prop := ∀ d ∈ D, ∀ x ∈ d, 0 ≤ x
theorem V_lo {m : Nat} {gs : List Gt} {D : List (List Int)} {a b : List Int} (la : a.length = m) (lb : b.length = m) (okn : NetOk m gs) (sh : Shape gs D) (nn : NonNeg D) : ∀ i, i ≤ gs.length → ∀ r, r < m + i → ∀ s t : Int, s < 0 → t < 0 → valAt gs D a b r s = valAt gs D a b r t
  | 0, _, r, hr, s, t, hs, ht => by
    have V := val_ok la lb okn sh
    rw [V.i r s (by omega), V.i r t (by omega), if_neg (by omega), if_neg (by omega)]
  | i + 1, hi, r, hr, s, t, hs, ht => by
    by_cases z : r < m + i
    · exact V_lo la lb okn sh nn i (by omega) r z s t hs ht
    · obtain rfl : r = m + i := by omega
      have V := val_ok la lb okn sh
      have hg : i < gs.length := by omega
      have hd : i < D.length := by rw [sh.1]; exact hg
      rw [V.g i _ _ s (List.getElem?_eq_getElem hg) (List.getElem?_eq_getElem hd), V.g i _ _ t (List.getElem?_eq_getElem hg) (List.getElem?_eq_getElem hd)]
      congr 1
      refine List.map_congr_left fun x hx => ?_
      have h := List.of_mem_zip (a := x.1) (b := x.2) hx
      have h1 := (okn i _ (List.getElem?_eq_getElem hg)).2.2.2 x.1 h.1
      have h2 := nn _ (List.getElem_mem hd) x.2 h.2
      exact V_lo la lb okn sh nn i (by omega) x.1 h1 _ _ (by omega) (by omega)
/-- delays no greater than these, gate by gate -/
def Under (D : List (List Int)) (M : List Int) : Prop := M.length = D.length ∧ ∀ (g : Nat) (d : List Int) (z : Int), D[g]? = some d → M[g]? = some z → 0 ≤ z ∧ ∀ x ∈ d, x ≤ z
theorem V_hi {m : Nat} {gs : List Gt} {D : List (List Int)} {a b : List Int} {M : List Int} (la : a.length = m) (lb : b.length = m) (okn : NetOk m gs) (sh : Shape gs D) (un : Under D M) : ∀ i, i ≤ gs.length → ∀ r, r < m + i → ∀ s t : Int, (M.take i).sum ≤ s → (M.take i).sum ≤ t → valAt gs D a b r s = valAt gs D a b r t
  | 0, _, r, hr, s, t, hs, ht => by
    have V := val_ok la lb okn sh
    have hs : 0 ≤ s := hs
    have ht : 0 ≤ t := ht
    rw [V.i r s (by omega), V.i r t (by omega), if_pos hs, if_pos ht]
  | i + 1, hi, r, hr, s, t, hs, ht => by
    have hg : i < gs.length := by omega
    have hd : i < D.length := by rw [sh.1]; exact hg
    have hM : i < M.length := by rw [un.1]; exact hd
    obtain ⟨z0, z1⟩ := un.2 i _ _ (List.getElem?_eq_getElem hd) (List.getElem?_eq_getElem hM)
    have es : (M.take (i + 1)).sum = (M.take i).sum + M[i] := by
      rw [List.take_add_one, List.getElem?_eq_getElem hM, List.sum_append]
      simp
    rw [es] at hs ht
    by_cases z : r < m + i
    · exact V_hi la lb okn sh un i (by omega) r z s t (by omega) (by omega)
    · obtain rfl : r = m + i := by omega
      have V := val_ok la lb okn sh
      rw [V.g i _ _ s (List.getElem?_eq_getElem hg) (List.getElem?_eq_getElem hd), V.g i _ _ t (List.getElem?_eq_getElem hg) (List.getElem?_eq_getElem hd)]
      congr 1
      refine List.map_congr_left fun x hx => ?_
      have h := List.of_mem_zip (a := x.1) (b := x.2) hx
      have h1 := (okn i _ (List.getElem?_eq_getElem hg)).2.2.2 x.1 h.1
      have h2 := z1 x.2 h.2
      exact V_hi la lb okn sh un i (by omega) x.1 h1 _ _ (by omega) (by omega)
def InWave (x y : Int) : List Int := if x = y then [] else [0]
theorem in_wv {x y : Int} (hx : x = 0 ∨ x = 1) (hy : y = 0 ∨ y = 1) : Wv (x, InWave x y) (fun t => if 0 ≤ t then y else x) := by
  unfold InWave
  refine ⟨fun t => ?_, fun z hz => ?_, ?_, hx⟩
  · by_cases e : x = y
    · rw [if_pos e]
      show (x + 0) % 2 = if 0 ≤ t then y else x
      subst e
      split <;> omega
    · rw [if_neg e]
      show (x + (cnt [0] t : Int)) % 2 = _
      rw [cnt_one]
      split <;> push_cast <;> omega
  · have hz : z ∈ (if x = y then ([] : List Int) else [0]) := hz
    split at hz
    · cases hz
    · rw [List.mem_singleton.mp hz]
      decide
  · show (if x = y then ([] : List Int) else [0]).Pairwise (· < ·)
    split
    · exact .nil
    · exact List.pairwise_singleton _ _
def wvD (x : Int × List Int) : PyData := .tuple [.int x.1, rowD x.2]
/-- all waves so far -/
def Wvs (ws : List (Int × List Int)) (V : Nat → Int → Int) : Prop := ∀ (r : Nat) (x : Int × List Int), ws[r]? = some x → Wv x (V r)
theorem Wvs.snoc {ws : List (Int × List Int)} {V : Nat → Int → Int} {x : Int × List Int} (h : Wvs ws V) (hx : Wv x (V ws.length)) : Wvs (ws ++ [x]) V := fun r y e => by
  by_cases z : r < ws.length
  · rw [List.getElem?_append_left z] at e
    exact h r y e
  · rw [List.getElem?_append_right (by omega)] at e
    have er : r = ws.length := by
      have := (List.getElem?_eq_some_iff.mp e).1
      simp at this
      omega
    subst er
    rw [Nat.sub_self] at e
    cases Option.some.inj e
    exact hx
/-- a gate's ins, each so much later -/
def lateW (ws : List (Int × List Int)) (ins : List Nat) (d : List Int) : List (Int × List Int) := (ins.zip d).map fun e => shiftW (ws.getD e.1 (0, [])) e.2
theorem lateW_V {m i : Nat} {gs : List Gt} {D : List (List Int)} {a b : List Int} {ws : List (Int × List Int)} {gt : Gt} {d : List Int} (la : a.length = m) (lb : b.length = m) (okn : NetOk m gs) (sh : Shape gs D) (nn : NonNeg D) (hg : gs[i]? = some gt) (hd : D[i]? = some d) (lw : ws.length = m + i) (W : Wvs ws (valAt gs D a b)) (t : Int) : gateV gt.1 (lateW ws gt.2 d) t = valAt gs D a b (m + i) t := by
  rw [(val_ok la lb okn sh).g i gt d t hg hd]
  unfold gateV lateW
  congr 1
  rw [List.map_map]
  refine List.map_congr_left fun e he => ?_
  have h := List.of_mem_zip (a := e.1) (b := e.2) he
  have h1 := (okn i gt hg).2.2.2 e.1 h.1
  have hf : ws[e.1]? = some (ws.getD e.1 (0, [])) := by rw [List.getD_eq_getElem?_getD, List.getElem?_eq_getElem (by omega)]; rfl
  exact ((W e.1 _ hf).shift (nn d (List.mem_of_getElem? hd) e.2 h.2)).at_ t
theorem lateW_ok {m i : Nat} {gs : List Gt} {D : List (List Int)} {a b : List Int} {ws : List (Int × List Int)} {gt : Gt} {d : List Int} (okn : NetOk m gs) (nn : NonNeg D) (hg : gs[i]? = some gt) (hd : D[i]? = some d) (lw : ws.length = m + i) (W : Wvs ws (valAt gs D a b)) : ∀ x ∈ lateW ws gt.2 d, Wv x (wv x) := by
  intro x hx
  obtain ⟨e, he, rfl⟩ := List.mem_map.mp hx
  have h := List.of_mem_zip (a := e.1) (b := e.2) he
  have h1 := (okn i gt hg).2.2.2 e.1 h.1
  have hf : ws[e.1]? = some (ws.getD e.1 (0, [])) := by rw [List.getD_eq_getElem?_getD, List.getElem?_eq_getElem (by omega)]; rfl
  exact ((W e.1 _ hf).shift (nn d (List.mem_of_getElem? hd) e.2 h.2)).self

end Gk

set_option Elab.async false
set_option linter.all false
set_option maxRecDepth 100000
set_option maxHeartbeats 1000000
set_option pp.maxSteps 1500
set_option pp.deepTerms false
namespace Gk
open PySem PySem.Spec PyProof.Rows L2
/-! ### nets that run: what the machines want of the wave files -/
def nV (ws : List Nat) : List V := (ws.map Int.ofNat).map V.int
theorem nV_len (ws : List Nat) : (nV ws).length = ws.length := by unfold nV; rw [List.length_map, List.length_map]
theorem nV_app (a b : List Nat) : nV (a ++ b) = nV a ++ nV b := by unfold nV; rw [List.map_append, List.map_append]
theorem sameU {H H' : Hp} {p : Addr} {o : HO} (s : Same H H') (n : H p = none) : Same H (upd H' p o) := fun b x e => by
  rw [upd_ne (ne_of_none e n)]
  exact s b x e
theorem none_of_same {H H' : Hp} {p : Addr} (s : Same H H') (n : H' p = none) : H p = none := by
  cases z : H p with
  | none => rfl
  | some o => rw [s _ _ z] at n; cases n
theorem vint_at {l : List Int} {i : Nat} {x : V} (h : (l.map V.int)[i]? = some x) : ∃ b, l[i]? = some b ∧ x = V.int b := by
  rw [List.getElem?_map] at h
  obtain ⟨b, hb, e⟩ := Option.map_eq_some_iff.mp h
  exact ⟨b, hb, e.symm⟩
theorem ixN_k {n k : Nat} (h : k < n) : ixN n ((k : Nat) : Int) = some k := by
  unfold ixN
  rw [if_pos (by omega), if_pos (by omega)]
  rfl
def delsD (D : List (List Int)) : PyData := .tuple (D.map rowD)
theorem nV_at {ws : List Nat} {j : Nat} {v : V} (h : (nV ws)[j]? = some v) : ∃ k, ws[j]? = some k ∧ v = .int (k : Nat) := by
  obtain ⟨b, hb, rfl⟩ := vint_at h
  rw [List.getElem?_map] at hb
  obtain ⟨k, hk, e⟩ := Option.map_eq_some_iff.mp hb
  exact ⟨k, hk, by rw [← e]; rfl⟩
structure RunOk (m : Nat) (gs : List Gt) (D : List (List Int)) (a b : List Int) : Prop where
  okn : NetOk m gs
  sh : Shape gs D
  nn : NonNeg D
  la : a.length = m
  lb : b.length = m
  ha : Row01 a
  hb : Row01 b

end Gk

set_option Elab.async false
set_option linter.all false
set_option maxRecDepth 100000
set_option maxHeartbeats 1000000
set_option pp.maxSteps 1500
set_option pp.deepTerms false
namespace Gk
open PySem PySem.Spec PyProof.Rows L2
section
variable {P : Program} {w : World} {K : PySem.W.Frag} {mg : Str → Option Value} {base : Heap}
theorem ok_table_worth (T : Tx K mg) : FnOk P w K mg base CX0 1 T.f_table_worth T.fd_table_worth ["table", "worths"] (spGate K) := by
  refine T.F_table_worth.ok sc_table_worth (fun vs H Q E h => ?_) (fun cdv A outer s H vs Q E hr h => ?_)
  · obtain ⟨bs, la, ws, rfl, _⟩ := h
    rfl
  · obtain ⟨bs, la, ws, rfl, hS, hw, hb, h3, q⟩ := h
    obtain ⟨b, p0, p1, p2, p3, p4⟩ := gate_read hw hb h3
    refine ⟨_, (pss_cons (ps_set (i := 2) sc_table_worth.nd rfl (by first | exact .inl rfl | exact .inr rfl) pe_int) (pss_cons (ps_for PassesOwn.never rfl (pi_list (pv 1)) (pg_name (i := 3) sc_table_worth.nd rfl (by first | exact .inl rfl | exact .inr rfl)) (pss_one (ps_set (i := 2) sc_table_worth.nd rfl (by first | exact .inl rfl | exact .inr rfl) (pe_op op_add (pe_op op_mul pe_int (pv 2)) (pv 3))))) (pss_one (ps_ret (pe_callTy call_int_str (by rfl) T.m_int (by decide +kernel) (pa_cons (pe_item_str (pv 0) (pv 2) (fun _ _ => rfl)) pa_nil)))))), ?_⟩
    refine ⟨.ref la, rfl, la, rfl, ⟨_, hS⟩, for_list (K := K) (a := la) (xs := ws.map V.int) (fun i σ H' => ∃ y, σ = [some (.str (tabOf bs)), some (.ref la), some (.int (plc (ws.take i))), y] ∧ H' = H) ⟨none, rfl, rfl⟩ (fun i σ H' _ ⟨_, _, e⟩ => by rw [e]; exact hS) ?_ ?_⟩
    · rintro i x σ H' hx ⟨y, rfl, rfl⟩
      obtain ⟨u, hu, rfl⟩ : ∃ u, ws[i]? = some u ∧ x = V.int u := by
        rw [List.getElem?_map] at hx
        cases hz : ws[i]? with
        | none => rw [hz] at hx; cases hx
        | some u => rw [hz] at hx; exact ⟨u, rfl, (Option.some.inj hx).symm⟩
      refine ⟨.int (plc (ws.take i)), rfl, 2, _, rfl, rfl, .inl ⟨by decide, by decide⟩, .int u, rfl, _, _, rfl, rfl, some (.int u), ?_, rfl⟩
      rw [plc_take hu]
      rfl
    · rintro σ H' ⟨y, rfl, rfl⟩
      rw [List.length_map, List.take_length]
      refine ⟨.str (tabOf bs), rfl, .int (plc ws), rfl, _, _, _, rfl, rfl, p0, p1, p2, p3, _, _, rfl, int_sign b, (show 1 ≤ 640 by decide), ?_⟩
      rw [← p4]
      exact q

end
end Gk

set_option Elab.async false
set_option linter.all false
set_option maxRecDepth 100000
set_option maxHeartbeats 1000000
set_option pp.maxSteps 1500
set_option pp.deepTerms false
namespace Gk
open PySem PySem.Spec PyProof.Rows L2
/-! ### zip of two or three texts, tuples, lists -/
namespace ZpG
open PySem PySem.Spec PyProof.Rows L2
inductive ZS where
  | tx (x : PySem.Str)
  | tu (a : Addr)
  | li (a : Addr)
def ZS.val : ZS → V
  | .tx x => .str x
  | .tu a => .ref a
  | .li a => .ref a
def ZS.at (K : PySem.W.Frag) : ZS → Hp → List V → Prop
  | .tx x, _, xs => xs = x.cps.toList.map fun c => V.str ⟨#[c]⟩
  | .tu a, H, xs => SqT K H a xs
  | .li a, H, xs => SqL K H a xs
def ZS.it : ZS → Addr → Nat → Heap → Prop
  | .tx x, it, i, h => ∃ t, h.IsStrIter it (strIterType x) x t i
  | .tu a, it, i, h => h.IsTupleIter it a i
  | .li a, it, i, h => h.IsListIter it a i
def ZS.lt : ZS → Nat → Prop
  | .tx _, _ => True
  | .tu a, n => a < n
  | .li a, n => a < n
def ZS.off : ZS → Addr → Prop
  | .tx _, _ => True
  | .tu a, c => a ≠ c
  | .li a, c => a ≠ c
theorem ne' {a b : Nat} (h : a ≠ b) : @Ne Addr a b := h
theorem ZS.off_of {n c : Nat} (hc : n ≤ c) : ∀ {z : ZS}, z.lt n → z.off c
  | .tx _, _ => trivial
  | .tu _, h => Nat.ne_of_lt (Nat.lt_of_lt_of_le h hc)
  | .li _, h => Nat.ne_of_lt (Nat.lt_of_lt_of_le h hc)
theorem ZS.obj {it : Addr} {i : Nat} {h : Heap} : ∀ {z : ZS}, z.it it i h → ∃ o, h.get? it = some o ∧ ∀ v, o.data ≠ .cell v
  | .tx _, ⟨_, o, e, _, d⟩ => ⟨o, e, fun v q => by rw [d] at q; cases q⟩
  | .tu _, ⟨o, e, _, d⟩ => ⟨o, e, fun v q => by rw [d] at q; cases q⟩
  | .li _, ⟨o, e, _, d⟩ => ⟨o, e, fun v q => by rw [d] at q; cases q⟩
theorem ZS.move {it : Addr} {i : Nat} {h h' : Heap} (k : ∀ o, h.get? it = some o → h'.get? it = some o) : ∀ {z : ZS}, z.it it i h → z.it it i h'
  | .tx _, ⟨t, o, e, r⟩ => ⟨t, o, k o e, r⟩
  | .tu _, ⟨o, e, r⟩ => ⟨o, k o e, r⟩
  | .li _, ⟨o, e, r⟩ => ⟨o, k o e, r⟩
section
variable {X : Cx} {pins : List (Addr × Obj)} {σ : L2.St} {H : Hp} {s : Shared}
theorem ZS.inj (I : Inv X pins σ H s) {z : ZS} {xs ys : List V} (h1 : z.at X.K H xs) (h2 : z.at X.K H ys) : xs = ys := by
  cases z with
  | tx x =>
    have e1 : xs = _ := h1
    have e2 : ys = _ := h2
    rw [e1, e2]
  | tu a => exact I.tuple_inj h1 h2
  | li a => exact I.list_inj h1 h2
theorem ZS.draws {A : Around} {it : Addr} {i : Nat} {xs : List V} (z : ZS) (I : Inv X pins σ H s) (hq : z.at X.K H xs) (hh : A.handled = none) (off : z.off it) (st : z.it it i s.heap) :
    ∃ (fp : List Addr) (P : Nat → Value → Prop) (St : Nat → Heap → Prop), Draws X.prog X.w A it fp xs.length P St ∧ it ∈ fp ∧ (∀ c, c ∈ fp → c = it ∨ ¬ z.off c) ∧ St i s.heap ∧ (∀ j h, St j h → z.it it j h) ∧ ∀ j v, P j v → ∃ x, xs[j]? = some x ∧ RelV x v := by
  cases z with
  | tx x =>
    obtain ⟨t, st⟩ := st
    have e : xs = x.cps.toList.map fun c => V.str ⟨#[c]⟩ := hq
    have el : xs.length = x.cps.size := by rw [e, List.length_map, Array.length_toList]
    refine ⟨[it], fun i v => ∃ c u, x.cps[i]? = some c ∧ v = .str ⟨#[c]⟩ u, fun i h => h.IsStrIter it (strIterType x) x t i, ?_, List.mem_cons_self, fun c hc => .inl (List.mem_singleton.mp hc), st, fun j h q => ⟨t, q⟩, fun j v p => ?_⟩
    · rw [el]
      exact Draws.text hh it x t
    · obtain ⟨c, u, hc, rfl⟩ := p
      refine ⟨.str ⟨#[c]⟩, ?_, ⟨u, rfl⟩⟩
      rw [e, List.getElem?_map, Array.getElem?_toList, hc]
      rfl
  | tu a =>
    obtain ⟨its, rv, p, _⟩ := I.tuple hq
    have hl := rv.length
    refine ⟨[it, a], fun i v => its.toArray[i]? = some v, fun i h => h.IsTupleIter it a i ∧ h.IsTuple a its.toArray, ?_, List.mem_cons_self, fun c hc => ?_, ⟨st, p⟩, fun j h q => q.1, fun j v q => ?_⟩
    · rw [hl, ← List.size_toArray]
      exact Draws.tuple hh it a off its.toArray
    · rcases List.mem_cons.mp hc with e | e
      · exact .inl e
      · refine .inr fun q => ?_
        rw [List.mem_singleton.mp e] at q
        exact q rfl
    · have q : its[j]? = some v := by simpa using q
      have hj := (List.getElem?_eq_some_iff.mp q).1
      have hx : xs[j]? = some (xs[j]'(by omega)) := List.getElem?_eq_getElem _
      obtain ⟨u, hu, ru⟩ := rv.get hx
      rw [q] at hu
      cases Option.some.inj hu
      exact ⟨_, hx, ru⟩
  | li a =>
    obtain ⟨its, rv, p, _⟩ := I.list hq
    have hl := rv.length
    refine ⟨[it, a], fun i v => its.toArray[i]? = some v, fun i h => h.IsListIter it a i ∧ h.IsList a its.toArray, ?_, List.mem_cons_self, fun c hc => ?_, ⟨st, p.isList⟩, fun j h q => q.1, fun j v q => ?_⟩
    · rw [hl, ← List.size_toArray]
      exact Draws.list hh it a off its.toArray
    · rcases List.mem_cons.mp hc with e | e
      · exact .inl e
      · refine .inr fun q => ?_
        rw [List.mem_singleton.mp e] at q
        exact q rfl
    · have q : its[j]? = some v := by simpa using q
      have hj := (List.getElem?_eq_some_iff.mp q).1
      have hx : xs[j]? = some (xs[j]'(by omega)) := List.getElem?_eq_getElem _
      obtain ⟨u, hu, ru⟩ := rv.get hx
      rw [q] at hu
      cases Option.some.inj hu
      exact ⟨_, hx, ru⟩
theorem ZS.begins {v : Value} {xs : List V} (z : ZS) (I : Inv X pins σ H s) (hq : z.at X.K H xs) (r : RelV z.val v) : ∃ o Hh, Begins v o Hh ∧ Hh s.heap ∧ (∀ it h, h.get? it = some o → z.it it 0 h) ∧ z.lt s.heap.objs.size := by
  cases z with
  | tx x =>
    obtain ⟨t, rfl⟩ := (show ∃ t, v = Value.str x t from r)
    exact ⟨_, _, begins_text x t, trivial, fun it h e => ⟨t, _, e, rfl, rfl⟩, trivial⟩
  | tu a =>
    cases (show v = Value.ref a from r)
    obtain ⟨its, rv, p, _⟩ := I.tuple hq
    obtain ⟨o1, ho1, _⟩ := id p
    exact ⟨_, _, begins_tuple a its.toArray, p, fun it h e => ⟨_, e, rfl, rfl⟩, Heap.lt_size ho1⟩
  | li a =>
    cases (show v = Value.ref a from r)
    obtain ⟨its, rv, p, _⟩ := I.list hq
    exact ⟨_, _, begins_list a its.toArray, p.isList, fun it h e => ⟨_, e, rfl, rfl⟩, p.lt⟩
end
def Itz2 (K : PySem.W.Frag) (z1 z2 : ZS) : It :=
  ⟨fun i H => ∃ (xs1 xs2 : List V) (x1 x2 : V), z1.at K H xs1 ∧ z2.at K H xs2 ∧ xs1[i]? = some x1 ∧ xs2[i]? = some x2,
    fun i H v H' => ∃ T x1 x2, v = .ref T ∧ H T = none ∧ H' = upd H T (.tup [x1, x2]) ∧ (∀ xs, z1.at K H xs → xs[i]? = some x1) ∧ (∀ xs, z2.at K H xs → xs[i]? = some x2),
    fun i H => ∃ xs1 xs2 : List V, z1.at K H xs1 ∧ z2.at K H xs2 ∧ i ≤ xs1.length ∧ i ≤ xs2.length ∧ (i = xs1.length ∨ i = xs2.length)⟩
theorem turn_zip2 {P : Program} {w : World} {K : PySem.W.Frag} {elts : List Expr} {kk : Nat} {tpos : Pos} {z1 z2 : ZS} {n : Nat} (l1 : z1.lt n) (l2 : z2.lt n) :
    Turn P w K (.Tuple elts kk tpos) (Itz2 K z1 z2) [n + 4, n + 2, n + 3, n, n + 1] (n + 4) (fun i h => IsZip h (n + 4) (n + 2) (n + 3) .none ∧ IsTupOf2 h (n + 2) (.ref (n)) (.ref (n + 1)) ∧ (∃ x1 x2, IsTupOf2 h (n + 3) x1 x2) ∧ z1.it (n) i h ∧ z2.it (n + 1) i h) where
  mem := List.mem_cons_self
  obj := fun i h st c hc => by
    obtain ⟨hz, hTI, ⟨x1, x2, hTO⟩, st1, st2⟩ := st
    have e' : c = n + 4 ∨ c = n + 2 ∨ c = n + 3 ∨ c = n ∨ c = n + 1 := by simpa using hc
    rcases e' with q | q | q | q | q
    · rw [q]; exact ⟨_, hz, fun v q => nomatch q⟩
    · rw [q]; exact ⟨_, hTI, fun v q => nomatch q⟩
    · rw [q]; exact ⟨_, hTO, fun v q => nomatch q⟩
    · rw [q]; exact ZS.obj (z := z1) st1
    · rw [q]; exact ZS.obj (z := z2) st2
  keep := fun i h h' st k => by
    obtain ⟨hz, hTI, ⟨x1, x2, hTO⟩, st1, st2⟩ := st
    exact ⟨k _ (by simp) _ hz, k _ (by simp) _ hTI, ⟨x1, x2, k _ (by simp) _ hTO⟩, ZS.move (z := z1) (fun o q => k _ (by simp) o q) st1, ZS.move (z := z2) (fun o q => k _ (by simp) o q) st2⟩
  item := by
    intro X hP hw hK hc i pins s σ H E I hf st hg
    subst hP hw hK
    obtain ⟨hz, hTI, ⟨y1, y2, hTO⟩, st1, st2⟩ := st
    obtain ⟨xs1, xs2, x1, x2, q1, q2, h1, h2⟩ := hg
    have hh : X.A.in1.handled = none := I.ok.hd hc
    obtain ⟨fp1, P1, St1, D1, m1, f1, s1, b1, p1⟩ := z1.draws (A := X.A.in1) I q1 hh (ZS.off_of (by omega) l1) st1
    have nf1 : ∀ c, n ≤ c → c ≠ n → c ∉ fp1 := fun c h1 h2 h3 => by
      rcases f1 c h3 with e | e
      · exact h2 e
      · exact e (ZS.off_of h1 l1)
    obtain ⟨fp2, P2, St2, D2, m2, f2, s2, b2, p2⟩ := z2.draws (A := X.A.in1) I q2 hh (ZS.off_of (by omega) l2) st2
    have nf2 : ∀ c, n ≤ c → c ≠ n + 1 → c ∉ fp2 := fun c h1 h2 h3 => by
      rcases f2 c h3 with e | e
      · exact h2 e
      · exact e (ZS.off_of h1 l2)
    have t1 : i < xs1.length := (List.getElem?_eq_some_iff.mp h1).1
    have t2 : i < xs2.length := (List.getElem?_eq_some_iff.mp h2).1
    have hzl : n + 4 < s.heap.objs.size := Heap.lt_size hz
    have S : ZipSep2 (n + 4) (n + 2) (n + 3) (n) (n + 1) fp1 fp2 := { TIz := (ne' (a := n + 2) (b := n + 4) (by omega)), TOz := (ne' (a := n + 3) (b := n + 4) (by omega)), TITO := (ne' (a := n + 2) (b := n + 3) (by omega)), TIi1 := (ne' (a := n + 2) (b := n) (by omega)), mem1 := m1, zf1 := nf1 (n + 4) (by omega) (ne' (a := n + 4) (b := n) (by omega)), Tf1 := nf1 (n + 3) (by omega) (ne' (a := n + 3) (b := n) (by omega)), TIi2 := (ne' (a := n + 2) (b := n + 1) (by omega)), mem2 := m2, zf2 := nf2 (n + 4) (by omega) (ne' (a := n + 4) (b := n + 1) (by omega)), Tf2 := nf2 (n + 3) (by omega) (ne' (a := n + 3) (b := n + 1) (by omega)), sep1_2 := nf2 (n) (by omega) (ne' (a := n) (b := n + 1) (by omega)), sep2_1 := nf1 (n + 1) (by omega) (ne' (a := n + 1) (b := n) (by omega)) }
    refine wpAny_pyNext_zipD2_item S D1 D2 hz hTI hTO s1 s2 t1 t2 fun u1 u2 h' tk g1 g2 z' TO' w1 w2 hT hsz hk => ?_
    refine ⟨_, rfl, wpAny_letOwnedTupleGo_zip (s := { s with heap := h', toks := tk }) z' fun h'' z'' sb => ?_⟩
    obtain ⟨x1', e1, ru1⟩ := p1 i u1 g1
    rw [h1] at e1
    cases Option.some.inj e1
    obtain ⟨x2', e2, ru2⟩ := p2 i u2 g2
    rw [h2] at e2
    cases Option.some.inj e2
    have hT2 : h''.get? s.heap.objs.size = some { cls := .type "tuple", data := .seq #[u1, u2] } := (sb.2 _ (Nat.ne_of_gt hzl)).trans hT
    have new : ObjOk X.prog X.w (upd H s.heap.objs.size (.tup [x1, x2])) h'' s.heap.objs.size (.tup [x1, x2]) :=
      ⟨by show 2 ≤ sizeLine; decide, [u1, u2], .cons ru1 (.cons ru2 (.nil)), ⟨_, hT2, rfl, _, rfl⟩⟩
    have out5 : ∀ c, c ∉ [n + 4, n + 2, n + 3, n, n + 1] → c ≠ n + 4 ∧ c ≠ n + 3 ∧ c ≠ n ∧ c ≠ n + 1 := fun c hb => ⟨fun q' => hb (by simp [q']), fun q' => hb (by simp [q']), fun q' => hb (by simp [q']), fun q' => hb (by simp [q'])⟩
    have I1 : Inv X pins σ (upd H s.heap.objs.size (.tup [x1, x2])) { s with heap := h'', toks := tk } :=
      I.turnedNew (t' := tk) (ch := [n + 4, n + 2, n + 3, n, n + 1]) (fun c o hb q => by
        obtain ⟨a1, a2, b1', b2'⟩ := out5 c hb
        exact (sb.2 c a1).trans (hk c o a1 a2 b1' b2' q)) hf (Nat.le_refl _) new
    refine ⟨.ref s.heap.objs.size, _, I1, rfl, ⟨_, x1, x2, rfl, I.hok.fresh (Nat.le_refl _), rfl, fun l hl => by rw [ZS.inj I hl q1]; exact h1, fun l hl => by rw [ZS.inj I hl q2]; exact h2⟩, ⟨z'', ?_, ⟨u1, u2, ?_⟩, ?_, ?_⟩, fun c hcm => ?_⟩
    · exact (sb.2 (n + 2) (ne' (a := n + 2) (b := n + 4) (by omega))).trans (hk (n + 2) _ (ne' (a := n + 2) (b := n + 4) (by omega)) (ne' (a := n + 2) (b := n + 3) (by omega)) (ne' (a := n + 2) (b := n) (by omega)) (ne' (a := n + 2) (b := n + 1) (by omega)) hTI)
    · exact (sb.2 (n + 3) (ne' (a := n + 3) (b := n + 4) (by omega))).trans TO'
    · exact ZS.move (z := z1) (fun o q => (sb.2 (n) (ne' (a := n) (b := n + 4) (by omega))).trans q) (b1 _ _ w1)
    · exact ZS.move (z := z2) (fun o q => (sb.2 (n + 1) (ne' (a := n + 1) (b := n + 4) (by omega))).trans q) (b2 _ _ w2)
    · have hlt : c < s.heap.objs.size := by
        have e' : c = n + 4 ∨ c = n + 2 ∨ c = n + 3 ∨ c = n ∨ c = n + 1 := by simpa using hcm
        rcases e' with q | q | q | q | q
        · rw [q]; exact (show (n + 4 : Nat) < s.heap.objs.size by omega)
        · rw [q]; exact (show (n + 2 : Nat) < s.heap.objs.size by omega)
        · rw [q]; exact (show (n + 3 : Nat) < s.heap.objs.size by omega)
        · rw [q]; exact (show (n : Nat) < s.heap.objs.size by omega)
        · rw [q]; exact (show (n + 1 : Nat) < s.heap.objs.size by omega)
      rw [upd_ne (Nat.ne_of_lt hlt)]
      exact (hf c hcm).1
  done := by
    intro X hP hw hK hc i pins s σ H E I hf st hg
    subst hP hw hK
    obtain ⟨hz, hTI, ⟨y1, y2, hTO⟩, st1, st2⟩ := st
    obtain ⟨xs1, xs2, q1, q2, t1, t2, hend⟩ := hg
    have hh : X.A.in1.handled = none := I.ok.hd hc
    obtain ⟨fp1, P1, St1, D1, m1, f1, s1, b1, p1⟩ := z1.draws (A := X.A.in1) I q1 hh (ZS.off_of (by omega) l1) st1
    have nf1 : ∀ c, n ≤ c → c ≠ n → c ∉ fp1 := fun c h1 h2 h3 => by
      rcases f1 c h3 with e | e
      · exact h2 e
      · exact e (ZS.off_of h1 l1)
    obtain ⟨fp2, P2, St2, D2, m2, f2, s2, b2, p2⟩ := z2.draws (A := X.A.in1) I q2 hh (ZS.off_of (by omega) l2) st2
    have nf2 : ∀ c, n ≤ c → c ≠ n + 1 → c ∉ fp2 := fun c h1 h2 h3 => by
      rcases f2 c h3 with e | e
      · exact h2 e
      · exact e (ZS.off_of h1 l2)
    have S : ZipSep2 (n + 4) (n + 2) (n + 3) (n) (n + 1) fp1 fp2 := { TIz := (ne' (a := n + 2) (b := n + 4) (by omega)), TOz := (ne' (a := n + 3) (b := n + 4) (by omega)), TITO := (ne' (a := n + 2) (b := n + 3) (by omega)), TIi1 := (ne' (a := n + 2) (b := n) (by omega)), mem1 := m1, zf1 := nf1 (n + 4) (by omega) (ne' (a := n + 4) (b := n) (by omega)), Tf1 := nf1 (n + 3) (by omega) (ne' (a := n + 3) (b := n) (by omega)), TIi2 := (ne' (a := n + 2) (b := n + 1) (by omega)), mem2 := m2, zf2 := nf2 (n + 4) (by omega) (ne' (a := n + 4) (b := n + 1) (by omega)), Tf2 := nf2 (n + 3) (by omega) (ne' (a := n + 3) (b := n + 1) (by omega)), sep1_2 := nf2 (n) (by omega) (ne' (a := n) (b := n + 1) (by omega)), sep2_1 := nf1 (n + 1) (by omega) (ne' (a := n + 1) (b := n) (by omega)) }
    exact wpAny_pyNext_zipD2_end S D1 D2 hz hTI hTO s1 s2 t1 t2 hend fun h' tk hk => ⟨rfl, I.turnedL (t' := tk) (ch := [n + 4, n + 2, n + 3, n, n + 1]) (fun c o hb q =>
      hk c o (fun q' => hb (by simp [q'])) (fun q' => hb (by simp [q'])) (fun q' => hb (by simp [q'])) (fun q' => hb (by simp [q'])) q) hf⟩
  self := fun A i s Q E st h => wpAny_pyIter_zip st.1 h
def iZip2 (K : PySem.W.Frag) (ta : TA) : TI := fun σ H R => ta σ H fun vs H1 => ∃ (z1 z2 : ZS) (xs1 xs2 : List V), vs = [z1.val, z2.val] ∧ z1.at K H1 xs1 ∧ z2.at K H1 xs2 ∧ R (Itz2 K z1 z2) H1
theorem pi_zip2 {X : Cx} {e e2 : Expr} {ta : TA} {p pos tpos : Pos} {elts : List Expr} {kk : Nat} (hg : Gl X "zip") (hm : X.mg "zip" = none) (ha : PA X [e, e2] ta)
    (hs : starEach [e, e2] X.env = (false, eval e X.env) :: starEach [e2] X.env := by rfl) (hpl : (backTo pos (starEach [e2] X.env)).any (·.1) = false := by rfl) :
    PI X (.Tuple elts kk tpos) (.Call (.Name "zip" p) [e, e2] [] pos) (iZip2 X.K ta) := by
  refine ⟨fun pins s σ H R I h => ?_⟩
  refine Call_ (ld_blt I hg hm PyProof.Rows.boot_zip (PyProof.Rows.callWith_type1 (thn (ha.run pos pins s σ H _ I h) fun us s1 ⟨vs, H1, I1, r1, q1⟩ => ?_) hs hpl))
  obtain ⟨z1, z2, xs1, xs2, ex, q1, q2, q⟩ := q1
  subst ex
  cases r1 with
  | cons r1 rr =>
    cases rr with
    | cons r2 rr =>
      cases rr
      obtain ⟨o1, G1, B1, h1, i1, l1⟩ := z1.begins I1 q1 r1
      obtain ⟨o2, G2, B2, h2, i2, l2⟩ := z2.begins I1 q2 r2
      have fresh5 : ∀ c, c ∈ [s1.heap.objs.size + 4, s1.heap.objs.size + 2, s1.heap.objs.size + 3, s1.heap.objs.size, s1.heap.objs.size + 1] → FpOk X pins H1 c := fun c hcm => by
        have e' : c = s1.heap.objs.size + 4 ∨ c = s1.heap.objs.size + 2 ∨ c = s1.heap.objs.size + 3 ∨ c = s1.heap.objs.size ∨ c = s1.heap.objs.size + 1 := by simpa using hcm
        have hle : s1.heap.objs.size ≤ c := by omega
        exact I1.fpOk hle (I1.hok.fresh hle)
      refine zip_begins2 B1 B2 h1 h2 fun h' hz hTI hTO g1 g2 hsz hk => wpAny_pyIter_zip hz ?_
      have I2 : Inv X pins σ H1 { s1 with heap := h' } := I1.kept (t' := s1.toks) hk
      exact ⟨s1.heap.objs.size + 4, [s1.heap.objs.size + 4, s1.heap.objs.size + 2, s1.heap.objs.size + 3, s1.heap.objs.size, s1.heap.objs.size + 1], _, _, H1, rfl, I2, turn_zip2 l1 l2, ⟨hz, hTI, ⟨_, _, hTO⟩, i1 _ _ g1, i2 _ _ g2⟩, fresh5, q⟩
theorem for_zip2 {K : PySem.W.Frag} {z1 z2 : ZS} {xs1 xs2 : List V} {n : Nat} {g : TG} {tb : TS} {D : Ends} {σ : L2.St} {H : Hp} (n1 : xs1.length = n) (n2 : xs2.length = n) (Pv : Nat → L2.St → Hp → Prop) (h0 : Pv 0 σ H) (hl : ∀ i σ H, i ≤ n → Pv i σ H → z1.at K H xs1 ∧ z2.at K H xs2)
    (hs : ∀ (i : Nat) (x1 x2 : V) (T : Addr) (σ : L2.St) (H : Hp), xs1[i]? = some x1 → xs2[i]? = some x2 → H T = none → Pv i σ H → g (.ref T) σ (upd H T (.tup [x1, x2])) fun σ2 H2 => tb { D with nx := Pv (i + 1), ct := Pv (i + 1), bk := D.nx } σ2 H2) (hd : ∀ σ H, Pv n σ H → D.nx σ H) :
    ∃ W : Nat → Nat → L2.St → Hp → Prop, (∃ m, W 0 m σ H) ∧ ∀ i m σ H, W i m σ H →
      ((Itz2 K z1 z2).stop i H ∧ D.nx σ H) ∨ ((Itz2 K z1 z2).go i H ∧ ∃ N : L2.St → Hp → Prop, (∀ σ' H', N σ' H' → ∃ m', m' < m ∧ W (i + 1) m' σ' H') ∧ ∀ v H', (Itz2 K z1 z2).yld i H v H' → g v σ H' fun σ2 H2 => tb { D with nx := N, ct := N, bk := D.nx } σ2 H2) := by
  refine ⟨fun i m σ H => m = n - i ∧ i ≤ n ∧ Pv i σ H, ⟨n, rfl, Nat.zero_le _, h0⟩, ?_⟩
  rintro i m σ H ⟨rfl, hi, p⟩
  obtain ⟨q1, q2⟩ := hl i σ H hi p
  by_cases hlt : i < n
  · have e1 : xs1[i]? = some (xs1[i]'(by omega)) := List.getElem?_eq_getElem _
    have e2 : xs2[i]? = some (xs2[i]'(by omega)) := List.getElem?_eq_getElem _
    refine .inr ⟨⟨xs1, xs2, _, _, q1, q2, e1, e2⟩, Pv (i + 1), fun σ' H' p' => ⟨n - (i + 1), by omega, rfl, hlt, p'⟩, fun v H' y => ?_⟩
    obtain ⟨T, y1, y2, rfl, hT, rfl, f1, f2⟩ := y
    exact hs i y1 y2 T σ H (f1 xs1 q1) (f2 xs2 q2) hT p
  · have e : i = n := by omega
    subst e
    exact .inl ⟨⟨xs1, xs2, q1, q2, by omega, by omega, .inl (by omega)⟩, hd σ H p⟩
theorem lc_zip2 {K : PySem.W.Frag} {z1 z2 : ZS} {xs1 xs2 : List V} {n : Nat} {g : TG} {tt : TT} {te : TE} {vs : List Nat} {σ : L2.St} {H1 : Hp} {D : Addr} {Qd : Hp → Prop} (n1 : xs1.length = n) (n2 : xs2.length = n) (Pv : Nat → Hp → Prop) (h0 : Pv 0 (upd H1 D (.lst []))) (hl : ∀ i H, i ≤ n → Pv i H → z1.at K H xs1 ∧ z2.at K H xs2)
    (hs : ∀ (i : Nat) (x1 x2 : V) (T : Addr) (H : Hp), xs1[i]? = some x1 → xs2[i]? = some x2 → H T = none → Pv i H → g (.ref T) (wipe σ vs) (upd H T (.tup [x1, x2])) fun σ2 H2 => wipe σ2 vs = wipe σ vs ∧ tt σ2 H2 fun b H3 =>
      if b = true then te σ2 H3 fun y H4 => ∃ acc, H4 D = some (.lst acc) ∧ acc.length < sizeLine ∧ Pv (i + 1) (upd H4 D (.lst (acc ++ [y]))) else Pv (i + 1) H3) (hd : ∀ H, Pv n H → Qd H) :
    ∃ W : Nat → Nat → Hp → Prop, (∃ m, W 0 m (upd H1 D (.lst []))) ∧ ∀ i m H, W i m H →
      ((Itz2 K z1 z2).stop i H ∧ Qd H) ∨ ((Itz2 K z1 z2).go i H ∧ ∃ Nx : Hp → Prop, (∀ H', Nx H' → ∃ m', m' < m ∧ W (i + 1) m' H') ∧ ∀ x H', (Itz2 K z1 z2).yld i H x H' → g x (wipe σ vs) H' fun σ2 H2 => wipe σ2 vs = wipe σ vs ∧ tt σ2 H2 fun b H3 =>
        if b = true then te σ2 H3 fun y H4 => ∃ acc, H4 D = some (.lst acc) ∧ acc.length < sizeLine ∧ Nx (upd H4 D (.lst (acc ++ [y]))) else Nx H3) := by
  refine ⟨fun i m H => m = n - i ∧ i ≤ n ∧ Pv i H, ⟨n, by simp, Nat.zero_le _, h0⟩, ?_⟩
  rintro i m H ⟨rfl, hi, p⟩
  obtain ⟨q1, q2⟩ := hl i H hi p
  by_cases hlt : i < n
  · have e1 : xs1[i]? = some (xs1[i]'(by omega)) := List.getElem?_eq_getElem _
    have e2 : xs2[i]? = some (xs2[i]'(by omega)) := List.getElem?_eq_getElem _
    refine .inr ⟨⟨xs1, xs2, _, _, q1, q2, e1, e2⟩, Pv (i + 1), fun H' p' => ⟨n - (i + 1), by omega, rfl, hlt, p'⟩, fun v H' y => ?_⟩
    obtain ⟨T, y1, y2, rfl, hT, rfl, f1, f2⟩ := y
    exact hs i y1 y2 T H (f1 xs1 q1) (f2 xs2 q2) hT p
  · have e : i = n := by omega
    subst e
    exact .inl ⟨⟨xs1, xs2, q1, q2, by omega, by omega, .inl (by omega)⟩, hd H p⟩
theorem gx_zip2 {α : Type} {K : PySem.W.Frag} {z1 z2 : ZS} {xs1 xs2 : List V} {n : Nat} {g : TG} {tt : TT} {te : TE} {vs : List Nat} {σ0 : L2.St} {End : α → Hp → Prop} {Yd : α → V → Hp → (α → Hp → Prop) → Prop} {a0 : α} {H0 : Hp} (n1 : xs1.length = n) (n2 : xs2.length = n) (Pv : Nat → α → Hp → Prop) (h0 : Pv 0 a0 H0) (hl : ∀ i c H, i ≤ n → Pv i c H → z1.at K H xs1 ∧ z2.at K H xs2)
    (hs : ∀ (i : Nat) (x1 x2 : V) (T : Addr) (c : α) (H : Hp), xs1[i]? = some x1 → xs2[i]? = some x2 → H T = none → Pv i c H → g (.ref T) σ0 (upd H T (.tup [x1, x2])) fun σ2 H2 => wipe σ2 vs = σ0 ∧ tt σ2 H2 fun b H3 => if b = true then te σ2 H3 fun y H4 => Yd c y H4 (Pv (i + 1)) else Pv (i + 1) c H3) (hd : ∀ c H, Pv n c H → End c H) :
    ∃ W : Nat → Nat → α → Hp → Prop, (∃ m, W 0 m a0 H0) ∧ tGx (Itz2 K z1 z2) g tt te σ0 vs End Yd W := by
  refine ⟨fun i m c H => m = n - i ∧ i ≤ n ∧ Pv i c H, ⟨n, rfl, Nat.zero_le _, h0⟩, ?_⟩
  rintro i m c H ⟨rfl, hi, p⟩
  obtain ⟨q1, q2⟩ := hl i c H hi p
  by_cases hlt : i < n
  · have e1 : xs1[i]? = some (xs1[i]'(by omega)) := List.getElem?_eq_getElem _
    have e2 : xs2[i]? = some (xs2[i]'(by omega)) := List.getElem?_eq_getElem _
    refine .inr ⟨⟨xs1, xs2, _, _, q1, q2, e1, e2⟩, Pv (i + 1), fun c' H' p' => ⟨n - (i + 1), by omega, rfl, hlt, p'⟩, fun v H' y => ?_⟩
    obtain ⟨T, y1, y2, rfl, hT, rfl, f1, f2⟩ := y
    exact hs i y1 y2 T c H (f1 xs1 q1) (f2 xs2 q2) hT p
  · have e : i = n := by omega
    subst e
    exact .inl ⟨⟨xs1, xs2, q1, q2, by omega, by omega, .inl (by omega)⟩, hd c H p⟩
def Itz3 (K : PySem.W.Frag) (z1 z2 z3 : ZS) : It :=
  ⟨fun i H => ∃ (xs1 xs2 xs3 : List V) (x1 x2 x3 : V), z1.at K H xs1 ∧ z2.at K H xs2 ∧ z3.at K H xs3 ∧ xs1[i]? = some x1 ∧ xs2[i]? = some x2 ∧ xs3[i]? = some x3,
    fun i H v H' => ∃ T x1 x2 x3, v = .ref T ∧ H T = none ∧ H' = upd H T (.tup [x1, x2, x3]) ∧ (∀ xs, z1.at K H xs → xs[i]? = some x1) ∧ (∀ xs, z2.at K H xs → xs[i]? = some x2) ∧ (∀ xs, z3.at K H xs → xs[i]? = some x3),
    fun i H => ∃ xs1 xs2 xs3 : List V, z1.at K H xs1 ∧ z2.at K H xs2 ∧ z3.at K H xs3 ∧ i ≤ xs1.length ∧ i ≤ xs2.length ∧ i ≤ xs3.length ∧ (i = xs1.length ∨ i = xs2.length ∨ i = xs3.length)⟩
theorem turn_zip3 {P : Program} {w : World} {K : PySem.W.Frag} {elts : List Expr} {kk : Nat} {tpos : Pos} {z1 z2 z3 : ZS} {n : Nat} (l1 : z1.lt n) (l2 : z2.lt n) (l3 : z3.lt n) :
    Turn P w K (.Tuple elts kk tpos) (Itz3 K z1 z2 z3) [n + 5, n + 3, n + 4, n, n + 1, n + 2] (n + 5) (fun i h => IsZip h (n + 5) (n + 3) (n + 4) .none ∧ IsTupOf3 h (n + 3) (.ref (n)) (.ref (n + 1)) (.ref (n + 2)) ∧ (∃ x1 x2 x3, IsTupOf3 h (n + 4) x1 x2 x3) ∧ z1.it (n) i h ∧ z2.it (n + 1) i h ∧ z3.it (n + 2) i h) where
  mem := List.mem_cons_self
  obj := fun i h st c hc => by
    obtain ⟨hz, hTI, ⟨x1, x2, x3, hTO⟩, st1, st2, st3⟩ := st
    have e' : c = n + 5 ∨ c = n + 3 ∨ c = n + 4 ∨ c = n ∨ c = n + 1 ∨ c = n + 2 := by simpa using hc
    rcases e' with q | q | q | q | q | q
    · rw [q]; exact ⟨_, hz, fun v q => nomatch q⟩
    · rw [q]; exact ⟨_, hTI, fun v q => nomatch q⟩
    · rw [q]; exact ⟨_, hTO, fun v q => nomatch q⟩
    · rw [q]; exact ZS.obj (z := z1) st1
    · rw [q]; exact ZS.obj (z := z2) st2
    · rw [q]; exact ZS.obj (z := z3) st3
  keep := fun i h h' st k => by
    obtain ⟨hz, hTI, ⟨x1, x2, x3, hTO⟩, st1, st2, st3⟩ := st
    exact ⟨k _ (by simp) _ hz, k _ (by simp) _ hTI, ⟨x1, x2, x3, k _ (by simp) _ hTO⟩, ZS.move (z := z1) (fun o q => k _ (by simp) o q) st1, ZS.move (z := z2) (fun o q => k _ (by simp) o q) st2, ZS.move (z := z3) (fun o q => k _ (by simp) o q) st3⟩
  item := by
    intro X hP hw hK hc i pins s σ H E I hf st hg
    subst hP hw hK
    obtain ⟨hz, hTI, ⟨y1, y2, y3, hTO⟩, st1, st2, st3⟩ := st
    obtain ⟨xs1, xs2, xs3, x1, x2, x3, q1, q2, q3, h1, h2, h3⟩ := hg
    have hh : X.A.in1.handled = none := I.ok.hd hc
    obtain ⟨fp1, P1, St1, D1, m1, f1, s1, b1, p1⟩ := z1.draws (A := X.A.in1) I q1 hh (ZS.off_of (by omega) l1) st1
    have nf1 : ∀ c, n ≤ c → c ≠ n → c ∉ fp1 := fun c h1 h2 h3 => by
      rcases f1 c h3 with e | e
      · exact h2 e
      · exact e (ZS.off_of h1 l1)
    obtain ⟨fp2, P2, St2, D2, m2, f2, s2, b2, p2⟩ := z2.draws (A := X.A.in1) I q2 hh (ZS.off_of (by omega) l2) st2
    have nf2 : ∀ c, n ≤ c → c ≠ n + 1 → c ∉ fp2 := fun c h1 h2 h3 => by
      rcases f2 c h3 with e | e
      · exact h2 e
      · exact e (ZS.off_of h1 l2)
    obtain ⟨fp3, P3, St3, D3, m3, f3, s3, b3, p3⟩ := z3.draws (A := X.A.in1) I q3 hh (ZS.off_of (by omega) l3) st3
    have nf3 : ∀ c, n ≤ c → c ≠ n + 2 → c ∉ fp3 := fun c h1 h2 h3 => by
      rcases f3 c h3 with e | e
      · exact h2 e
      · exact e (ZS.off_of h1 l3)
    have t1 : i < xs1.length := (List.getElem?_eq_some_iff.mp h1).1
    have t2 : i < xs2.length := (List.getElem?_eq_some_iff.mp h2).1
    have t3 : i < xs3.length := (List.getElem?_eq_some_iff.mp h3).1
    have hzl : n + 5 < s.heap.objs.size := Heap.lt_size hz
    have S : ZipSep3 (n + 5) (n + 3) (n + 4) (n) (n + 1) (n + 2) fp1 fp2 fp3 := { TIz := (ne' (a := n + 3) (b := n + 5) (by omega)), TOz := (ne' (a := n + 4) (b := n + 5) (by omega)), TITO := (ne' (a := n + 3) (b := n + 4) (by omega)), TIi1 := (ne' (a := n + 3) (b := n) (by omega)), mem1 := m1, zf1 := nf1 (n + 5) (by omega) (ne' (a := n + 5) (b := n) (by omega)), Tf1 := nf1 (n + 4) (by omega) (ne' (a := n + 4) (b := n) (by omega)), TIi2 := (ne' (a := n + 3) (b := n + 1) (by omega)), mem2 := m2, zf2 := nf2 (n + 5) (by omega) (ne' (a := n + 5) (b := n + 1) (by omega)), Tf2 := nf2 (n + 4) (by omega) (ne' (a := n + 4) (b := n + 1) (by omega)), TIi3 := (ne' (a := n + 3) (b := n + 2) (by omega)), mem3 := m3, zf3 := nf3 (n + 5) (by omega) (ne' (a := n + 5) (b := n + 2) (by omega)), Tf3 := nf3 (n + 4) (by omega) (ne' (a := n + 4) (b := n + 2) (by omega)), sep1_2 := nf2 (n) (by omega) (ne' (a := n) (b := n + 1) (by omega)), sep1_3 := nf3 (n) (by omega) (ne' (a := n) (b := n + 2) (by omega)), sep2_1 := nf1 (n + 1) (by omega) (ne' (a := n + 1) (b := n) (by omega)), sep2_3 := nf3 (n + 1) (by omega) (ne' (a := n + 1) (b := n + 2) (by omega)), sep3_1 := nf1 (n + 2) (by omega) (ne' (a := n + 2) (b := n) (by omega)), sep3_2 := nf2 (n + 2) (by omega) (ne' (a := n + 2) (b := n + 1) (by omega)) }
    refine wpAny_pyNext_zipD3_item S D1 D2 D3 hz hTI hTO s1 s2 s3 t1 t2 t3 fun u1 u2 u3 h' tk g1 g2 g3 z' TO' w1 w2 w3 hT hsz hk => ?_
    refine ⟨_, rfl, wpAny_letOwnedTupleGo_zip (s := { s with heap := h', toks := tk }) z' fun h'' z'' sb => ?_⟩
    obtain ⟨x1', e1, ru1⟩ := p1 i u1 g1
    rw [h1] at e1
    cases Option.some.inj e1
    obtain ⟨x2', e2, ru2⟩ := p2 i u2 g2
    rw [h2] at e2
    cases Option.some.inj e2
    obtain ⟨x3', e3, ru3⟩ := p3 i u3 g3
    rw [h3] at e3
    cases Option.some.inj e3
    have hT2 : h''.get? s.heap.objs.size = some { cls := .type "tuple", data := .seq #[u1, u2, u3] } := (sb.2 _ (Nat.ne_of_gt hzl)).trans hT
    have new : ObjOk X.prog X.w (upd H s.heap.objs.size (.tup [x1, x2, x3])) h'' s.heap.objs.size (.tup [x1, x2, x3]) :=
      ⟨by show 3 ≤ sizeLine; decide, [u1, u2, u3], .cons ru1 (.cons ru2 (.cons ru3 (.nil))), ⟨_, hT2, rfl, _, rfl⟩⟩
    have out5 : ∀ c, c ∉ [n + 5, n + 3, n + 4, n, n + 1, n + 2] → c ≠ n + 5 ∧ c ≠ n + 4 ∧ c ≠ n ∧ c ≠ n + 1 ∧ c ≠ n + 2 := fun c hb => ⟨fun q' => hb (by simp [q']), fun q' => hb (by simp [q']), fun q' => hb (by simp [q']), fun q' => hb (by simp [q']), fun q' => hb (by simp [q'])⟩
    have I1 : Inv X pins σ (upd H s.heap.objs.size (.tup [x1, x2, x3])) { s with heap := h'', toks := tk } :=
      I.turnedNew (t' := tk) (ch := [n + 5, n + 3, n + 4, n, n + 1, n + 2]) (fun c o hb q => by
        obtain ⟨a1, a2, b1', b2', b3'⟩ := out5 c hb
        exact (sb.2 c a1).trans (hk c o a1 a2 b1' b2' b3' q)) hf (Nat.le_refl _) new
    refine ⟨.ref s.heap.objs.size, _, I1, rfl, ⟨_, x1, x2, x3, rfl, I.hok.fresh (Nat.le_refl _), rfl, fun l hl => by rw [ZS.inj I hl q1]; exact h1, fun l hl => by rw [ZS.inj I hl q2]; exact h2, fun l hl => by rw [ZS.inj I hl q3]; exact h3⟩, ⟨z'', ?_, ⟨u1, u2, u3, ?_⟩, ?_, ?_, ?_⟩, fun c hcm => ?_⟩
    · exact (sb.2 (n + 3) (ne' (a := n + 3) (b := n + 5) (by omega))).trans (hk (n + 3) _ (ne' (a := n + 3) (b := n + 5) (by omega)) (ne' (a := n + 3) (b := n + 4) (by omega)) (ne' (a := n + 3) (b := n) (by omega)) (ne' (a := n + 3) (b := n + 1) (by omega)) (ne' (a := n + 3) (b := n + 2) (by omega)) hTI)
    · exact (sb.2 (n + 4) (ne' (a := n + 4) (b := n + 5) (by omega))).trans TO'
    · exact ZS.move (z := z1) (fun o q => (sb.2 (n) (ne' (a := n) (b := n + 5) (by omega))).trans q) (b1 _ _ w1)
    · exact ZS.move (z := z2) (fun o q => (sb.2 (n + 1) (ne' (a := n + 1) (b := n + 5) (by omega))).trans q) (b2 _ _ w2)
    · exact ZS.move (z := z3) (fun o q => (sb.2 (n + 2) (ne' (a := n + 2) (b := n + 5) (by omega))).trans q) (b3 _ _ w3)
    · have hlt : c < s.heap.objs.size := by
        have e' : c = n + 5 ∨ c = n + 3 ∨ c = n + 4 ∨ c = n ∨ c = n + 1 ∨ c = n + 2 := by simpa using hcm
        rcases e' with q | q | q | q | q | q
        · rw [q]; exact (show (n + 5 : Nat) < s.heap.objs.size by omega)
        · rw [q]; exact (show (n + 3 : Nat) < s.heap.objs.size by omega)
        · rw [q]; exact (show (n + 4 : Nat) < s.heap.objs.size by omega)
        · rw [q]; exact (show (n : Nat) < s.heap.objs.size by omega)
        · rw [q]; exact (show (n + 1 : Nat) < s.heap.objs.size by omega)
        · rw [q]; exact (show (n + 2 : Nat) < s.heap.objs.size by omega)
      rw [upd_ne (Nat.ne_of_lt hlt)]
      exact (hf c hcm).1
  done := by
    intro X hP hw hK hc i pins s σ H E I hf st hg
    subst hP hw hK
    obtain ⟨hz, hTI, ⟨y1, y2, y3, hTO⟩, st1, st2, st3⟩ := st
    obtain ⟨xs1, xs2, xs3, q1, q2, q3, t1, t2, t3, hend⟩ := hg
    have hh : X.A.in1.handled = none := I.ok.hd hc
    obtain ⟨fp1, P1, St1, D1, m1, f1, s1, b1, p1⟩ := z1.draws (A := X.A.in1) I q1 hh (ZS.off_of (by omega) l1) st1
    have nf1 : ∀ c, n ≤ c → c ≠ n → c ∉ fp1 := fun c h1 h2 h3 => by
      rcases f1 c h3 with e | e
      · exact h2 e
      · exact e (ZS.off_of h1 l1)
    obtain ⟨fp2, P2, St2, D2, m2, f2, s2, b2, p2⟩ := z2.draws (A := X.A.in1) I q2 hh (ZS.off_of (by omega) l2) st2
    have nf2 : ∀ c, n ≤ c → c ≠ n + 1 → c ∉ fp2 := fun c h1 h2 h3 => by
      rcases f2 c h3 with e | e
      · exact h2 e
      · exact e (ZS.off_of h1 l2)
    obtain ⟨fp3, P3, St3, D3, m3, f3, s3, b3, p3⟩ := z3.draws (A := X.A.in1) I q3 hh (ZS.off_of (by omega) l3) st3
    have nf3 : ∀ c, n ≤ c → c ≠ n + 2 → c ∉ fp3 := fun c h1 h2 h3 => by
      rcases f3 c h3 with e | e
      · exact h2 e
      · exact e (ZS.off_of h1 l3)
    have S : ZipSep3 (n + 5) (n + 3) (n + 4) (n) (n + 1) (n + 2) fp1 fp2 fp3 := { TIz := (ne' (a := n + 3) (b := n + 5) (by omega)), TOz := (ne' (a := n + 4) (b := n + 5) (by omega)), TITO := (ne' (a := n + 3) (b := n + 4) (by omega)), TIi1 := (ne' (a := n + 3) (b := n) (by omega)), mem1 := m1, zf1 := nf1 (n + 5) (by omega) (ne' (a := n + 5) (b := n) (by omega)), Tf1 := nf1 (n + 4) (by omega) (ne' (a := n + 4) (b := n) (by omega)), TIi2 := (ne' (a := n + 3) (b := n + 1) (by omega)), mem2 := m2, zf2 := nf2 (n + 5) (by omega) (ne' (a := n + 5) (b := n + 1) (by omega)), Tf2 := nf2 (n + 4) (by omega) (ne' (a := n + 4) (b := n + 1) (by omega)), TIi3 := (ne' (a := n + 3) (b := n + 2) (by omega)), mem3 := m3, zf3 := nf3 (n + 5) (by omega) (ne' (a := n + 5) (b := n + 2) (by omega)), Tf3 := nf3 (n + 4) (by omega) (ne' (a := n + 4) (b := n + 2) (by omega)), sep1_2 := nf2 (n) (by omega) (ne' (a := n) (b := n + 1) (by omega)), sep1_3 := nf3 (n) (by omega) (ne' (a := n) (b := n + 2) (by omega)), sep2_1 := nf1 (n + 1) (by omega) (ne' (a := n + 1) (b := n) (by omega)), sep2_3 := nf3 (n + 1) (by omega) (ne' (a := n + 1) (b := n + 2) (by omega)), sep3_1 := nf1 (n + 2) (by omega) (ne' (a := n + 2) (b := n) (by omega)), sep3_2 := nf2 (n + 2) (by omega) (ne' (a := n + 2) (b := n + 1) (by omega)) }
    exact wpAny_pyNext_zipD3_end S D1 D2 D3 hz hTI hTO s1 s2 s3 t1 t2 t3 hend fun h' tk hk => ⟨rfl, I.turnedL (t' := tk) (ch := [n + 5, n + 3, n + 4, n, n + 1, n + 2]) (fun c o hb q =>
      hk c o (fun q' => hb (by simp [q'])) (fun q' => hb (by simp [q'])) (fun q' => hb (by simp [q'])) (fun q' => hb (by simp [q'])) (fun q' => hb (by simp [q'])) q) hf⟩
  self := fun A i s Q E st h => wpAny_pyIter_zip st.1 h
def iZip3 (K : PySem.W.Frag) (ta : TA) : TI := fun σ H R => ta σ H fun vs H1 => ∃ (z1 z2 z3 : ZS) (xs1 xs2 xs3 : List V), vs = [z1.val, z2.val, z3.val] ∧ z1.at K H1 xs1 ∧ z2.at K H1 xs2 ∧ z3.at K H1 xs3 ∧ R (Itz3 K z1 z2 z3) H1
theorem pi_zip3 {X : Cx} {e e2 e3 : Expr} {ta : TA} {p pos tpos : Pos} {elts : List Expr} {kk : Nat} (hg : Gl X "zip") (hm : X.mg "zip" = none) (ha : PA X [e, e2, e3] ta)
    (hs : starEach [e, e2, e3] X.env = (false, eval e X.env) :: starEach [e2, e3] X.env := by rfl) (hpl : (backTo pos (starEach [e2, e3] X.env)).any (·.1) = false := by rfl) :
    PI X (.Tuple elts kk tpos) (.Call (.Name "zip" p) [e, e2, e3] [] pos) (iZip3 X.K ta) := by
  refine ⟨fun pins s σ H R I h => ?_⟩
  refine Call_ (ld_blt I hg hm PyProof.Rows.boot_zip (PyProof.Rows.callWith_type1 (thn (ha.run pos pins s σ H _ I h) fun us s1 ⟨vs, H1, I1, r1, q1⟩ => ?_) hs hpl))
  obtain ⟨z1, z2, z3, xs1, xs2, xs3, ex, q1, q2, q3, q⟩ := q1
  subst ex
  cases r1 with
  | cons r1 rr =>
    cases rr with
    | cons r2 rr =>
      cases rr with
      | cons r3 rr =>
        cases rr
        obtain ⟨o1, G1, B1, h1, i1, l1⟩ := z1.begins I1 q1 r1
        obtain ⟨o2, G2, B2, h2, i2, l2⟩ := z2.begins I1 q2 r2
        obtain ⟨o3, G3, B3, h3, i3, l3⟩ := z3.begins I1 q3 r3
        have fresh5 : ∀ c, c ∈ [s1.heap.objs.size + 5, s1.heap.objs.size + 3, s1.heap.objs.size + 4, s1.heap.objs.size, s1.heap.objs.size + 1, s1.heap.objs.size + 2] → FpOk X pins H1 c := fun c hcm => by
          have e' : c = s1.heap.objs.size + 5 ∨ c = s1.heap.objs.size + 3 ∨ c = s1.heap.objs.size + 4 ∨ c = s1.heap.objs.size ∨ c = s1.heap.objs.size + 1 ∨ c = s1.heap.objs.size + 2 := by simpa using hcm
          have hle : s1.heap.objs.size ≤ c := by omega
          exact I1.fpOk hle (I1.hok.fresh hle)
        refine zip_begins3 B1 B2 B3 h1 h2 h3 fun h' hz hTI hTO g1 g2 g3 hsz hk => wpAny_pyIter_zip hz ?_
        have I2 : Inv X pins σ H1 { s1 with heap := h' } := I1.kept (t' := s1.toks) hk
        exact ⟨s1.heap.objs.size + 5, [s1.heap.objs.size + 5, s1.heap.objs.size + 3, s1.heap.objs.size + 4, s1.heap.objs.size, s1.heap.objs.size + 1, s1.heap.objs.size + 2], _, _, H1, rfl, I2, turn_zip3 l1 l2 l3, ⟨hz, hTI, ⟨_, _, _, hTO⟩, i1 _ _ g1, i2 _ _ g2, i3 _ _ g3⟩, fresh5, q⟩
theorem for_zip3 {K : PySem.W.Frag} {z1 z2 z3 : ZS} {xs1 xs2 xs3 : List V} {n : Nat} {g : TG} {tb : TS} {D : Ends} {σ : L2.St} {H : Hp} (n1 : xs1.length = n) (n2 : xs2.length = n) (n3 : xs3.length = n) (Pv : Nat → L2.St → Hp → Prop) (h0 : Pv 0 σ H) (hl : ∀ i σ H, i ≤ n → Pv i σ H → z1.at K H xs1 ∧ z2.at K H xs2 ∧ z3.at K H xs3)
    (hs : ∀ (i : Nat) (x1 x2 x3 : V) (T : Addr) (σ : L2.St) (H : Hp), xs1[i]? = some x1 → xs2[i]? = some x2 → xs3[i]? = some x3 → H T = none → Pv i σ H → g (.ref T) σ (upd H T (.tup [x1, x2, x3])) fun σ2 H2 => tb { D with nx := Pv (i + 1), ct := Pv (i + 1), bk := D.nx } σ2 H2) (hd : ∀ σ H, Pv n σ H → D.nx σ H) :
    ∃ W : Nat → Nat → L2.St → Hp → Prop, (∃ m, W 0 m σ H) ∧ ∀ i m σ H, W i m σ H →
      ((Itz3 K z1 z2 z3).stop i H ∧ D.nx σ H) ∨ ((Itz3 K z1 z2 z3).go i H ∧ ∃ N : L2.St → Hp → Prop, (∀ σ' H', N σ' H' → ∃ m', m' < m ∧ W (i + 1) m' σ' H') ∧ ∀ v H', (Itz3 K z1 z2 z3).yld i H v H' → g v σ H' fun σ2 H2 => tb { D with nx := N, ct := N, bk := D.nx } σ2 H2) := by
  refine ⟨fun i m σ H => m = n - i ∧ i ≤ n ∧ Pv i σ H, ⟨n, rfl, Nat.zero_le _, h0⟩, ?_⟩
  rintro i m σ H ⟨rfl, hi, p⟩
  obtain ⟨q1, q2, q3⟩ := hl i σ H hi p
  by_cases hlt : i < n
  · have e1 : xs1[i]? = some (xs1[i]'(by omega)) := List.getElem?_eq_getElem _
    have e2 : xs2[i]? = some (xs2[i]'(by omega)) := List.getElem?_eq_getElem _
    have e3 : xs3[i]? = some (xs3[i]'(by omega)) := List.getElem?_eq_getElem _
    refine .inr ⟨⟨xs1, xs2, xs3, _, _, _, q1, q2, q3, e1, e2, e3⟩, Pv (i + 1), fun σ' H' p' => ⟨n - (i + 1), by omega, rfl, hlt, p'⟩, fun v H' y => ?_⟩
    obtain ⟨T, y1, y2, y3, rfl, hT, rfl, f1, f2, f3⟩ := y
    exact hs i y1 y2 y3 T σ H (f1 xs1 q1) (f2 xs2 q2) (f3 xs3 q3) hT p
  · have e : i = n := by omega
    subst e
    exact .inl ⟨⟨xs1, xs2, xs3, q1, q2, q3, by omega, by omega, by omega, .inl (by omega)⟩, hd σ H p⟩
theorem lc_zip3 {K : PySem.W.Frag} {z1 z2 z3 : ZS} {xs1 xs2 xs3 : List V} {n : Nat} {g : TG} {tt : TT} {te : TE} {vs : List Nat} {σ : L2.St} {H1 : Hp} {D : Addr} {Qd : Hp → Prop} (n1 : xs1.length = n) (n2 : xs2.length = n) (n3 : xs3.length = n) (Pv : Nat → Hp → Prop) (h0 : Pv 0 (upd H1 D (.lst []))) (hl : ∀ i H, i ≤ n → Pv i H → z1.at K H xs1 ∧ z2.at K H xs2 ∧ z3.at K H xs3)
    (hs : ∀ (i : Nat) (x1 x2 x3 : V) (T : Addr) (H : Hp), xs1[i]? = some x1 → xs2[i]? = some x2 → xs3[i]? = some x3 → H T = none → Pv i H → g (.ref T) (wipe σ vs) (upd H T (.tup [x1, x2, x3])) fun σ2 H2 => wipe σ2 vs = wipe σ vs ∧ tt σ2 H2 fun b H3 =>
      if b = true then te σ2 H3 fun y H4 => ∃ acc, H4 D = some (.lst acc) ∧ acc.length < sizeLine ∧ Pv (i + 1) (upd H4 D (.lst (acc ++ [y]))) else Pv (i + 1) H3) (hd : ∀ H, Pv n H → Qd H) :
    ∃ W : Nat → Nat → Hp → Prop, (∃ m, W 0 m (upd H1 D (.lst []))) ∧ ∀ i m H, W i m H →
      ((Itz3 K z1 z2 z3).stop i H ∧ Qd H) ∨ ((Itz3 K z1 z2 z3).go i H ∧ ∃ Nx : Hp → Prop, (∀ H', Nx H' → ∃ m', m' < m ∧ W (i + 1) m' H') ∧ ∀ x H', (Itz3 K z1 z2 z3).yld i H x H' → g x (wipe σ vs) H' fun σ2 H2 => wipe σ2 vs = wipe σ vs ∧ tt σ2 H2 fun b H3 =>
        if b = true then te σ2 H3 fun y H4 => ∃ acc, H4 D = some (.lst acc) ∧ acc.length < sizeLine ∧ Nx (upd H4 D (.lst (acc ++ [y]))) else Nx H3) := by
  refine ⟨fun i m H => m = n - i ∧ i ≤ n ∧ Pv i H, ⟨n, by simp, Nat.zero_le _, h0⟩, ?_⟩
  rintro i m H ⟨rfl, hi, p⟩
  obtain ⟨q1, q2, q3⟩ := hl i H hi p
  by_cases hlt : i < n
  · have e1 : xs1[i]? = some (xs1[i]'(by omega)) := List.getElem?_eq_getElem _
    have e2 : xs2[i]? = some (xs2[i]'(by omega)) := List.getElem?_eq_getElem _
    have e3 : xs3[i]? = some (xs3[i]'(by omega)) := List.getElem?_eq_getElem _
    refine .inr ⟨⟨xs1, xs2, xs3, _, _, _, q1, q2, q3, e1, e2, e3⟩, Pv (i + 1), fun H' p' => ⟨n - (i + 1), by omega, rfl, hlt, p'⟩, fun v H' y => ?_⟩
    obtain ⟨T, y1, y2, y3, rfl, hT, rfl, f1, f2, f3⟩ := y
    exact hs i y1 y2 y3 T H (f1 xs1 q1) (f2 xs2 q2) (f3 xs3 q3) hT p
  · have e : i = n := by omega
    subst e
    exact .inl ⟨⟨xs1, xs2, xs3, q1, q2, q3, by omega, by omega, by omega, .inl (by omega)⟩, hd H p⟩
theorem gx_zip3 {α : Type} {K : PySem.W.Frag} {z1 z2 z3 : ZS} {xs1 xs2 xs3 : List V} {n : Nat} {g : TG} {tt : TT} {te : TE} {vs : List Nat} {σ0 : L2.St} {End : α → Hp → Prop} {Yd : α → V → Hp → (α → Hp → Prop) → Prop} {a0 : α} {H0 : Hp} (n1 : xs1.length = n) (n2 : xs2.length = n) (n3 : xs3.length = n) (Pv : Nat → α → Hp → Prop) (h0 : Pv 0 a0 H0) (hl : ∀ i c H, i ≤ n → Pv i c H → z1.at K H xs1 ∧ z2.at K H xs2 ∧ z3.at K H xs3)
    (hs : ∀ (i : Nat) (x1 x2 x3 : V) (T : Addr) (c : α) (H : Hp), xs1[i]? = some x1 → xs2[i]? = some x2 → xs3[i]? = some x3 → H T = none → Pv i c H → g (.ref T) σ0 (upd H T (.tup [x1, x2, x3])) fun σ2 H2 => wipe σ2 vs = σ0 ∧ tt σ2 H2 fun b H3 => if b = true then te σ2 H3 fun y H4 => Yd c y H4 (Pv (i + 1)) else Pv (i + 1) c H3) (hd : ∀ c H, Pv n c H → End c H) :
    ∃ W : Nat → Nat → α → Hp → Prop, (∃ m, W 0 m a0 H0) ∧ tGx (Itz3 K z1 z2 z3) g tt te σ0 vs End Yd W := by
  refine ⟨fun i m c H => m = n - i ∧ i ≤ n ∧ Pv i c H, ⟨n, rfl, Nat.zero_le _, h0⟩, ?_⟩
  rintro i m c H ⟨rfl, hi, p⟩
  obtain ⟨q1, q2, q3⟩ := hl i c H hi p
  by_cases hlt : i < n
  · have e1 : xs1[i]? = some (xs1[i]'(by omega)) := List.getElem?_eq_getElem _
    have e2 : xs2[i]? = some (xs2[i]'(by omega)) := List.getElem?_eq_getElem _
    have e3 : xs3[i]? = some (xs3[i]'(by omega)) := List.getElem?_eq_getElem _
    refine .inr ⟨⟨xs1, xs2, xs3, _, _, _, q1, q2, q3, e1, e2, e3⟩, Pv (i + 1), fun c' H' p' => ⟨n - (i + 1), by omega, rfl, hlt, p'⟩, fun v H' y => ?_⟩
    obtain ⟨T, y1, y2, y3, rfl, hT, rfl, f1, f2, f3⟩ := y
    exact hs i y1 y2 y3 T c H (f1 xs1 q1) (f2 xs2 q2) (f3 xs3 q3) hT p
  · have e : i = n := by omega
    subst e
    exact .inl ⟨⟨xs1, xs2, xs3, q1, q2, q3, by omega, by omega, by omega, .inl (by omega)⟩, hd c H p⟩
end ZpG

end Gk

set_option Elab.async false
set_option linter.all false
set_option maxRecDepth 100000
set_option maxHeartbeats 1000000
set_option pp.maxSteps 1500
set_option pp.deepTerms false
namespace Gk
open PySem PySem.Spec PyProof.Rows L2
section
variable {P : Program} {w : World} {K : PySem.W.Frag} {mg : Str → Option Value} {base : Heap}
def rRepS : V → V → Hp → VK → Prop := fun x y H Q => ∃ (z : Str) (n : Int), x = .str z ∧ y = .int n ∧ z.length ≤ 16 ∧ 0 ≤ n ∧ n ≤ 1048576 ∧ Q (.str (Txt.mul z n)) H
theorem op_repS {X : Cx} : OpR X (binaryOp .Mult) rRepS := by
  intro pins s σ H x y v u Q I rx ry h
  obtain ⟨i, j, rfl, rfl, h1, h2, h3, q⟩ := h
  obtain ⟨t, rfl⟩ := rx
  obtain ⟨t', rfl⟩ := ry
  exact SB.mul (mulOk_of 16 1048576 h1 h3 (by omega) (by decide) (by decide)) fun t' tk => ⟨.str _, H, I.tok _, ⟨_, rfl⟩, q⟩

/-! ### what a draw keeps -/
theorem Ts.frF {H H' : Hp} {d l : Addr} {n : Int} (D : DeckF H d l n) (f : Fr d l H H') : Ts H H' := fun b xs e => by
  obtain ⟨ne, cs, z, y, hd, hl, r⟩ := D
  exact f b _ (ne_of e hd (by intro z; cases z)) (ne_of e hl (by intro z; cases z)) e
theorem tab_frF {H H' : Hp} {d l P : Addr} {n : Int} (D : DeckF H d l n) (f : Fr d l H H') (t : GxR.TabG H P) : GxR.TabG H' P := by
  obtain ⟨ps, e, tr⟩ := t
  obtain ⟨ne, cs, z, y, hd, hl, r⟩ := D
  exact ⟨ps, f _ _ (ne_of e hd (by intro z; cases z)) (ne_of e hl (by intro z; cases z)) e, tr⟩
theorem none_of_frF {d l p : Addr} {H H' : Hp} {n : Int} (f : Fr d l H H') (D : DeckF H' d l n) (h : H' p = none) : H p = none := by
  have o := D.off h
  cases z : H p with
  | none => rfl
  | some u => rw [f _ _ o.1 o.2 z] at h; cases h

/-! ### drawn tables (k07, k09 to k13) -/
def sg (b : Bool) : Str := SX.S [if b = true then 49 else 48]
theorem joinL_nil : ∀ l : List (List Nat), TL.joinL [] l = l.flatten
  | [] => rfl
  | [p] => by simp [TL.joinL]
  | p :: q :: r => by
    show p ++ ([] ++ TL.joinL [] (q :: r)) = _
    rw [joinL_nil (q :: r)]
    rfl
theorem join_sg (bs : List Bool) : Txt.join (Str.ofString "") (bs.map sg) = tabOf bs := by
  have e : bs.map sg = (bs.map fun b => [if b = true then 49 else 48]).map SX.S := by rw [List.map_map]; rfl
  have z : Str.ofString "" = SX.S [] := by decide +kernel
  rw [e, z, SX.join_S, joinL_nil]
  have : (bs.map fun b => [if b = true then 49 else 48]).flatten = bs.map fun b => if b = true then 49 else 48 := by
    clear e z
    induction bs with
    | nil => rfl
    | cons b r ih => rw [List.map_cons, List.flatten_cons, ih]; rfl
  rw [this]
  rfl
theorem zo_S : Str.ofString "01" = SX.S [48, 49] := by decide +kernel
theorem Fr.upd {d l p : Addr} {H H' : Hp} {o : HO} (f : Fr d l H H') (h : H p = none) : Fr d l H (upd H' p o) := fun b u h1 h2 e => by
  rw [upd_ne (ne_of_none e h)]
  exact f b u h1 h2 e
theorem size07 {k : Nat} (h : k = 1 ∨ k = 2 ∨ k = 3) : ∃ (N : Nat) (A B C : List Bool), 2 ^ k = N ∧ N ≤ 8 ∧ 2 ≤ N ∧ A.length = N ∧ B.length = N ∧ C.length = N ∧ atI [V.int 2, V.int 4, V.int 8] ((k : Int) - 1) = some (.int (N : Int)) ∧
    Txt.mul (Str.ofString "0") ((N : Int) - 1) ++ Str.ofString "1" = tabOf A ∧ Str.ofString "0" ++ Txt.mul (Str.ofString "1") ((N : Int) - 1) = tabOf B ∧
    (Txt.mul (Str.ofString "0") ((N : Int) - 1)).length = N - 1 ∧ (Txt.mul (Str.ofString "1") ((N : Int) - 1)).length = N - 1 ∧
    atI [V.str (Str.ofString "10"), V.str (Str.ofString "0110"), V.str (Str.ofString "01101001")] ((k : Int) - 1) = some (.str (tabOf C)) := by
  rcases h with rfl | rfl | rfl
  · exact ⟨2, [false, true], [false, true], [true, false], by decide, by decide, by decide, by decide, by decide, by decide, rfl, by decide +kernel, by decide +kernel, by decide +kernel, by decide +kernel, by decide +kernel⟩
  · exact ⟨4, [false, false, false, true], [false, true, true, true], [false, true, true, false], by decide, by decide, by decide, by decide, by decide, by decide, rfl, by decide +kernel, by decide +kernel, by decide +kernel, by decide +kernel, by decide +kernel⟩
  · exact ⟨8, [false, false, false, false, false, false, false, true], [false, true, true, true, true, true, true, true], [false, true, true, false, true, false, false, true], by decide, by decide, by decide, by decide, by decide, by decide, rfl, by decide +kernel, by decide +kernel, by decide +kernel, by decide +kernel, by decide +kernel⟩
def sp_table (K : PySem.W.Frag) : Sp := fun vs H Q _ => ∃ (d l : Addr) (n : Int) (k : Nat), vs = [.ref d, .int k] ∧ DeckF H d l n ∧ n < 100000000 ∧ 1 ≤ k ∧ k ≤ 3 ∧ ∀ H' bs, DeckF H' d l (n + 320) → Fr d l H H' → bs.length = 2 ^ k → Q (.str (tabOf bs)) H'
theorem ok_table (T : Tx K mg) : FnOk P w K mg base CX0 8 T.f_table T.fd_table ["_law_deck_here", "_law_many"] (sp_table K) := by
  refine T.F_table.ok sc_table (fun vs H Q E h => ?_) (fun cdv A outer s H vs Q E hr h => ?_)
  · obtain ⟨d, l, n, k, rfl, _⟩ := h
    rfl
  · obtain ⟨d, l, n, k, rfl, D, hn, k1, k3, q⟩ := h
    refine ⟨_, (pss_cons (ps_set (i := 2) sc_table.nd rfl (by first | exact .inl rfl | exact .inr rfl) (pe_call (ok_draw T) (hr.mono (by decide)) (by rfl) T.g_draw T.F_draw.kp T.b_draw .nil pass0 (pa_cons (pv 0) (pa_cons pe_int pa_nil)))) (pss_cons (ps_set (i := 3) sc_table.nd rfl (by first | exact .inl rfl | exact .inr rfl) (pe_ix ix_list (pe_lst (pa_cons pe_int (pa_cons pe_int (pa_cons pe_int pa_nil)))) (pe_op op_sub (pv 1) pe_int) (fun _ _ => rfl))) (pss_cons (ps_if (pt_cmpR op_eq (pv 2) pe_int (nomark _)) (pss_one (ps_ret (pe_op op_add_str (pe_op op_repS pe_str (pe_op op_sub (pv 3) pe_int)) pe_str))) pss_nil) (pss_cons (ps_if (pt_cmpR op_eq (pv 2) pe_int (nomark _)) (pss_one (ps_ret (pe_op op_add_str pe_str (pe_op op_repS pe_str (pe_op op_sub (pv 3) pe_int))))) pss_nil) (pss_cons (ps_if (pt_cmpR op_eq (pv 2) pe_int (nomark _)) (pss_one (ps_ret (pe_ix ix_list (pe_lst (pa_cons pe_str (pa_cons pe_str (pa_cons pe_str pa_nil)))) (pe_op op_sub (pv 1) pe_int) (fun _ _ => rfl)))) pss_nil) (pss_one (ps_ret (pe_join pe_str (pe_lc (own := [("_law_k", 4)]) (by rfl) sc_table.nd (pi_range1 (by rfl) T.m_range (pa_cons (pv 3) pa_nil)) (blkOk_by (own := [("_law_k", 4)]) (N := ["_law_deck_here", "_law_many", "_law_way", "_law_size", "_law_k"]) (sc := defScope s_table) (by decide +kernel)) (fun _ _ _ _ _ => (pg_name (i := 4) sc_table.nd rfl (by first | exact .inl rfl | exact .inr rfl))) (fun _ _ _ _ _ => pts_nil) (fun _ _ _ _ _ => (pe_item_str pe_str (pe_call (ok_draw T) (hr.mono (by decide)) (by rfl) T.g_draw T.F_draw.kp T.b_draw .nil pass0 (pa_cons (pv 0) (pa_cons pe_int pa_nil))) (fun _ _ => rfl)))))))))))), ?_⟩
    obtain ⟨N, A, B, C, hN, n8, n2, lA, lB, lC, a1, eA, eB, lA', lB', eC⟩ := size07 (show k = 1 ∨ k = 2 ∨ k = 3 by omega)
    rw [← hN] at lA lB lC
    refine ⟨.ref d, rfl, d, l, 6, n, rfl, D, by omega, by decide, by decide, fun H1 way D1 fr1 w0 w1 => ?_⟩
    refine ⟨sl3, fun p np => ?_⟩
    have s2 := same_upd (o := HO.lst [V.int 2, V.int 4, V.int 8]) np
    have h2 : upd H1 p (HO.lst [V.int 2, V.int 4, V.int 8]) p = some (.lst [V.int 2, V.int 4, V.int 8]) := upd_same
    generalize upd H1 p (HO.lst [V.int 2, V.int 4, V.int 8]) = H2 at s2 h2 ⊢
    have D2 := D1.same s2
    have fr2 := fr1.trans (Fr.of s2)
    refine ⟨.int k, rfl, _, _, rfl, rfl, p, _, (k : Int) - 1, _, rfl, rfl, SqL.of h2, a1, ?_⟩
    refine ⟨.int way, rfl, rfl, _, rfl, ite2 (fun _ => ?_) (fun _ => ?_)⟩
    · refine ⟨.int N, rfl, _, _, rfl, rfl, _, _, rfl, rfl, by decide, by omega, by omega, _, _, rfl, rfl, ?_, ?_⟩
      · rw [lA']
        exact Nat.le_trans (show N - 1 + 1 ≤ 8 by omega) (by decide)
      · rw [eA]
        exact q H2 A (D2.mono (by omega)) fr2 lA
    refine ⟨.int way, rfl, rfl, _, rfl, ite2 (fun _ => ?_) (fun _ => ?_)⟩
    · refine ⟨.int N, rfl, _, _, rfl, rfl, _, _, rfl, rfl, by decide, by omega, by omega, _, _, rfl, rfl, ?_, ?_⟩
      · rw [lB']
        exact Nat.le_trans (show 1 + (N - 1) ≤ 8 by omega) (by decide)
      · rw [eB]
        exact q H2 B (D2.mono (by omega)) fr2 lB
    refine ⟨.int way, rfl, rfl, _, rfl, ite2 (fun _ => ?_) (fun _ => ?_)⟩
    · refine ⟨sl3, fun p3 np3 => ?_⟩
      refine ⟨.int k, rfl, _, _, rfl, rfl, p3, _, (k : Int) - 1, _, rfl, rfl, SqL.of upd_same, eC, ?_⟩
      exact q _ C ((D2.same (same_upd np3)).mono (by omega)) (fr2.trans (Fr.new np3)) lC
    refine ⟨⟨_, rfl⟩, .int N, rfl, N, rfl, by omega, by omega, fun L nL => ?_⟩
    have oL := D2.off nL
    have nL0 : H L = none := none_of_frF fr2 D2 nL
    refine lc_range (lo := 0) (n := ((N : Nat) : Int).toNat) (fun i H' => DeckF H' d l (n + 32 + 32 * i) ∧ Fr d l H H' ∧ ∃ bs : List Bool, bs.length = i ∧ H' L = some (.lst (bs.map fun b => V.str (sg b)))) ⟨(D2.same (same_upd nL)).mono (by omega), fr2.trans (Fr.new nL), [], rfl, upd_same⟩ ?_ ?_
    · rintro i H6 hi ⟨D6, fr6, bs, lbs, hL⟩
      have hi' : i < N := by simpa using hi
      refine ⟨rfl, .ref d, rfl, d, l, 2, _, rfl, D6, by omega, by decide, by decide, fun H7 x D7 fr7 x0 x1 => ?_⟩
      have hL7 := fr7 _ _ oL.1 oL.2 hL
      refine ⟨Str.ofString "01", x, (if x = 1 then 49 else 48), rfl, rfl, x0, by omega, ?_, ?_, _, hL7, ?_, (D7.upd oL.1 oL.2).mono (by push_cast; omega), Fr.upd (fr6.trans fr7) nL0, bs ++ [decide (x = 1)], by rw [List.length_append, lbs]; rfl, ?_⟩
      · rw [zo_S, SX.S_len]
        exact x1
      · rw [zo_S]
        have : x = 0 ∨ x = 1 := by omega
        rcases this with rfl | rfl <;> rfl
      · rw [List.length_map, lbs]
        exact Nat.lt_of_lt_of_le (show i < 64 by omega) (by decide)
      · rw [upd_same, List.map_append]
        have : x = 0 ∨ x = 1 := by omega
        rcases this with rfl | rfl <;> rfl
    · rintro H6 ⟨D6, fr6, bs, lbs, hL⟩
      have lb : bs.length = 2 ^ k := by rw [lbs, hN]; simp
      refine ⟨Str.ofString "", L, bs.map sg, rfl, rfl, .inl (SqL.of (by rw [hL, List.map_map]; rfl)), ?_, ?_⟩
      · rw [List.map_map, List.length_map]
        have : (bs.map ((fun x => x.length) ∘ sg)).sum = bs.length := by
          clear hL lbs lb
          induction bs with
          | nil => rfl
          | cons b r ih =>
            rw [List.map_cons, List.sum_cons, ih, List.length_cons]
            cases b <;> (show 1 + _ = _; omega)
        rw [this]
        show bs.length + bs.length * 0 ≤ _
        have : bs.length ≤ 8 := by rw [lb, hN]; exact n8
        omega
      · rw [join_sg]
        exact q H6 bs (D6.mono (by
          have : (((N : Nat) : Int).toNat : Int) ≤ 8 := by omega
          omega)) fr6 lb

end
end Gk

set_option Elab.async false
set_option linter.all false
set_option maxRecDepth 100000
set_option maxHeartbeats 1000000
set_option pp.maxSteps 1500
set_option pp.deepTerms false
namespace Gk
open PySem PySem.Spec PyProof.Rows L2
section
variable {P : Program} {w : World} {K : PySem.W.Frag} {mg : Str → Option Value} {base : Heap}
/-! ### drawn rows, drawn delays -/
def sp_rows (K : PySem.W.Frag) : Sp := fun vs H Q _ => ∃ (d l : Addr) (n : Int) (m : Nat), vs = [.ref d, .int m] ∧ DeckF H d l n ∧ n < 100000000 ∧ m ≤ 100 ∧ ∀ r H' a b, DeckF H' d l (n + 64 * m + 32) → Fr d l H H' → Tk H' (.ref r) (chD a b) → a.length = m → b.length = m → Row01 a → Row01 b → Q (.ref r) H'
theorem ok_rows (T : Tx K mg) : FnOk P w K mg base CX0 8 T.f_rows T.fd_rows ["_law_deck_here", "_law_many"] (sp_rows K) := by
  refine T.F_rows.ok sc_rows (fun vs H Q E h => ?_) (fun cdv A outer s H vs Q E hr h => ?_)
  · obtain ⟨d, l, n, m, rfl, _⟩ := h
    rfl
  · obtain ⟨d, l, n, m, rfl, D, hn, hm, q⟩ := h
    refine ⟨_, (pss_cons (ps_set (i := 2) sc_rows.nd rfl (by first | exact .inl rfl | exact .inr rfl) (pe_callTy call_tuple_of (by rfl) T.m_tuple (by decide +kernel) (pa_cons (pe_lc (own := [("_law_k", 5)]) (by rfl) sc_rows.nd (pi_range1 (by rfl) T.m_range (pa_cons (pv 1) pa_nil)) (blkOk_by (own := [("_law_k", 5)]) (N := ["_law_deck_here", "_law_many", "_law_one", "_law_other", "_law_way", "_law_k", "_law_worth"]) (sc := defScope s_rows) (by decide +kernel)) (fun _ _ _ _ _ => (pg_name (i := 5) sc_rows.nd rfl (by first | exact .inl rfl | exact .inr rfl))) (fun _ _ _ _ _ => pts_nil) (fun _ _ _ _ _ => (pe_call (ok_draw T) (hr.mono (by decide)) (by rfl) T.g_draw T.F_draw.kp T.b_draw .nil pass0 (pa_cons (pv 0) (pa_cons pe_int pa_nil))))) pa_nil))) (pss_cons (ps_set (i := 3) sc_rows.nd rfl (by first | exact .inl rfl | exact .inr rfl) (pe_callTy call_tuple_of (by rfl) T.m_tuple (by decide +kernel) (pa_cons (pe_lc (own := [("_law_k", 5)]) (by rfl) sc_rows.nd (pi_range1 (by rfl) T.m_range (pa_cons (pv 1) pa_nil)) (blkOk_by (own := [("_law_k", 5)]) (N := ["_law_deck_here", "_law_many", "_law_one", "_law_other", "_law_way", "_law_k", "_law_worth"]) (sc := defScope s_rows) (by decide +kernel)) (fun _ _ _ _ _ => (pg_name (i := 5) sc_rows.nd rfl (by first | exact .inl rfl | exact .inr rfl))) (fun _ _ _ _ _ => pts_nil) (fun _ _ _ _ _ => (pe_call (ok_draw T) (hr.mono (by decide)) (by rfl) T.g_draw T.F_draw.kp T.b_draw .nil pass0 (pa_cons (pv 0) (pa_cons pe_int pa_nil))))) pa_nil))) (pss_cons (ps_set (i := 4) sc_rows.nd rfl (by first | exact .inl rfl | exact .inr rfl) (pe_call (ok_draw T) (hr.mono (by decide)) (by rfl) T.g_draw T.F_draw.kp T.b_draw .nil pass0 (pa_cons (pv 0) (pa_cons pe_int pa_nil)))) (pss_cons (ps_if (pt_cmpR op_eq (pv 4) pe_int (nomark _)) (pss_one (ps_ret (pe_tup (pa_cons (pv 2) (pa_cons (pv 2) pa_nil))))) pss_nil) (pss_cons (ps_if (pt_cmpR op_lt (pv 4) pe_int (nomark _)) (pss_one (ps_ret (pe_tup (pa_cons (pv 2) (pa_cons (pe_callTy call_tuple_of (by rfl) T.m_tuple (by decide +kernel) (pa_cons (pe_lc (own := [("_law_worth", 6)]) (by rfl) sc_rows.nd (pi_tup (pv 2)) (blkOk_by (own := [("_law_worth", 6)]) (N := ["_law_deck_here", "_law_many", "_law_one", "_law_other", "_law_way", "_law_k", "_law_worth"]) (sc := defScope s_rows) (by decide +kernel)) (fun _ _ _ _ _ => (pg_name (i := 6) sc_rows.nd rfl (by first | exact .inl rfl | exact .inr rfl))) (fun _ _ _ _ _ => pts_nil) (fun _ _ _ _ _ => (pe_op op_sub pe_int (pv 6)))) pa_nil)) pa_nil))))) pss_nil) (pss_one (ps_ret (pe_tup (pa_cons (pv 2) (pa_cons (pv 3) pa_nil)))))))))), ?_⟩
    refine ⟨.int m, rfl, m, rfl, by omega, by omega, fun I nI => ?_⟩
    have oI := D.off nI
    refine lc_range (lo := 0) (n := (m : Int).toNat) (fun j H' => DeckF H' d l (n + 32 * j) ∧ Fr d l H H' ∧ ∃ bs : List Int, H' I = some (.lst (bs.map V.int)) ∧ bs.length = j ∧ Row01 bs)
      ⟨(D.same (same_upd nI)).mono (by omega), Fr.new nI, [], upd_same, rfl, fun x hx => by cases hx⟩ ?_ ?_
    · rintro j H2 hj ⟨D2, fr2, bs, hI, lb, okb⟩
      have hj' : j < m := by simpa using hj
      refine ⟨rfl, .ref d, rfl, d, l, 2, _, rfl, D2, by omega, by decide, by decide, fun H3 x D3 fr3 x0 x1 => ?_⟩
      have hI3 := fr3 _ _ oI.1 oI.2 hI
      refine ⟨_, hI3, ?_, (D3.upd oI.1 oI.2).mono (by push_cast; omega), Fr.upd (fr2.trans fr3) nI, bs ++ [x], ?_, by rw [List.length_append, lb]; rfl, fun y hy => ?_⟩
      · rw [List.length_map, lb]
        exact Nat.lt_of_lt_of_le (show j < 128 by omega) (by decide)
      · rw [upd_same, List.map_append]
        rfl
      · rcases List.mem_append.mp hy with z | z
        · exact okb y z
        · rw [List.mem_singleton.mp z]; omega
    rintro H2 ⟨D2, fr2, a, hI, la', oka⟩
    have la : a.length = m := by rw [la']; simp
    refine ⟨I, _, rfl, .inl ⟨SqL.of hI, fun ta nta => ?_⟩⟩
    have s3 := same_upd (o := HO.tup (a.map V.int)) nta
    have h3 : upd H2 ta (HO.tup (a.map V.int)) ta = some (.tup (a.map V.int)) := upd_same
    have ota := D2.off nta
    have D3 := D2.same s3
    have fr3 := fr2.trans (Fr.of (d := d) (l := l) s3)
    generalize upd H2 ta (HO.tup (a.map V.int)) = H3 at s3 h3 D3 fr3 ⊢
    refine ⟨.int m, rfl, m, rfl, by omega, by omega, fun J nJ => ?_⟩
    have oJ := D3.off nJ
    have nJ0 := none_of_frF fr3 D3 nJ
    have taJ : ta ≠ J := ne_of_none h3 nJ
    refine lc_range (lo := 0) (n := (m : Int).toNat) (fun j H' => DeckF H' d l (n + 32 * m + 32 * j) ∧ Fr d l H H' ∧ H' ta = some (.tup (a.map V.int)) ∧ ∃ bs : List Int, H' J = some (.lst (bs.map V.int)) ∧ bs.length = j ∧ Row01 bs)
      ⟨(D3.same (same_upd nJ)).mono (by
        have : ((m : Int).toNat : Int) = m := by omega
        omega), fr3.trans (Fr.new nJ), same_upd nJ _ _ h3, [], upd_same, rfl, fun x hx => by cases hx⟩ ?_ ?_
    · rintro j H4 hj ⟨D4, fr4, h4, bs, hJ, lb, okb⟩
      have hj' : j < m := by simpa using hj
      refine ⟨rfl, .ref d, rfl, d, l, 2, _, rfl, D4, by omega, by decide, by decide, fun H5 x D5 fr5 x0 x1 => ?_⟩
      have hJ5 := fr5 _ _ oJ.1 oJ.2 hJ
      refine ⟨_, hJ5, ?_, (D5.upd oJ.1 oJ.2).mono (by push_cast; omega), Fr.upd (fr4.trans fr5) nJ0, by rw [upd_ne taJ]; exact fr5 _ _ ota.1 ota.2 h4, bs ++ [x], ?_, by rw [List.length_append, lb]; rfl, fun y hy => ?_⟩
      · rw [List.length_map, lb]
        exact Nat.lt_of_lt_of_le (show j < 128 by omega) (by decide)
      · rw [upd_same, List.map_append]
        rfl
      · rcases List.mem_append.mp hy with z | z
        · exact okb y z
        · rw [List.mem_singleton.mp z]; omega
    rintro H4 ⟨D4, fr4, h4, b, hJ, lb', okb⟩
    have lb : b.length = m := by rw [lb']; simp
    refine ⟨J, _, rfl, .inl ⟨SqL.of hJ, fun tb ntb => ?_⟩⟩
    have s5 := same_upd (o := HO.tup (b.map V.int)) ntb
    have h5 : upd H4 tb (HO.tup (b.map V.int)) tb = some (.tup (b.map V.int)) := upd_same
    have otb := D4.off ntb
    have D5 := D4.same s5
    have fr5 := fr4.trans (Fr.of (d := d) (l := l) s5)
    have h45 := s5 _ _ h4
    generalize upd H4 tb (HO.tup (b.map V.int)) = H5 at s5 h5 D5 fr5 h45 ⊢
    refine ⟨.ref d, rfl, d, l, 6, _, rfl, D5, by omega, by decide, by decide, fun H6 way D6 fr6 w0 w1 => ?_⟩
    have fr06 := fr5.trans fr6
    have ha6 := fr6 _ _ ota.1 ota.2 h45
    have hb6 := fr6 _ _ otb.1 otb.2 h5
    have em : ((m : Int).toNat : Int) = m := by omega
    refine ⟨.int way, rfl, rfl, _, rfl, ite2 (fun _ => ?_) (fun _ => ?_)⟩
    · refine ⟨.ref ta, rfl, .ref ta, rfl, sl2, fun r nr => ?_⟩
      have s7 := same_upd (o := HO.tup [V.ref ta, .ref ta]) nr
      exact q r _ a a ((D6.same s7).mono (by omega)) (fr06.trans (Fr.of s7)) (.tup upd_same (.cons (.tup (s7 _ _ ha6) (TkAll.ints _)) (.cons (.tup (s7 _ _ ha6) (TkAll.ints _)) .nil))) la la oka oka
    refine ⟨.int way, rfl, _, _, rfl, rfl, _, rfl, ite2 (fun _ => ?_) (fun _ => ?_)⟩
    · refine ⟨.ref ta, rfl, .ref ta, rfl, ta, rfl, ⟨_, SqT.of ha6⟩, fun C nC => ?_⟩
      have oC := D6.off nC
      have nC0 := none_of_frF fr06 D6 nC
      have sC := same_upd (o := HO.lst []) nC
      have taC : ta ≠ C := ne_of_none ha6 nC
      refine lc_tup (K := K) (a := ta) (xs := a.map V.int) (fun j H' => Same H6 (hd1 C H') ∧ H' C = some (.lst (((a.take j).map fun x => 1 - x).map V.int))) ⟨hd1_of (same_upd nC) nC, upd_same⟩ (fun j H' _ z => SqT.of (hd1_le _ _ (z.1 _ _ ha6))) ?_ ?_
      · rintro j v H7 hv ⟨s7, hC⟩
        obtain ⟨x, hx, rfl⟩ : ∃ b, a[j]? = some b ∧ v = V.int b := by
          rw [List.getElem?_map] at hv
          obtain ⟨b, hb, e⟩ := Option.map_eq_some_iff.mp hv
          exact ⟨b, hb, e.symm⟩
        refine ⟨rfl, .int x, rfl, _, _, rfl, rfl, _, hC, ?_, s7.trans hd1_upd, ?_⟩
        · rw [List.length_map, List.length_map, List.length_take]
          exact Nat.lt_of_le_of_lt (show min j a.length ≤ 100 by omega) (by decide)
        · rw [upd_same, List.take_add_one, hx, List.map_append, List.map_append]
          rfl
      · rintro H7 ⟨s7, hC⟩
        have e0 : (a.map V.int).length = a.length := List.length_map ..
        rw [e0, List.take_length] at hC
        have s67 : Same H6 H7 := fun b o e => hd1_le _ _ (s7 b o e)
        refine ⟨C, _, rfl, .inl ⟨SqL.of hC, fun tc ntc => ?_⟩⟩
        have s8 := same_upd (o := HO.tup ((a.map fun x => 1 - x).map V.int)) ntc
        have h8 : upd H7 tc (HO.tup ((a.map fun x => 1 - x).map V.int)) tc = some (.tup ((a.map fun x => 1 - x).map V.int)) := upd_same
        generalize upd H7 tc (HO.tup ((a.map fun x => 1 - x).map V.int)) = H8 at s8 h8 ⊢
        have s68 := s67.trans s8
        refine ⟨sl2, fun r nr => ?_⟩
        have s9 := same_upd (o := HO.tup [V.ref ta, .ref tc]) nr
        refine q r _ a (a.map fun x => 1 - x) (((D6.same s68).same s9).mono (by omega)) ((fr06.trans (Fr.of s68)).trans (Fr.of s9)) (.tup upd_same (.cons (.tup (s9 _ _ (s68 _ _ ha6)) (TkAll.ints _)) (.cons (.tup (s9 _ _ h8) (TkAll.ints _)) .nil))) la (by rw [List.length_map]; exact la) oka fun x hx => ?_
        obtain ⟨y, hy, rfl⟩ := List.mem_map.mp hx
        rcases oka y hy with z | z <;> omega
    · refine ⟨.ref ta, rfl, .ref tb, rfl, sl2, fun r nr => ?_⟩
      have s7 := same_upd (o := HO.tup [V.ref ta, .ref tb]) nr
      exact q r _ a b ((D6.same s7).mono (by omega)) (fr06.trans (Fr.of s7)) (.tup upd_same (.cons (.tup (s7 _ _ ha6) (TkAll.ints _)) (.cons (.tup (s7 _ _ hb6) (TkAll.ints _)) .nil))) la lb oka okb

end
end Gk

set_option Elab.async false
set_option linter.all false
set_option maxRecDepth 100000
set_option maxHeartbeats 1000000
set_option pp.maxSteps 1500
set_option pp.deepTerms false
namespace Gk
open PySem PySem.Spec PyProof.Rows L2
/-! ### l != [] of any list -/
namespace NeL
section
open PySem.W PySem.Calls HT
variable {X : Cx}
def rNeN (K : PySem.W.Frag) : R2 := fun x y H Q => ∃ a b xs, x = .ref a ∧ y = .ref b ∧ SqL K H a xs ∧ SqL K H b [] ∧ Q (.bl (!xs.isEmpty)) H
theorem op_neN (hu : X.A.units + 64 < cLine) : OpR X (compareOp .NotEq) (rNeN X.K) := by
  intro pins s σ H x y v u Q I rx ry h
  obtain ⟨a, b, xs, rfl, rfl, ha, hb, q⟩ := h
  cases rx
  cases ry
  obtain ⟨us, r1, t1, _⟩ := I.list ha
  obtain ⟨ws, r2, t2, _⟩ := I.list hb
  cases r2
  cases r1 with
  | nil => exact SeqAt.RcNeAt.lists (e := fun _ => true) t1.isList t2.isList rfl (by omega) (fun j h1 _ => absurd h1 (Nat.not_lt_zero _)) _ _ _ _ ⟨.bl false, H, I, rfl, q⟩
  | cons _ _ => exact SeqAt.RcNeAt.lists_lengths t1.isList t2.isList (by simp) (by omega) _ _ _ _ ⟨.bl true, H, I, rfl, q⟩
def rEqN (K : PySem.W.Frag) : R2 := fun x y H Q => ∃ a b xs, x = .ref a ∧ y = .ref b ∧ SqL K H a xs ∧ SqL K H b [] ∧ Q (.bl xs.isEmpty) H
theorem op_eqN (hu : X.A.units + 64 < cLine) : OpR X (compareOp .Eq) (rEqN X.K) := by
  intro pins s σ H x y v u Q I rx ry h
  obtain ⟨a, b, xs, rfl, rfl, ha, hb, q⟩ := h
  cases rx
  cases ry
  obtain ⟨us, r1, t1, _⟩ := I.list ha
  obtain ⟨ws, r2, t2, _⟩ := I.list hb
  cases r2
  cases r1 with
  | nil => exact SeqAt.RcAt.lists (e := fun _ => true) t1.isList t2.isList rfl (by omega) (fun j h1 _ => absurd h1 (Nat.not_lt_zero _)) _ _ _ _ ⟨.bl true, H, I, rfl, q⟩
  | cons _ _ => exact SeqAt.RcAt.lists_lengths t1.isList t2.isList (by simp) (by omega) _ _ _ _ ⟨.bl false, H, I, rfl, q⟩
end
end NeL

section
variable {P : Program} {w : World} {K : PySem.W.Frag} {mg : Str → Option Value} {base : Heap}
/-! ### drawn nets (k07, k09 to k13) -/
theorem NetOk.snoc {n : Nat} {gs : List Gt} {g : Gt} (h : NetOk n gs) (hg : GtOk (n + gs.length) g) : NetOk n (gs ++ [g]) := fun k g' e => by
  by_cases hk : k < gs.length
  · rw [List.getElem?_append_left hk] at e
    exact h k g' e
  · rw [List.getElem?_append_right (by omega)] at e
    cases hz : k - gs.length with
    | zero =>
      rw [hz] at e
      cases Option.some.inj e
      rw [show k = gs.length by omega]
      exact hg
    | succ j => rw [hz] at e; cases e
theorem back_nV {fl : List Nat} {x : Int} (x0 : 0 ≤ x) (xl : x < fl.length) : ∃ w ∈ fl, atI (nV fl) (-1 - x) = some (.int (w : Nat)) := by
  have e : ixN (nV fl).length (-1 - x) = some (fl.length - 1 - x.toNat) := by
    unfold ixN
    rw [nV_len, if_neg (by omega), if_pos (by omega)]
    congr 1
    omega
  have hk : fl.length - 1 - x.toNat < fl.length := by omega
  refine ⟨fl[fl.length - 1 - x.toNat], List.getElem_mem hk, ?_⟩
  unfold atI
  rw [e]
  show (nV fl)[fl.length - 1 - x.toNat]? = _
  unfold nV
  rw [List.getElem?_map, List.getElem?_map, List.getElem?_eq_getElem hk]
  rfl
def sp_net (K : PySem.W.Frag) : Sp := fun vs H Q _ => ∃ (d l : Addr) (n : Int) (c : Nat) (f : Bool), vs = [.ref d, .int c, .bl f] ∧ DeckF H d l n ∧ n < 10000000 ∧ 1 ≤ c ∧ c ≤ 100 ∧
  ∀ r H' m gs, DeckF H' d l (n + 64 + 640 * c) → Fr d l H H' → Tk H' (.ref r) (netD (m : Nat) gs) → 1 ≤ m → m ≤ 4 → gs.length = c → NetOk m gs → Q (.ref r) H'
theorem ok_net (T : Tx K mg) : FnOk P w K mg base CX0 9 T.f_net T.fd_net ["_law_deck_here", "_law_gates", "_law_formula"] (sp_net K) := by
  refine T.F_net.ok sc_net (fun vs H Q E h => ?_) (fun cdv A outer s H vs Q E hr h => ?_)
  · obtain ⟨d, l, n, c, f, rfl, _⟩ := h
    rfl
  · obtain ⟨d, l, n, c, f, rfl, D, hn, c1, c100, q⟩ := h
    refine ⟨_, (pss_cons (ps_set (i := 3) sc_net.nd rfl (by first | exact .inl rfl | exact .inr rfl) (pe_op op_add pe_int (pe_call (ok_draw T) (hr.mono (by decide)) (by rfl) T.g_draw T.F_draw.kp T.b_draw .nil pass0 (pa_cons (pv 0) (pa_cons pe_int pa_nil))))) (pss_cons (ps_set (i := 4) sc_net.nd rfl (by first | exact .inl rfl | exact .inr rfl) (pe_lst pa_nil)) (pss_cons (ps_set (i := 5) sc_net.nd rfl (by first | exact .inl rfl | exact .inr rfl) (pe_lst pa_nil)) (pss_cons (ps_for PassesOwn.never rfl (pi_range1 (by rfl) T.m_range (pa_cons (pv 1) pa_nil)) (pg_name (i := 6) sc_net.nd rfl (by first | exact .inl rfl | exact .inr rfl)) (pss_cons (ps_set (i := 7) sc_net.nd rfl (by first | exact .inl rfl | exact .inr rfl) (pe_lst pa_nil)) (pss_cons (ps_for PassesOwn.never rfl (pi_range1 (by rfl) T.m_range (pa_cons (pe_op op_add pe_int (pe_call (ok_draw T) (hr.mono (by decide)) (by rfl) T.g_draw T.F_draw.kp T.b_draw .nil pass0 (pa_cons (pv 0) (pa_cons pe_int pa_nil)))) pa_nil)) (pg_name (i := 8) sc_net.nd rfl (by first | exact .inl rfl | exact .inr rfl)) (pss_cons (ps_set (i := 9) sc_net.nd rfl (by first | exact .inl rfl | exact .inr rfl) (pe_call (ok_draw T) (hr.mono (by decide)) (by rfl) T.g_draw T.F_draw.kp T.b_draw .nil pass0 (pa_cons (pv 0) (pa_cons pe_int pa_nil)))) (pss_one (ps_if (pt_cut (pw_and (pt_cmpR op_gt (pv 9) pe_int (nomark _)) (pw_and1 (pt_cmpR (NeL.op_neN hr.units) (pv 4) (pe_lst pa_nil) (nomark _)))).pt) (pss_cons (ps_set (i := 10) sc_net.nd rfl (by first | exact .inl rfl | exact .inr rfl) (pe_ix ix_list (pv 4) (pe_op op_sub (pe_un un_neg pe_int) (pe_call (ok_draw T) (hr.mono (by decide)) (by rfl) T.g_draw T.F_draw.kp T.b_draw .nil pass0 (pa_cons (pv 0) (pa_cons (pe_callB (call_min2 rfl) (by rfl) T.m_min (by decide +kernel) (pa_cons (pe_callB call_len_seq (by rfl) T.m_len PySem.boot_len (pa_cons (pv 4) pa_nil)) (pa_cons pe_int pa_nil))) pa_nil)))) (fun _ _ => rfl))) (C8.pss_cut (ps_if (pt_val (pv 2)) (pss_one (ps_setLc (i := 4) (own := [("_law_one", 11)]) (by rfl) sc_net.nd rfl rfl (sw_true rfl rfl rfl (by decide +kernel)) (pi_list (pv 4)) (blkOk_by (own := [("_law_one", 11)]) (N := ["_law_deck_here", "_law_gates", "_law_formula", "_law_many", "_law_free", "_law_made", "_law_k", "_law_ins", "_law_place", "_law_way", "_law_wire", "_law_one"]) (sc := defScope s_net) (by decide +kernel)) (fun _ _ _ _ _ => (pg_name (i := 11) sc_net.nd rfl (by first | exact .inl rfl | exact .inr rfl))) (fun _ _ _ _ _ => (pts_one (pt_cmpR op_ne (pv 11) (pv 10) (nomark _)))) (fun _ _ _ _ _ => (pv 11)))) pss_nil) (pss_one (ps_expr (pe_bm PySem.F.plainAttrs_list PySem.F.slot_list_append PySem.F.type_list_append mt_append (pv 7) (pa_cons (pv 10) pa_nil)))))) (pss_one (ps_expr (pe_bm PySem.F.plainAttrs_list PySem.F.slot_list_append PySem.F.type_list_append mt_append (pv 7) (pa_cons (pe_call (ok_draw T) (hr.mono (by decide)) (by rfl) T.g_draw T.F_draw.kp T.b_draw .nil pass0 (pa_cons (pv 0) (pa_cons (pv 3) pa_nil))) pa_nil)))))))) (pss_cons (ps_expr (pe_bm PySem.F.plainAttrs_list PySem.F.slot_list_append PySem.F.type_list_append mt_append (pv 5) (pa_cons (pe_tup (pa_cons (pe_call (ok_table T) (hr.mono (by decide)) (by rfl) T.g_table T.F_table.kp T.b_table .nil pass0 (pa_cons (pv 0) (pa_cons (pe_callB call_len_seq (by rfl) T.m_len PySem.boot_len (pa_cons (pv 7) pa_nil)) pa_nil))) (pa_cons (pe_callTy call_tuple_of (by rfl) T.m_tuple (by decide +kernel) (pa_cons (pv 7) pa_nil)) pa_nil))) pa_nil))) (pss_one (ps_expr (pe_bm PySem.F.plainAttrs_list PySem.F.slot_list_append PySem.F.type_list_append mt_append (pv 4) (pa_cons (pe_op op_add (pv 3) (pv 6)) pa_nil)))))))) (pss_one (ps_ret (pe_tup (pa_cons (pv 3) (pa_cons (pe_callTy call_tuple_of (by rfl) T.m_tuple (by decide +kernel) (pa_cons (pv 5) pa_nil)) pa_nil))))))))), ?_⟩
    refine ⟨.ref d, rfl, d, l, 4, _, rfl, D, by omega, by decide, by decide, fun H1 x D1 fr1 x0 x1 => ⟨_, _, rfl, rfl, ?_⟩⟩
    obtain ⟨m, hm, m1, m4⟩ : ∃ m : Nat, 1 + x = (m : Int) ∧ 1 ≤ m ∧ m ≤ 4 := ⟨(1 + x).toNat, by omega, by omega, by omega⟩
    have em : (fun i j : Int => V.int (i + j)) 1 x = V.int m := by
      show V.int (1 + x) = _
      rw [hm]
    rw [em]
    refine ⟨Nat.zero_le _, fun F nF => ?_⟩
    have oF := D1.off nF
    have nF0 := none_of_frF fr1 D1 nF
    have s2 := same_upd (o := (HO.lst [])) nF
    have hF : upd H1 F (HO.lst []) F = some (HO.lst []) := upd_same
    generalize upd H1 F (HO.lst []) = H2 at s2 hF ⊢
    have D2 := D1.same s2
    have fr2 := fr1.trans (Fr.of s2)
    refine ⟨Nat.zero_le _, fun G nG => ?_⟩
    have oG := D2.off nG
    have nG0 := none_of_frF fr2 D2 nG
    have FG : F ≠ G := ne_of_none hF nG
    have s3 := same_upd (o := (HO.lst [])) nG
    have hG : upd H2 G (HO.lst []) G = some (HO.lst []) := upd_same
    generalize upd H2 G (HO.lst []) = H3 at s3 hG ⊢
    have D3 := D2.same s3
    have fr3 := fr2.trans (Fr.of s3)
    have hF3 := s3 _ _ hF
    refine ⟨.int c, rfl, c, rfl, by omega, by omega, ?_⟩
    refine for_range (lo := 0) (n := (c : Int).toNat) (fun i σ H' => ∃ (Fa : Addr) (fl : List Nat) (y6 y7 y8 y9 y10 : Option V), σ = [some (.ref d), some (.int c), some (.bl f), some (.int m), some (.ref Fa), some (.ref G), y6, y7, y8, y9, y10, none] ∧ DeckF H' d l (n + 32 + 640 * i) ∧ Fr d l H H' ∧ H Fa = none ∧ Fa ≠ G ∧ H' Fa = some (.lst (nV fl)) ∧ fl.length ≤ i ∧ (∀ x ∈ fl, x < m + i) ∧ ∃ acc gs, H' G = some (.lst acc) ∧ TkAll H' acc (gs.map gD) ∧ gs.length = i ∧ NetOk m gs)
      ⟨F, [], _, _, _, _, _, rfl, D3.mono (by omega), fr3, nF0, FG, hF3, Nat.zero_le _, (fun x hx => by cases hx), [], [], hG, .nil, rfl, fun k g e => by simp at e⟩ ?_ ?_
    · rintro i σ H4 hi ⟨Fa, fl, y6, y7, y8, y9, y10, rfl, D4, fr4, nFa, FaG, hFa4, lfl, okfl, acc, gs, hG4, tg4, lg, ok⟩
      have hi' : i < c := by simpa using hi
      refine ⟨Nat.zero_le _, fun I nI => ?_⟩
      have oI := D4.off nI
      have nI0 := none_of_frF fr4 D4 nI
      have GI : G ≠ I := ne_of_none hG4 nI
      have FI : Fa ≠ I := ne_of_none hFa4 nI
      have s5 := same_upd (o := (HO.lst [])) nI
      have hI : upd H4 I (HO.lst []) I = some (HO.lst []) := upd_same
      generalize upd H4 I (HO.lst []) = H5 at s5 hI ⊢
      have D5 := D4.same s5
      have fr5 := fr4.trans (Fr.of s5)
      have hFa5 := s5 _ _ hFa4
      have hG5 := s5 _ _ hG4
      have tg5 := tg4.same s5
      refine ⟨.ref d, rfl, d, l, 3, _, rfl, D5, by omega, by decide, by decide, fun H6 u D6 fr6 u0 u1 => ⟨_, _, rfl, rfl, ?_⟩⟩
      obtain ⟨cn, hcn, cn1, cn3⟩ : ∃ cn : Nat, 1 + u = (cn : Int) ∧ 1 ≤ cn ∧ cn ≤ 3 := ⟨(1 + u).toNat, by omega, by omega, by omega⟩
      have ec : (fun i j : Int => V.int (i + j)) 1 u = V.int cn := by
        show V.int (1 + u) = _
        rw [hcn]
      rw [ec]
      have fr6' := fr5.trans fr6
      have hI6 := fr6 _ _ oI.1 oI.2 hI
      have hG6 := fr6 _ _ oG.1 oG.2 hG5
      have oFa : Fa ≠ d ∧ Fa ≠ l := D.off nFa
      have hFa6 := fr6 _ _ oFa.1 oFa.2 hFa5
      have tg6 := tg5.ts (Ts.frF D5 fr6) (noL_gates gs)
      refine ⟨(cn : Int), rfl, by omega, by omega, ?_⟩
      refine for_range (lo := 0) (n := (cn : Int).toNat) (fun j σ H' => ∃ (Fa : Addr) (fl : List Nat) (y8 y9 y10 : Option V), σ = [some (.ref d), some (.int c), some (.bl f), some (.int m), some (.ref Fa), some (.ref G), some (.int (0 + (i : Int))), some (.ref I), y8, y9, y10, none] ∧ DeckF H' d l (n + 64 + 640 * i + 64 * j) ∧ Fr d l H H' ∧ H Fa = none ∧ Fa ≠ G ∧ Fa ≠ I ∧ H' Fa = some (.lst (nV fl)) ∧ fl.length ≤ i ∧ (∀ x ∈ fl, x < m + i) ∧ H' G = some (.lst acc) ∧ TkAll H' acc (gs.map gD) ∧ ∃ ws : List Nat, H' I = some (.lst (nV ws)) ∧ ws.length = j ∧ ∀ w ∈ ws, w < m + i)
        ⟨Fa, fl, _, _, _, rfl, D6.mono (by omega), fr6', nFa, FaG, FI, hFa6, lfl, okfl, hG6, tg6, [], hI6, rfl, (fun x hx => by cases hx)⟩ ?_ ?_
      · rintro j σ H7 hj ⟨Fa, fl, y8, y9, y10, rfl, D7, fr7, nFa, FaG, FaI, hFa7, lfl, okfl, hG7, tg7, ws, hI7, lw, okw⟩
        have hj' : j < cn := by simpa using hj
        have oFa : Fa ≠ d ∧ Fa ≠ l := D.off nFa
        -- an in more
        have fin : ∀ {H' : Hp} {Fb : Addr} {fb : List Nat} {y8 y9 y10 : Option V} {v : V} {x : Nat}, v = .int (x : Nat) → x < m + i → DeckF H' d l (n + 64 + 640 * i + 64 * j + 64) → Fr d l H H' → H Fb = none → Fb ≠ G → Fb ≠ I → H' Fb = some (.lst (nV fb)) → fb.length ≤ i → (∀ x ∈ fb, x < m + i) → H' G = some (.lst acc) → TkAll H' acc (gs.map gD) → H' I = some (.lst (nV ws)) →
            rAppend (.ref I) [v] H' (fun _ H' => ∃ (Fa : Addr) (fl : List Nat) (y8' y9' y10' : Option V), [some (V.ref d), some (.int c), some (.bl f), some (.int m), some (.ref Fb), some (.ref G), some (.int (0 + (i : Int))), some (.ref I), y8, y9, y10, none] = [some (.ref d), some (.int c), some (.bl f), some (.int m), some (.ref Fa), some (.ref G), some (.int (0 + (i : Int))), some (.ref I), y8', y9', y10', none] ∧ DeckF H' d l (n + 64 + 640 * i + 64 * ((j + 1 : Nat) : Int)) ∧ Fr d l H H' ∧ H Fa = none ∧ Fa ≠ G ∧ Fa ≠ I ∧ H' Fa = some (.lst (nV fl)) ∧ fl.length ≤ i ∧ (∀ x ∈ fl, x < m + i) ∧ H' G = some (.lst acc) ∧ TkAll H' acc (gs.map gD) ∧ ∃ ws : List Nat, H' I = some (.lst (nV ws)) ∧ ws.length = j + 1 ∧ ∀ w ∈ ws, w < m + i) := by
          intro H' Fb fb y8 y9 y10 v x ev hx Dn frn nFb FbG FbI hFb lfb okfb hGn tgn hIn
          subst ev
          refine ⟨I, _, _, rfl, rfl, hIn, ?_, Fb, fb, _, _, _, rfl, (Dn.upd oI.1 oI.2).mono (by push_cast; omega), Fr.upd frn nI0, nFb, FbG, FbI, by rw [upd_ne FbI]; exact hFb, lfb, okfb, by rw [upd_ne GI]; exact hGn, tgn.ts (Ts.set hIn) (noL_gates gs), ws ++ [x], ?_, by rw [List.length_append, lw]; rfl, fun w hw => ?_⟩
          · rw [nV_len, lw]
            exact Nat.lt_of_lt_of_le (show j < 64 by omega) (by decide)
          · rw [upd_same, nV_app]
            rfl
          · rcases List.mem_append.mp hw with z | z
            · exact okw w z
            · rw [List.mem_singleton.mp z]
              exact hx
        refine ⟨.ref d, rfl, d, l, 3, _, rfl, D7, by omega, by decide, by decide, fun H8 way D8 fr8 w0 w1 => ?_⟩
        have hI8 := fr8 _ _ oI.1 oI.2 hI7
        have hFa8 := fr8 _ _ oFa.1 oFa.2 hFa7
        have hG8 := fr8 _ _ oG.1 oG.2 hG7
        have tg8 := tg7.ts (Ts.frF D7 fr8) (noL_gates gs)
        have frB := fr7.trans fr8
        refine ⟨fun b H' => Same H8 H' ∧ (b = true → fl ≠ []), ?_, ?_⟩
        · refine ⟨.int way, rfl, _, _, rfl, rfl, _, rfl, ite2 (fun _ => ?_) (fun _ => ⟨Same.refl _, fun z => by cases z⟩)⟩
          refine ⟨.ref Fa, rfl, Nat.zero_le _, fun p np => ?_⟩
          have sp := same_upd (o := HO.lst []) np
          refine ⟨Fa, p, _, rfl, rfl, SqL.of (sp _ _ hFa8), SqL.of upd_same, _, rfl, sp, fun z e => ?_⟩
          rw [e] at z
          cases z
        · rintro b H9 ⟨s89, hb⟩
          have D9 := D8.same s89
          have hI9 := s89 _ _ hI8
          have hFa9 := s89 _ _ hFa8
          have hG9 := s89 _ _ hG8
          have tg9 := tg8.same s89
          have frC := frB.trans (Fr.of s89)
          refine ite2 (fun eb => ?_) (fun _ => ?_)
          · have hne := hb eb
            have lpos : 0 < fl.length := List.length_pos_iff.mpr hne
            refine ⟨.ref Fa, rfl, 1, rfl, .ref d, rfl, .ref Fa, rfl, Fa, _, rfl, .inl (SqL.of hFa9), _, _, rfl, ?_⟩
            rw [nV_len]
            refine ⟨d, l, _, _, rfl, D9, by omega, by split <;> omega, by split <;> omega, fun H10 x D10 fr10 x0 x1 => ⟨_, _, rfl, rfl, ?_⟩⟩
            have hI10 := fr10 _ _ oI.1 oI.2 hI9
            have hFa10 := fr10 _ _ oFa.1 oFa.2 hFa9
            have hG10 := fr10 _ _ oG.1 oG.2 hG9
            have tg10 := tg9.ts (Ts.frF D9 fr10) (noL_gates gs)
            have frE := frC.trans fr10
            have xl : x < fl.length := by split at x1 <;> omega
            obtain ⟨w0, hw0, hat⟩ := back_nV (fl := fl) x0 xl
            have hwb := okfl w0 hw0
            refine ⟨Fa, _, -1 - x, .int (w0 : Nat), rfl, rfl, SqL.of hFa10, hat, ?_⟩
            refine ⟨fun σ H' => ∃ (Fb : Addr) (fb : List Nat), σ = [some (.ref d), some (.int c), some (.bl f), some (.int m), some (.ref Fb), some (.ref G), some (.int (0 + (i : Int))), some (.ref I), some (.int (0 + (j : Int))), some (.int way), some (.int (w0 : Nat)), none] ∧ DeckF H' d l (n + 64 + 640 * i + 64 * j + 64) ∧ Fr d l H H' ∧ H Fb = none ∧ Fb ≠ G ∧ Fb ≠ I ∧ H' Fb = some (.lst (nV fb)) ∧ fb.length ≤ i ∧ (∀ x ∈ fb, x < m + i) ∧ H' G = some (.lst acc) ∧ TkAll H' acc (gs.map gD) ∧ H' I = some (.lst (nV ws)), ?_, ?_⟩
            rotate_left
            · rintro σ H11 ⟨Fb, fb, rfl, D11, fr11, nFb, FbG, FbI, hFb, lfb, okfb, hG11, tg11, hI11⟩
              exact ⟨.ref I, rfl, .inl ⟨rfl, _, SqL.of hI11⟩, .int (w0 : Nat), rfl, fin rfl hwb D11 fr11 nFb FbG FbI hFb lfb okfb hG11 tg11 hI11⟩
            refine ⟨.bl f, rfl, f, rfl, ?_⟩
            cases f with
            | false =>
              refine iteF ?_
              exact ⟨Fa, fl, rfl, D10.mono (by omega), frE, nFa, FaG, FaI, hFa10, lfl, okfl, hG10, tg10, hI10⟩
            | true =>
              refine iteT ?_
              refine ⟨.ref Fa, rfl, Fa, rfl, ⟨_, SqL.of hFa10⟩, fun L nL => ?_⟩
              have nL0 := none_of_frF frE D10 nL
              have GL : G ≠ L := ne_of_none hG10 nL
              have IL : I ≠ L := ne_of_none hI10 nL
              refine lc_list (K := K) (a := Fa) (xs := nV fl) (fun k H' => Same H10 (hd1 L H') ∧ ∃ fb : List Nat, H' L = some (.lst (nV fb)) ∧ fb.length ≤ k ∧ ∀ x ∈ fb, x ∈ fl) ⟨hd1_of (same_upd nL) nL, [], upd_same, Nat.zero_le _, (fun x h => by cases h)⟩ (fun k H' _ z => SqL.of (hd1_le _ _ (z.1 _ _ hFa10))) ?_ ?_
              · rintro k v H11 hv ⟨s11, fb, hL, lfb, okfb⟩
                obtain ⟨o, ho, rfl⟩ := nV_at hv
                have hk := (List.getElem?_eq_some_iff.mp ho).1
                refine ⟨rfl, .int (o : Nat), rfl, .int (w0 : Nat), rfl, rfl, _, rfl, ite2 (fun _ => ?_) (fun _ => ⟨s11, fb, hL, by omega, okfb⟩)⟩
                refine ⟨.int (o : Nat), rfl, _, hL, ?_, s11.trans hd1_upd, fb ++ [o], ?_, by rw [List.length_append]; exact Nat.succ_le_succ lfb, fun x hx => ?_⟩
                · rw [nV_len]
                  exact Nat.lt_of_le_of_lt (show fb.length ≤ 200 by omega) (by decide)
                · rw [upd_same, nV_app]
                  rfl
                · rcases List.mem_append.mp hx with z | z
                  · exact okfb x z
                  · rw [List.mem_singleton.mp z]
                    exact List.mem_of_getElem? ho
              · rintro H11 ⟨s11, fb, hL, lfb, okfb⟩
                rw [nV_len] at lfb
                have s1 : Same H10 H11 := fun b o e => hd1_le _ _ (s11 b o e)
                exact ⟨L, fb, rfl, (D10.same s1).mono (by omega), frE.trans (Fr.of s1), nL0, GL.symm, IL.symm, hL, by omega, fun x hx => okfl x (okfb x hx), s1 _ _ hG10, tg10.same s1, s1 _ _ hI10⟩
          · refine ⟨.ref I, rfl, .inl ⟨rfl, _, SqL.of hI9⟩, .ref d, rfl, .int m, rfl, d, l, _, _, rfl, D9, by omega, by omega, by omega, fun H10 x D10 fr10 x0 x1 => ?_⟩
            obtain ⟨x', rfl⟩ := Int.eq_ofNat_of_zero_le x0
            exact fin rfl (by omega) (D10.mono (by omega)) (frC.trans fr10) nFa FaG FaI (fr10 _ _ oFa.1 oFa.2 hFa9) lfl okfl (fr10 _ _ oG.1 oG.2 hG9) (tg9.ts (Ts.frF D9 fr10) (noL_gates gs)) (fr10 _ _ oI.1 oI.2 hI9)
      · rintro σ H7 ⟨Fa, fl, y8, y9, y10, rfl, D7, fr7, nFa, FaG, FaI, hFa7, lfl, okfl, hG7, tg7, ws, hI7, lw, okw⟩
        have oFa : Fa ≠ d ∧ Fa ≠ l := D.off nFa
        have lw' : ws.length = cn := by rw [lw]; simp
        have ecn : ((cn : Int).toNat : Int) = cn := by omega
        refine ⟨.ref G, rfl, .inl ⟨rfl, _, SqL.of hG7⟩, .ref d, rfl, .ref I, rfl, I, _, rfl, .inl (SqL.of hI7), ?_⟩
        rw [nV_len, lw']
        refine ⟨d, l, _, cn, rfl, D7, by omega, cn1, cn3, fun H8 bs D8 fr8 lb => ?_⟩
        have hI8 := fr8 _ _ oI.1 oI.2 hI7
        have hFa8 := fr8 _ _ oFa.1 oFa.2 hFa7
        have hG8 := fr8 _ _ oG.1 oG.2 hG7
        have tg8 := tg7.ts (Ts.frF D7 fr8) (noL_gates gs)
        have frB := fr7.trans fr8
        refine ⟨.ref I, rfl, I, _, rfl, .inl ⟨SqL.of hI8, fun ti nti => ?_⟩⟩
        have s9 := same_upd (o := (HO.tup (nV ws))) nti
        have hti : upd H8 ti (HO.tup (nV ws)) ti = some (HO.tup (nV ws)) := upd_same
        generalize upd H8 ti (HO.tup (nV ws)) = H9 at s9 hti ⊢
        refine ⟨sl2, fun tt ntt => ?_⟩
        have s10 := same_upd (o := (HO.tup [V.str (tabOf bs), .ref ti])) ntt
        have htt : upd H9 tt (HO.tup [V.str (tabOf bs), .ref ti]) tt = some (HO.tup [V.str (tabOf bs), .ref ti]) := upd_same
        generalize upd H9 tt (HO.tup [V.str (tabOf bs), .ref ti]) = H10 at s10 htt ⊢
        have sA := s9.trans s10
        have hG10 := sA _ _ hG8
        have hFa10 := sA _ _ hFa8
        have D10 := D8.same sA
        have fr10 := frB.trans (Fr.of sA)
        have tg10 := tg8.same sA
        have tnew : Tk H10 (.ref tt) (gD (bs, ws)) := .tup htt (.cons (.str _) (.cons (.tup (s10 _ _ hti) (TkAll.ints _)) .nil))
        have lacc : acc.length = i := by rw [tg10.length, List.length_map, lg]
        refine ⟨G, _, _, rfl, rfl, hG10, ?_, ?_⟩
        · exact Nat.lt_of_lt_of_le (show acc.length < 200 by omega) (by decide)
        have hFa11 : upd H10 G (.lst (acc ++ [V.ref tt])) Fa = some (.lst (nV fl)) := by rw [upd_ne FaG]; exact hFa10
        refine ⟨.ref Fa, rfl, .inl ⟨rfl, _, SqL.of hFa11⟩, .int m, rfl, .int (0 + (i : Int)), rfl, _, _, rfl, rfl, Fa, _, _, rfl, rfl, hFa11, ?_, ?_⟩
        · rw [nV_len]
          exact Nat.lt_of_lt_of_le (show fl.length < 200 by omega) (by decide)
        have tsG := Ts.set (ys := acc ++ [V.ref tt]) hG10
        have tsF := Ts.set (ys := nV fl ++ [V.int ((m : Int) + (0 + (i : Int)))]) hFa11
        have tsA := tsG.trans tsF
        refine ⟨Fa, fl ++ [m + i], _, _, _, _, _, rfl, ((D10.upd oG.1 oG.2).upd oFa.1 oFa.2).mono (by push_cast; omega), Fr.upd (Fr.upd fr10 nG0) nFa, nFa, FaG, ?_, by rw [List.length_append]; exact Nat.succ_le_succ lfl, fun x hx => ?_, acc ++ [.ref tt], gs ++ [(bs, ws)], by rw [upd_ne FaG.symm, upd_same], ?_, by rw [List.length_append, lg]; rfl, ok.snoc ⟨by rw [lb, lw'], by rw [lw']; exact cn1, by rw [lw']; exact cn3, fun w hw => by rw [lg]; exact okw w hw⟩⟩
        · rw [upd_same, nV_app]
          show some (HO.lst (nV fl ++ [V.int ((m : Int) + (0 + (i : Int)))])) = some (HO.lst (nV fl ++ [V.int ((m + i : Nat) : Int)]))
          rw [show (m : Int) + (0 + (i : Int)) = ((m + i : Nat) : Int) by push_cast; omega]
        · rcases List.mem_append.mp hx with z | z
          · have := okfl x z
            omega
          · rw [List.mem_singleton.mp z]
            omega
        · rw [List.map_append]
          exact (tg10.ts tsA (noL_gates gs)).append (.cons (tnew.ts tsA (noL_gate _)) .nil)
    · rintro σ H4 ⟨Fa, fl, y6, y7, y8, y9, y10, rfl, D4, fr4, nFa, FaG, hFa4, lfl, okfl, acc, gs, hG4, tg4, lg, ok⟩
      have lg' : gs.length = c := by rw [lg]; simp
      have ecn : ((c : Int).toNat : Int) = c := by omega
      refine ⟨.int m, rfl, .ref G, rfl, G, _, rfl, .inl ⟨SqL.of hG4, fun tp ntp => ?_⟩⟩
      have s5 := same_upd (o := (HO.tup acc)) ntp
      have htp : upd H4 tp (HO.tup acc) tp = some (HO.tup acc) := upd_same
      generalize upd H4 tp (HO.tup acc) = H5 at s5 htp ⊢
      refine ⟨sl2, fun r nr => ?_⟩
      have s6 := same_upd (o := HO.tup [V.int m, .ref tp]) nr
      exact q r _ m gs ((D4.same (s5.trans s6)).mono (by omega)) (fr4.trans (Fr.of (s5.trans s6))) (.tup upd_same (.cons (.int _) (.cons (.tup (s6 _ _ htp) (tg4.same (s5.trans s6))) .nil))) m1 m4 lg' ok
def sp_delays (K : PySem.W.Frag) : Sp := fun vs H Q _ => ∃ (d l : Addr) (n : Int) (nv : V) (m : Nat) (gs : List Gt) (most : Int), vs = [.ref d, nv, .int most] ∧ DeckF H d l n ∧ n < 100000000 ∧ Tk H nv (netD m gs) ∧ NetOk m gs ∧ gs.length ≤ 100 ∧ 0 < most ∧ most ≤ 1000000000000000000000000000000000000 ∧
  ∀ r H' D, DeckF H' d l (n + 96 * gs.length) → Fr d l H H' → Tk H' (.ref r) (delsD D) → Shape gs D → (∀ d ∈ D, ∀ x ∈ d, 0 ≤ x ∧ x < most) → Q (.ref r) H'
theorem ok_delays (T : Tx K mg) : FnOk P w K mg base CX0 8 T.f_delays T.fd_delays ["_law_deck_here", "_law_net_here", "_law_most"] (sp_delays K) := by
  refine T.F_delays.ok sc_delays (fun vs H Q E h => ?_) (fun cdv A outer s H vs Q E hr h => ?_)
  · obtain ⟨d, l, n, nv, m, gs, most, rfl, _⟩ := h
    rfl
  · obtain ⟨d, l, n, nv, m, gs, most, rfl, D, hn, tn, okn, g100, m0, m6, q⟩ := h
    refine ⟨_, (pss_cons (ps_set (i := 3) sc_delays.nd rfl (by first | exact .inl rfl | exact .inr rfl) (pe_lst pa_nil)) (pss_cons (ps_for PassesOwn.never rfl (pi_tup (pe_ix ix_tup (pv 1) pe_int (fun _ _ => rfl))) (pg_tup rfl (pgs_cons (pg_name (i := 4) sc_delays.nd rfl (by first | exact .inl rfl | exact .inr rfl)) (pgs_cons (pg_name (i := 5) sc_delays.nd rfl (by first | exact .inl rfl | exact .inr rfl)) pgs_nil))) (pss_one (ps_expr (pe_bm PySem.F.plainAttrs_list PySem.F.slot_list_append PySem.F.type_list_append mt_append (pv 3) (pa_cons (pe_callTy call_tuple_of (by rfl) T.m_tuple (by decide +kernel) (pa_cons (pe_lc (own := [("_law_wire", 6)]) (by rfl) sc_delays.nd (pi_tup (pv 5)) (blkOk_by (own := [("_law_wire", 6)]) (N := ["_law_deck_here", "_law_net_here", "_law_most", "_law_made", "_law_table_here", "_law_ins", "_law_wire"]) (sc := defScope s_delays) (by decide +kernel)) (fun _ _ _ _ _ => (pg_name (i := 6) sc_delays.nd rfl (by first | exact .inl rfl | exact .inr rfl))) (fun _ _ _ _ _ => pts_nil) (fun _ _ _ _ _ => (pe_call (ok_draw T) (hr.mono (by decide)) (by rfl) T.g_draw T.F_draw.kp T.b_draw .nil pass0 (pa_cons (pv 0) (pa_cons (pv 2) pa_nil))))) pa_nil)) pa_nil))))) (pss_one (ps_ret (pe_callTy call_tuple_of (by rfl) T.m_tuple (by decide +kernel) (pa_cons (pv 3) pa_nil)))))), ?_⟩
    obtain ⟨nn, g, xs, rfl, hn', hg, tg⟩ := tn.net_inv
    have lx : xs.length = gs.length := by rw [tg.length, List.length_map]
    refine ⟨Nat.zero_le _, fun G nG => ?_⟩
    have oG := D.off nG
    have s1 := same_upd (o := (HO.lst [])) nG
    have hG : upd H G (HO.lst []) G = some (HO.lst []) := upd_same
    generalize upd H G (HO.lst []) = H1 at s1 hG ⊢
    have D1 := D.same s1
    have fr1 : Fr d l H H1 := Fr.of s1
    have ts1 : Ts H H1 := Ts.same s1
    refine ⟨.ref nn, rfl, nn, _, 1, .ref g, rfl, rfl, SqT.of (ts1 _ _ hn'), rfl, g, rfl, ⟨_, SqT.of (ts1 _ _ hg)⟩, ?_⟩
    refine for_tup (K := K) (a := g) (xs := xs) (fun i σ H' => ∃ y4 y5 acc D, σ = [some (.ref d), some (.ref nn), some (.int most), some (.ref G), y4, y5, none] ∧ DeckF H' d l (n + 96 * i) ∧ Fr d l H H' ∧ H' G = some (.lst acc) ∧ TkAll H' acc (D.map rowD) ∧ D.length = i ∧ (∀ (j : Nat) (gt : Gt) (dd : List Int), gs[j]? = some gt → D[j]? = some dd → dd.length = gt.2.length) ∧ ∀ dd ∈ D, ∀ x ∈ dd, 0 ≤ x ∧ x < most)
      ⟨_, _, [], [], rfl, D1.mono (by omega), fr1, hG, .nil, rfl, (fun j gt dd _ h => by cases h), (fun dd h => by cases h)⟩ (fun i σ H' _ ⟨_, _, _, _, _, _, z, _⟩ => SqT.of (Ts.frF D z _ _ hg)) ?_ ?_
    · rintro i v σ H2 hv ⟨y4, y5, acc, DD, rfl, D2, fr2, hG2, tD2, lD, shD, okD⟩
      obtain ⟨gt, hgt, tgt⟩ := tg.at hv
      obtain ⟨ga, ii, rfl, hga, hii⟩ := tgt.gt_inv
      have okg := okn i gt hgt
      have hi := (List.getElem?_eq_some_iff.mp hgt).1
      have ts2 := Ts.frF D fr2
      refine ⟨ga, _, rfl, SqT.of (ts2 _ _ hga), rfl, _, _, rfl, _, _, rfl, rfl, ?_⟩
      refine ⟨.ref G, rfl, .inl ⟨rfl, _, SqL.of hG2⟩, .ref ii, rfl, ii, rfl, ⟨_, SqT.of (ts2 _ _ hii)⟩, fun I nI => ?_⟩
      have oI := D2.off nI
      have nI0 := none_of_frF fr2 D2 nI
      have GI : G ≠ I := ne_of_none hG2 nI
      refine lc_tup (K := K) (a := ii) (xs := (gt.2.map Int.ofNat).map V.int) (fun j H' => DeckF H' d l (n + 96 * i + 32 * j) ∧ Fr d l H H' ∧ H' G = some (.lst acc) ∧ TkAll H' acc (DD.map rowD) ∧ ∃ ls : List Int, H' I = some (.lst (ls.map V.int)) ∧ ls.length = j ∧ ∀ x ∈ ls, 0 ≤ x ∧ x < most)
        ⟨(D2.same (same_upd nI)).mono (by omega), fr2.trans (Fr.new nI), same_upd nI _ _ hG2, tD2.same (same_upd nI), [], upd_same, rfl, (fun x h => by cases h)⟩ (fun j H' _ z => SqT.of (Ts.frF D z.2.1 _ _ hii)) ?_ ?_
      · rintro j v H3 hv ⟨D3, fr3, hG3, tD3, ls, hI3, ll, okl⟩
        have hj : j < 3 := by
          have := (List.getElem?_eq_some_iff.mp hv).1
          rw [List.length_map, List.length_map] at this
          have := okg.2.2.1
          omega
        refine ⟨rfl, .ref d, rfl, .int most, rfl, d, l, _, _, rfl, D3, by omega, m0, m6, fun H4 x D4 fr4 x0 x1 => ?_⟩
        have hI4 := fr4 _ _ oI.1 oI.2 hI3
        have hG4 := fr4 _ _ oG.1 oG.2 hG3
        have tD4 := tD3.ts (Ts.frF D3 fr4) (noLs_map noL_row _)
        refine ⟨_, hI4, ?_, (D4.upd oI.1 oI.2).mono (by push_cast; omega), Fr.upd (fr3.trans fr4) nI0, by rw [upd_ne GI]; exact hG4, tD4.ts (Ts.set hI4) (noLs_map noL_row _), ls ++ [x], ?_, by rw [List.length_append, ll]; rfl, fun y hy => ?_⟩
        · rw [List.length_map, ll]
          exact Nat.lt_of_lt_of_le (show j < 64 by omega) (by decide)
        · rw [upd_same, List.map_append]
          rfl
        · rcases List.mem_append.mp hy with z | z
          · exact okl y z
          · rw [List.mem_singleton.mp z]
            exact ⟨x0, x1⟩
      · rintro H3 ⟨D3, fr3, hG3, tD3, ls, hI3, ll, okl⟩
        rw [List.length_map, List.length_map] at ll D3
        refine ⟨I, _, rfl, .inl ⟨SqL.of hI3, fun ta nta => ?_⟩⟩
        have s4 := same_upd (o := (HO.tup (ls.map V.int))) nta
        have hta : upd H3 ta (HO.tup (ls.map V.int)) ta = some (HO.tup (ls.map V.int)) := upd_same
        generalize upd H3 ta (HO.tup (ls.map V.int)) = H4 at s4 hta ⊢
        have hG4 := s4 _ _ hG3
        have tD4 := tD3.same s4
        have lacc : acc.length = i := by rw [tD4.length, List.length_map, lD]
        refine ⟨G, _, _, rfl, rfl, hG4, ?_, ?_⟩
        · exact Nat.lt_of_lt_of_le (show acc.length < 200 by omega) (by decide)
        have := okg.2.2.1
        have nG0 : H G = none := nG
        refine ⟨_, _, acc ++ [.ref ta], DD ++ [ls], rfl, ((D3.same s4).upd oG.1 oG.2).mono (by push_cast; omega), Fr.upd (fr3.trans (Fr.of s4)) nG0, upd_same, ?_, by rw [List.length_append, lD]; rfl, fun j gt' dd h1 h2 => ?_, fun dd hd => ?_⟩
        · rw [List.map_append]
          have ts := Ts.set (ys := acc ++ [V.ref ta]) hG4
          exact (tD4.ts ts (noLs_map noL_row _)).append (.cons (.tup (ts _ _ hta) (TkAll.ints _)) .nil)
        · by_cases z : j < DD.length
          · rw [List.getElem?_append_left z] at h2
            exact shD j gt' dd h1 h2
          · rw [List.getElem?_append_right (by omega)] at h2
            have ej : j = i := by
              have := (List.getElem?_eq_some_iff.mp h2).1
              simp at this
              omega
            subst ej
            rw [lD, Nat.sub_self] at h2
            cases Option.some.inj h2
            cases Option.some.inj (h1.symm.trans hgt)
            exact ll
        · rcases List.mem_append.mp hd with z | z
          · exact okD dd z
          · rw [List.mem_singleton.mp z]
            exact okl
    · rintro σ H2 ⟨y4, y5, acc, DD, rfl, D2, fr2, hG2, tD2, lD, shD, okD⟩
      rw [lx] at lD D2
      refine ⟨.ref G, rfl, G, _, rfl, .inl ⟨SqL.of hG2, fun r nr => ?_⟩⟩
      have s3 := same_upd (o := HO.tup acc) nr
      exact q r _ DD (D2.same s3) (fr2.trans (Fr.of s3)) (.tup upd_same (tD2.same s3)) ⟨lD, fun g gt dd h1 h2 => shD g gt dd h1 h2⟩ okD

end
end Gk

set_option Elab.async false
set_option linter.all false
set_option maxRecDepth 100000
set_option maxHeartbeats 1000000
set_option pp.maxSteps 1500
set_option pp.deepTerms false
namespace Gk
open PySem PySem.Spec PyProof.Rows L2
/-! ### what a row settles -/
def pickI (ws : List Int) (ins : List Nat) : List Int := ins.map fun i => ws.getD i 0
def stepS (ws : List Int) (g : Gt) : List Int := ws ++ [gateM g.1 (pickI ws g.2)]
def settledM (gs : List Gt) (r : List Int) : List Int := gs.foldl stepS r
theorem settledM_take {gs : List Gt} {k : Nat} {g : Gt} (h : gs[k]? = some g) (r : List Int) : settledM (gs.take (k + 1)) r = stepS (settledM (gs.take k) r) g := by
  rw [List.take_add_one, h]
  unfold settledM
  show ((gs.take k) ++ [g]).foldl stepS r = _
  rw [List.foldl_append]
  rfl
theorem settledM_len (gs : List Gt) (r : List Int) : (settledM gs r).length = r.length + gs.length := by
  induction gs generalizing r with
  | nil => rfl
  | cons g t ih =>
    show (settledM t (stepS r g)).length = _
    rw [ih]
    unfold stepS
    rw [List.length_append, List.length_cons, List.length_cons, List.length_nil]
    omega
theorem Row01.snoc {r : List Int} {v : Int} (h : Row01 r) (hv : v = 0 ∨ v = 1) : Row01 (r ++ [v]) := fun x hx => by
  rcases List.mem_append.mp hx with z | z
  · exact h x z
  · rw [List.mem_singleton.mp z]; exact hv
theorem settledM_01 (gs : List Gt) (r : List Int) (h : Row01 r) : Row01 (settledM gs r) := by
  induction gs generalizing r with
  | nil => exact h
  | cons g t ih => exact ih (stepS r g) (h.snoc (gate01 _ _))
theorem getD_01 {r : List Int} (h : Row01 r) (i : Nat) : r.getD i 0 = 0 ∨ r.getD i 0 = 1 := by
  rw [List.getD_eq_getElem?_getD]
  cases e : r[i]? with
  | none => exact .inl rfl
  | some x => exact h x (List.mem_of_getElem? e)
theorem pick_01 {r : List Int} (h : Row01 r) (ins : List Nat) : ∀ x ∈ pickI r ins, x = 0 ∨ x = 1 := fun x hx => by
  obtain ⟨i, _, rfl⟩ := List.mem_map.mp hx
  exact getD_01 h i

/-! ### the worths of all wires at a time -/
def rowV (gs : List Gt) (D : List (List Int)) (a b : List Int) (k : Nat) (t : Int) : List Int := (List.range k).map fun r => valAt gs D a b r t
theorem rowV_len {gs : List Gt} {D : List (List Int)} {a b : List Int} {k : Nat} {t : Int} : (rowV gs D a b k t).length = k := by unfold rowV; rw [List.length_map, List.length_range]
theorem rowV_snoc {gs : List Gt} {D : List (List Int)} {a b : List Int} {k : Nat} {t : Int} : rowV gs D a b (k + 1) t = rowV gs D a b k t ++ [valAt gs D a b k t] := by
  unfold rowV
  rw [List.range_succ, List.map_append]
  rfl
theorem rowV_at {gs : List Gt} {D : List (List Int)} {a b : List Int} {k r : Nat} {t : Int} (h : r < k) : (rowV gs D a b k t)[r]? = some (valAt gs D a b r t) := by
  unfold rowV
  rw [List.getElem?_map, List.getElem?_range h]
  rfl
theorem rowV_in {gs : List Gt} {D : List (List Int)} {a b : List Int} {m : Nat} (la : a.length = m) (lb : b.length = m) (okn : NetOk m gs) (sh : Shape gs D) (t : Int) : rowV gs D a b m t = if 0 ≤ t then b else a := by
  have V := val_ok la lb okn sh
  refine List.ext_getElem? fun r => ?_
  by_cases h : r < m
  · rw [rowV_at h, V.i r t h]
    by_cases z : 0 ≤ t
    · rw [if_pos z, if_pos z, List.getD_eq_getElem?_getD, List.getElem?_eq_getElem (by omega)]
      rfl
    · rw [if_neg z, if_neg z, List.getD_eq_getElem?_getD, List.getElem?_eq_getElem (by omega)]
      rfl
  · rw [List.getElem?_eq_none (by rw [rowV_len]; omega)]
    split
    · exact (List.getElem?_eq_none (by omega)).symm
    · exact (List.getElem?_eq_none (by omega)).symm

/-! ### a machine step by step, the mathematics -/
structure Upto (u : List Int) (f : Int → Int) (t : Int) : Prop where
  rise : u.Pairwise (· < ·)
  bd : ∀ x ∈ u, 0 ≤ x ∧ x ≤ t
  at_ : ∀ s, s ≤ t → wv (f (-1), u) s = f s
theorem upto0 {f : Int → Int} (h01 : ∀ t, f t = 0 ∨ f t = 1) (lo : ∀ s t : Int, s < 0 → t < 0 → f s = f t) : Upto [] f (-1) := by
  refine ⟨.nil, (fun x h => by cases h), fun s hs => ?_⟩
  unfold wv
  have := h01 (-1)
  rw [lo s (-1) (by omega) (by decide)]
  show (f (-1) + 0) % 2 = _
  omega
def turnW (f : Int → Int) (u : List Int) (t : Int) : List Int := if f (t - 1) ≠ f t then u ++ [t] else u
theorem Upto.next {u : List Int} {f : Int → Int} {t : Int} (h01 : ∀ t, f t = 0 ∨ f t = 1) (h : Upto u f (t - 1)) (ht : 0 ≤ t) : Upto (turnW f u t) f t := by
  unfold turnW
  have e1 := h.at_ (t - 1) (Int.le_refl _)
  have c0 : cnt u t = cnt u (t - 1) := (cnt_same (by omega) fun x hx k => by have := h.bd x hx; omega).symm
  have a := h01 t
  have b := h01 (t - 1)
  by_cases z : f (t - 1) ≠ f t
  · rw [if_pos z]
    refine ⟨List.pairwise_append.mpr ⟨h.rise, List.pairwise_singleton _ _, fun x hx y hy => ?_⟩, fun x hx => ?_, fun s hs => ?_⟩
    · rw [List.mem_singleton.mp hy]
      have := h.bd x hx
      omega
    · rcases List.mem_append.mp hx with k | k
      · have := h.bd x k
        omega
      · rw [List.mem_singleton.mp k]
        omega
    · unfold wv
      show (f (-1) + (cnt (u ++ [t]) s : Int)) % 2 = f s
      rw [cnt_app, cnt_one]
      by_cases y : t ≤ s
      · have es : s = t := by omega
        subst es
        rw [if_pos y, c0]
        unfold wv at e1
        have e1 : (f (-1) + (cnt u (s - 1) : Int)) % 2 = f (s - 1) := e1
        push_cast
        omega
      · rw [if_neg y]
        exact h.at_ s (by omega)
  · rw [if_neg z]
    have z : f (t - 1) = f t := Classical.byContradiction z
    refine ⟨h.rise, fun x hx => by have := h.bd x hx; omega, fun s hs => ?_⟩
    by_cases y : s = t
    · subst y
      unfold wv
      show (f (-1) + (cnt u s : Int)) % 2 = f s
      rw [c0, ← z]
      exact e1
    · exact h.at_ s (by omega)
theorem turn_cnt (f : Int → Int) (u : List Int) (t s : Int) : cnt u s ≤ cnt (turnW f u t) s := by
  unfold turnW
  split
  · rw [cnt_app]
    exact Nat.le_add_right _ _
  · exact Nat.le_refl _
theorem cnt_mono (u : List Int) {s t : Int} (h : s ≤ t) : cnt u s ≤ cnt u t := by
  induction u with
  | nil => exact Nat.le_refl _
  | cons a r ih =>
    rw [cnt_cons, cnt_cons]
    by_cases z : a ≤ s
    · rw [if_pos z, if_pos (by omega)]
      omega
    · rw [if_neg z]
      omega
/-- of a rising list the first so many are no greater -/
theorem cnt_lt : ∀ {l : List Int} {d : Int} {k : Nat} {x : Int}, l.Pairwise (· < ·) → l[k]? = some x → (x ≤ d ↔ k < cnt l d)
  | [], _, _, _, _, h => by cases h
  | a :: l, d, 0, x, pw, h => by
    cases Option.some.inj h
    rw [cnt_cons]
    by_cases z : a ≤ d
    · rw [if_pos z]
      exact ⟨fun _ => by omega, fun _ => z⟩
    · rw [if_neg z, cnt_no fun y hy => by have := (List.pairwise_cons.mp pw).1 y hy; omega]
      exact ⟨fun h => absurd h z, fun h => by omega⟩
  | a :: l, d, k + 1, x, pw, h => by
    obtain ⟨h1, h2⟩ := List.pairwise_cons.mp pw
    have h : l[k]? = some x := h
    have ax := h1 x (List.mem_of_getElem? h)
    rw [cnt_cons, cnt_lt h2 h]
    by_cases z : a ≤ d
    · rw [if_pos z]
      omega
    · rw [if_neg z]
      have : cnt l d = 0 := cnt_no fun y hy => by have := h1 y hy; omega
      omega
/-- so many wires are at this time, the others at the time ahead -/
structure Half (V : Nat → Int → Int) (n k : Nat) (t : Int) (L : List Int) (U : List (List Int)) : Prop where
  lL : L.length = n
  lU : U.length = n
  L : ∀ (r : Nat) (x : Int), L[r]? = some x → x = V r (if r < k then t else t - 1)
  U : ∀ (r : Nat) (u : List Int), U[r]? = some u → Upto u (V r) (if r < k then t else t - 1)
def setL (L : List Int) (w : Nat) (x : Int) : List Int := if L.getD w 0 ≠ x then L.set w x else L
def setU (L : List Int) (U : List (List Int)) (w : Nat) (x t : Int) : List (List Int) := if L.getD w 0 ≠ x then U.set w (U.getD w [] ++ [t]) else U
theorem Half.next {V : Nat → Int → Int} {n k : Nat} {t : Int} {L : List Int} {U : List (List Int)} (h : Half V n k t L U) (h01 : ∀ r, r < n → ∀ t, V r t = 0 ∨ V r t = 1) (ht : 0 ≤ t) (hk : k < n) :
    Half V n (k + 1) t (setL L k (V k t)) (setU L U k (V k t) t) ∧ ∀ (r : Nat) (s : Int), cnt (U.getD r []) s ≤ cnt ((setU L U k (V k t) t).getD r []) s := by
  have hL : L[k]? = some (L.getD k 0) := by rw [List.getD_eq_getElem?_getD, List.getElem?_eq_getElem (by rw [h.lL]; exact hk)]; rfl
  have hU : U[k]? = some (U.getD k []) := by rw [List.getD_eq_getElem?_getD, List.getElem?_eq_getElem (by rw [h.lU]; exact hk)]; rfl
  have e := h.L k _ hL
  rw [if_neg (Nat.lt_irrefl _)] at e
  have up := h.U k _ hU
  rw [if_neg (Nat.lt_irrefl _)] at up
  have nx := up.next (h01 k hk) ht
  have other : ∀ r, r ≠ k → (if r < k + 1 then t else t - 1) = if r < k then t else t - 1 := fun r hr => by
    by_cases z : r < k
    · rw [if_pos z, if_pos (by omega)]
    · rw [if_neg z, if_neg (by omega)]
  have here : (if k < k + 1 then t else t - 1) = t := if_pos (by omega)
  unfold setL setU
  by_cases z : L.getD k 0 ≠ V k t
  · rw [if_pos z, if_pos z]
    have tw : turnW (V k) (U.getD k []) t = U.getD k [] ++ [t] := by unfold turnW; rw [if_pos (by rw [← e]; exact z)]
    rw [tw] at nx
    refine ⟨⟨by rw [List.length_set]; exact h.lL, by rw [List.length_set]; exact h.lU, fun r x hx => ?_, fun r u hu => ?_⟩, fun r s => ?_⟩
    · by_cases y : r = k
      · subst y
        rw [List.getElem?_set_self (by rw [h.lL]; exact hk)] at hx
        cases Option.some.inj hx
        rw [here]
      · rw [List.getElem?_set_ne (fun q => y q.symm)] at hx
        rw [other r y]
        exact h.L r x hx
    · by_cases y : r = k
      · subst y
        rw [List.getElem?_set_self (by rw [h.lU]; exact hk)] at hu
        cases Option.some.inj hu
        rw [here]
        exact nx
      · rw [List.getElem?_set_ne (fun q => y q.symm)] at hu
        rw [other r y]
        exact h.U r u hu
    · by_cases y : r = k
      · subst y
        have : (U.set r (U.getD r [] ++ [t])).getD r [] = U.getD r [] ++ [t] := by
          rw [List.getD_eq_getElem?_getD, List.getElem?_set_self (by rw [h.lU]; exact hk)]
          rfl
        rw [this, cnt_app]
        exact Nat.le_add_right _ _
      · have : (U.set k (U.getD k [] ++ [t])).getD r [] = U.getD r [] := by
          rw [List.getD_eq_getElem?_getD, List.getElem?_set_ne (fun q => y q.symm), ← List.getD_eq_getElem?_getD]
        rw [this]
        exact Nat.le_refl _
  · rw [if_neg z, if_neg z]
    have z : L.getD k 0 = V k t := Classical.byContradiction z
    have tw : turnW (V k) (U.getD k []) t = U.getD k [] := by unfold turnW; rw [if_neg (fun q => q (by rw [← e]; exact z))]
    rw [tw] at nx
    refine ⟨⟨h.lL, h.lU, fun r x hx => ?_, fun r u hu => ?_⟩, fun r s => Nat.le_refl _⟩
    · by_cases y : r = k
      · subst y
        rw [here, ← z]
        exact Option.some.inj (hx.symm.trans hL)
      · rw [other r y]
        exact h.L r x hx
    · by_cases y : r = k
      · subst y
        rw [here]
        cases Option.some.inj (hu.symm.trans hU)
        exact nx
      · rw [other r y]
        exact h.U r u hu
/-- how much each reading has heard -/
structure HeardOk (gs : List Gt) (D : List (List Int)) (t : Int) (U : List (List Int)) (E : List (List Nat)) : Prop where
  lE : E.length = gs.length
  row : ∀ (g : Nat) (gt : Gt) (e : List Nat), gs[g]? = some gt → E[g]? = some e → e.length = gt.2.length
  le : ∀ (g : Nat) (gt : Gt) (d : List Int) (e : List Nat) (j r x : Nat) (y : Int), gs[g]? = some gt → D[g]? = some d → E[g]? = some e → gt.2[j]? = some r → d[j]? = some y → e[j]? = some x → x ≤ cnt (U.getD r []) (t - y)
theorem HeardOk.up {gs : List Gt} {D : List (List Int)} {s t : Int} {U U' : List (List Int)} {E : List (List Nat)} (h : HeardOk gs D s U E) (le : s ≤ t) (hU : ∀ (r : Nat) (s : Int), cnt (U.getD r []) s ≤ cnt (U'.getD r []) s) : HeardOk gs D t U' E :=
  ⟨h.lE, h.row, fun g gt d e j r x y h1 h2 h3 h4 h5 h6 => Nat.le_trans (h.le g gt d e j r x y h1 h2 h3 h4 h5 h6) (Nat.le_trans (hU r _) (cnt_mono _ (by omega)))⟩
theorem HeardOk.hear {gs : List Gt} {D : List (List Int)} {t : Int} {U : List (List Int)} {E : List (List Nat)} (h : HeardOk gs D t U E) {g j r : Nat} {gt : Gt} {d : List Int} {y : Int} {e : List Nat} (hg : gs[g]? = some gt) (hd : D[g]? = some d) (he : E[g]? = some e) (hr : gt.2[j]? = some r) (hy : d[j]? = some y) :
    HeardOk gs D t U (E.set g (e.set j (cnt (U.getD r []) (t - y)))) := by
  have hgl := (List.getElem?_eq_some_iff.mp he).1
  refine ⟨by rw [List.length_set]; exact h.lE, fun g' gt' e' h1 h2 => ?_, fun g' gt' d' e' j' r' x' y' h1 h2 h3 h4 h5 h6 => ?_⟩
  · by_cases z : g' = g
    · subst z
      rw [List.getElem?_set_self hgl] at h2
      cases Option.some.inj h2
      rw [List.length_set]
      exact h.row g' gt' e h1 he
    · rw [List.getElem?_set_ne (fun q => z q.symm)] at h2
      exact h.row g' gt' e' h1 h2
  · by_cases z : g' = g
    · subst z
      rw [List.getElem?_set_self hgl] at h3
      cases Option.some.inj h3
      cases Option.some.inj (h1.symm.trans hg)
      cases Option.some.inj (h2.symm.trans hd)
      by_cases w : j' = j
      · subst w
        have hjl : j' < e.length := by
          have := (List.getElem?_eq_some_iff.mp h6).1
          rw [List.length_set] at this
          exact this
        rw [List.getElem?_set_self hjl] at h6
        cases Option.some.inj h6
        cases Option.some.inj (h4.symm.trans hr)
        cases Option.some.inj (h5.symm.trans hy)
        exact Nat.le_refl _
      · rw [List.getElem?_set_ne (fun q => w q.symm)] at h6
        exact h.le g' _ _ e j' r' x' y' h1 h2 he h4 h5 h6
    · rw [List.getElem?_set_ne (fun q => z q.symm)] at h3
      exact h.le g' gt' d' e' j' r' x' y' h1 h2 h3 h4 h5 h6
/-! ### what a row settles, as worths at a time -/
theorem settled_lo {m : Nat} {gs : List Gt} {D : List (List Int)} {a b : List Int} (R : RunOk m gs D a b) {t : Int} (ht : t < 0) : ∀ k, k ≤ gs.length → settledM (gs.take k) a = rowV gs D a b (m + k) t
  | 0, _ => by
    show a = rowV gs D a b m t
    rw [rowV_in R.la R.lb R.okn R.sh, if_neg (by omega)]
  | k + 1, hk => by
    have hg : gs[k]? = some gs[k] := List.getElem?_eq_getElem (by omega)
    have hdl : k < D.length := by rw [R.sh.1]; omega
    have hd : D[k]? = some D[k] := List.getElem?_eq_getElem hdl
    rw [settledM_take hg, ← Nat.add_assoc, rowV_snoc]
    unfold stepS
    rw [settled_lo (t := t) R ht k (by omega), (val_ok R.la R.lb R.okn R.sh).g k _ _ t hg hd]
    congr 3
    unfold pickI
    refine List.ext_getElem? fun j => ?_
    rw [List.getElem?_map, List.getElem?_map]
    have ld := R.sh.2 k _ _ hg hd
    by_cases hj : j < gs[k].2.length
    · have h1 : gs[k].2[j]? = some gs[k].2[j] := List.getElem?_eq_getElem hj
      have h2 : D[k][j]? = some (D[k][j]'(by omega)) := List.getElem?_eq_getElem _
      have hz : (gs[k].2.zip D[k])[j]? = some (gs[k].2[j], D[k][j]'(by omega)) := by rw [List.getElem?_zip_eq_some]; exact ⟨h1, h2⟩
      rw [h1, hz]
      have hw := (R.okn k _ hg).2.2.2 _ (List.getElem_mem hj)
      have nn := R.nn _ (List.getElem_mem hdl) _ (List.getElem_mem (show j < D[k].length by omega))
      show some ((rowV gs D a b (m + k) t).getD gs[k].2[j] 0) = some (valAt gs D a b gs[k].2[j] (t - D[k][j]))
      rw [List.getD_eq_getElem?_getD, rowV_at hw]
      show some (valAt gs D a b gs[k].2[j] t) = _
      rw [V_lo R.la R.lb R.okn R.sh R.nn k (by omega) _ hw t (t - D[k][j]) ht (by omega)]
    · rw [List.getElem?_eq_none (by omega), List.getElem?_eq_none (by rw [List.length_zip]; omega)]
      rfl
theorem settled_hi {m : Nat} {gs : List Gt} {D : List (List Int)} {a b : List Int} {M : List Int} (R : RunOk m gs D a b) (un : Under D M) {t : Int} : ∀ k, k ≤ gs.length → (M.take k).sum ≤ t → settledM (gs.take k) b = rowV gs D a b (m + k) t
  | 0, _, ht => by
    have ht : 0 ≤ t := ht
    show b = rowV gs D a b m t
    rw [rowV_in R.la R.lb R.okn R.sh, if_pos ht]
  | k + 1, hk, ht => by
    have hg : gs[k]? = some gs[k] := List.getElem?_eq_getElem (by omega)
    have hdl : k < D.length := by rw [R.sh.1]; omega
    have hd : D[k]? = some D[k] := List.getElem?_eq_getElem hdl
    have hM : k < M.length := by rw [un.1]; exact hdl
    obtain ⟨z0, z1⟩ := un.2 k _ _ hd (List.getElem?_eq_getElem hM)
    have es : (M.take (k + 1)).sum = (M.take k).sum + M[k] := by
      rw [List.take_add_one, List.getElem?_eq_getElem hM, List.sum_append]
      simp
    rw [es] at ht
    rw [settledM_take hg, ← Nat.add_assoc, rowV_snoc]
    unfold stepS
    rw [settled_hi (t := t) R un k (by omega) (by omega), (val_ok R.la R.lb R.okn R.sh).g k _ _ t hg hd]
    congr 3
    unfold pickI
    refine List.ext_getElem? fun j => ?_
    rw [List.getElem?_map, List.getElem?_map]
    have ld := R.sh.2 k _ _ hg hd
    by_cases hj : j < gs[k].2.length
    · have h1 : gs[k].2[j]? = some gs[k].2[j] := List.getElem?_eq_getElem hj
      have h2 : D[k][j]? = some (D[k][j]'(by omega)) := List.getElem?_eq_getElem _
      have hz : (gs[k].2.zip D[k])[j]? = some (gs[k].2[j], D[k][j]'(by omega)) := by rw [List.getElem?_zip_eq_some]; exact ⟨h1, h2⟩
      rw [h1, hz]
      have hw := (R.okn k _ hg).2.2.2 _ (List.getElem_mem hj)
      have le := z1 _ (List.getElem_mem (show j < D[k].length by omega))
      show some ((rowV gs D a b (m + k) t).getD gs[k].2[j] 0) = some (valAt gs D a b gs[k].2[j] (t - D[k][j]))
      rw [List.getD_eq_getElem?_getD, rowV_at hw]
      show some (valAt gs D a b gs[k].2[j] t) = _
      rw [V_hi R.la R.lb R.okn R.sh un k (by omega) _ hw t (t - D[k][j]) (by omega) (by omega)]
    · rw [List.getElem?_eq_none (by omega), List.getElem?_eq_none (by rw [List.length_zip]; omega)]
      rfl

section
variable {P : Program} {w : World} {K : PySem.W.Frag} {mg : Str → Option Value} {base : Heap}
def sp_settled (K : PySem.W.Frag) : Sp := fun vs H Q _ => ∃ (nv rv : V) (m : Int) (gs : List Gt) (a : List Int), vs = [nv, rv] ∧ Tk H nv (netD m gs) ∧ Tk H rv (rowD a) ∧ Row01 a ∧ a.length ≤ 16 ∧ gs.length ≤ 1000 ∧ NetOk a.length gs ∧ ∀ r H', Same H H' → Tk H' (.ref r) (rowD (settledM gs a)) → Q (.ref r) H'
theorem ok_settled (T : Tx K mg) : FnOk P w K mg base CX0 2 T.f_settled T.fd_settled ["net", "row"] (sp_settled K) := by
  refine T.F_settled.ok sc_settled (fun vs H Q E h => ?_) (fun cdv A outer s H vs Q E hr h => ?_)
  · obtain ⟨nv, rv, m, gs, a, rfl, _⟩ := h
    rfl
  · obtain ⟨nv, rv, m, gs, a, rfl, tn, tr, ha, h16, h64, ok, q⟩ := h
    refine ⟨_, (pss_cons (ps_set (i := 2) sc_settled.nd rfl (by first | exact .inl rfl | exact .inr rfl) (pe_callTy call_list_of (by rfl) T.m_list (by decide +kernel) (pa_cons (pv 1) pa_nil))) (pss_cons (ps_for PassesOwn.never rfl (pi_tup (pe_ix ix_tup (pv 0) pe_int (fun _ _ => rfl))) (pg_tup rfl (pgs_cons (pg_name (i := 3) sc_settled.nd rfl (by first | exact .inl rfl | exact .inr rfl)) (pgs_cons (pg_name (i := 4) sc_settled.nd rfl (by first | exact .inl rfl | exact .inr rfl)) pgs_nil))) (pss_one (ps_expr (pe_bm PySem.F.plainAttrs_list PySem.F.slot_list_append PySem.F.type_list_append mt_append (pv 2) (pa_cons (pe_call (ok_table_worth T) (hr.mono (by decide)) (by rfl) T.g_table_worth T.F_table_worth.kp T.b_table_worth .nil pass0 (pa_cons (pv 3) (pa_cons (pe_lc (own := [("wire", 5)]) (by rfl) sc_settled.nd (pi_tup (pv 4)) (blkOk_by (own := [("wire", 5)]) (N := ["net", "row", "worths", "table", "ins", "wire"]) (sc := defScope s_settled) (by decide +kernel)) (fun _ _ _ _ _ => (pg_name (i := 5) sc_settled.nd rfl (by first | exact .inl rfl | exact .inr rfl))) (fun _ _ _ _ _ => pts_nil) (fun _ _ _ _ _ => (pe_ix (show IxR _ (rIxL K) from ix_list) (pv 2) (pv 5) (fun _ _ => rfl)))) pa_nil))) pa_nil))))) (pss_one (ps_ret (pe_callTy call_tuple_of (by rfl) T.m_tuple (by decide +kernel) (pa_cons (pv 2) pa_nil)))))), ?_⟩
    obtain ⟨n, g, xs, rfl, hn, hg, tg⟩ := tn.net_inv
    obtain ⟨ra, rfl, hra⟩ := tr.row_inv
    have xl : xs.length = gs.length := by rw [tg.length, List.length_map]
    refine ⟨.ref ra, rfl, ra, _, rfl, .inr (SqT.of hra), fun L nL => ?_⟩
    have s1 := same_upd (o := HO.lst (a.map V.int)) nL
    refine ⟨.ref n, rfl, n, _, 1, .ref g, rfl, rfl, SqT.of (s1 _ _ hn), rfl, g, rfl, ⟨_, SqT.of (s1 _ _ hg)⟩, ?_⟩
    refine for_tup (K := K) (a := g) (xs := xs) (fun i σ H' => ∃ y3 y4, σ = [some (.ref n), some (.ref ra), some (.ref L), y3, y4, none] ∧ Same H (hd1 L H') ∧ H' L = some (.lst ((settledM (gs.take i) a).map V.int)))
      ⟨_, _, rfl, hd1_of s1 nL, upd_same⟩ (fun i σ H' _ ⟨_, _, _, hP, _⟩ => SqT.of (hd1_le _ _ (hP _ _ hg))) ?_ ?_
    · rintro i v σ H2 hv ⟨y3, y4, rfl, s2, hL⟩
      have s02 : Same H H2 := fun b o e => hd1_le _ _ (s2 _ _ e)
      obtain ⟨gt, hgt, tgt⟩ := tg.at hv
      obtain ⟨ga, ii, rfl, hga, hii⟩ := (tgt.same s02).gt_inv
      obtain ⟨ok1, ok2, ok3, ok4⟩ := ok i gt hgt
      have hil := (List.getElem?_eq_some_iff.mp hgt).1
      have sl : (settledM (gs.take i) a).length = a.length + i := by
        rw [settledM_len, List.length_take]
        omega
      have s01 := settledM_01 (gs.take i) a ha
      refine ⟨ga, _, rfl, SqT.of hga, rfl, _, _, rfl, _, _, rfl, rfl, ?_⟩
      refine ⟨.ref L, rfl, .inl ⟨rfl, _, SqL.of hL⟩, .str (tabOf gt.1), rfl, .ref ii, rfl, ii, rfl, ⟨_, SqT.of hii⟩, fun M nM => ?_⟩
      refine lc_tup (K := K) (a := ii) (xs := (gt.2.map Int.ofNat).map V.int) (fun j H' => Same H2 (hd1 M H') ∧ H' M = some (.lst ((pickI (settledM (gs.take i) a) (gt.2.take j)).map V.int))) ⟨hd1_of (same_upd nM) nM, upd_same⟩ (fun j H' _ hP => SqT.of (hd1_le _ _ (hP.1 _ _ hii))) ?_ ?_
      · rintro j x H3 hx ⟨s3, hM⟩
        rw [List.getElem?_map, List.getElem?_map] at hx
        cases hj : gt.2[j]? with
        | none => rw [hj] at hx; cases hx
        | some k =>
          rw [hj] at hx
          cases Option.some.inj hx
          have hk := ok4 k (List.mem_of_getElem? hj)
          have hjl := (List.getElem?_eq_some_iff.mp hj).1
          have hat : ((settledM (gs.take i) a).map V.int)[k]? = some (.int ((settledM (gs.take i) a).getD k 0)) := by
            rw [List.getElem?_map, List.getD_eq_getElem?_getD, List.getElem?_eq_getElem (by omega)]
            rfl
          refine ⟨rfl, .ref L, rfl, .int (Int.ofNat k), rfl, L, _, Int.ofNat k, _, rfl, rfl, SqL.of (hd1_le _ _ (s3 _ _ hL)), atI_nat hat, _, hM, ?_, s3.trans hd1_upd, ?_⟩
          · unfold pickI
            rw [List.length_map, List.length_map, List.length_take]
            exact Nat.lt_of_lt_of_le (show _ < 8 by omega) (by decide)
          · rw [upd_same, List.take_add_one, hj]
            unfold pickI
            rw [List.map_append, List.map_append]
            rfl
      · rintro H3 ⟨s3, hM⟩
        rw [List.length_map, List.length_map, List.take_length] at hM
        have s23 : Same H2 H3 := fun b o e => hd1_le _ _ (s3 _ _ e)
        have pl : (pickI (settledM (gs.take i) a) gt.2).length = gt.2.length := by unfold pickI; rw [List.length_map]
        refine ⟨gt.1, M, _, rfl, SqL.of hM, pick_01 s01 _, by rw [pl]; exact ok1, by rw [pl]; exact ok3, ?_⟩
        refine ⟨L, _, _, rfl, rfl, s23 _ _ hL, ?_, ?_⟩
        · rw [List.length_map, sl]
          exact Nat.lt_of_lt_of_le (show _ < 2000 by omega) (by decide)
        · refine ⟨_, _, rfl, s2.trans ((hd1_same s23).trans hd1_upd), ?_⟩
          rw [upd_same, settledM_take hgt]
          unfold stepS
          rw [List.map_append]
          rfl
    · rintro σ H2 ⟨y3, y4, rfl, s2, hL⟩
      rw [xl, List.take_length] at hL
      refine ⟨.ref L, rfl, L, _, rfl, .inl ⟨SqL.of hL, fun t nt => ?_⟩⟩
      exact q t _ (Same.trans (fun b o e => hd1_le _ _ (s2 _ _ e)) (same_upd nt)) (.tup upd_same (TkAll.ints _))

end
end Gk

set_option Elab.async false
set_option linter.all false
set_option maxRecDepth 100000
set_option maxHeartbeats 1000000
set_option pp.maxSteps 1500
set_option pp.deepTerms false
namespace Gk
open PySem PySem.Spec PyProof.Rows L2
/-! ### a machine on the heap -/
structure Mo where
  dx : Addr
  g : Addr
  da : Addr
  rb : Addr
  F : Addr
  Lv : Addr
  Tn : Addr
  Hd : Addr
  tns : List Addr
  hds : List Addr
def Mo.fs (o : Mo) (t : Int) : List (Str × V) := [("gates", .ref o.g), ("delays", .ref o.da), ("goal", .ref o.rb), ("now", .int t), ("firsts", .ref o.F), ("levels", .ref o.Lv), ("turns", .ref o.Tn), ("heard", .ref o.Hd)]
def Mo.own (o : Mo) (p : Addr) : List Addr := p :: o.Lv :: o.Tn :: o.Hd :: (o.tns ++ o.hds)
theorem Mo.fs_gates (o : Mo) (t : Int) : (o.fs t).lookup ("gates" : Str) = some (.ref o.g) := by kernel_rfl
theorem Mo.fs_delays (o : Mo) (t : Int) : (o.fs t).lookup ("delays" : Str) = some (.ref o.da) := by kernel_rfl
theorem Mo.fs_goal (o : Mo) (t : Int) : (o.fs t).lookup ("goal" : Str) = some (.ref o.rb) := by kernel_rfl
theorem Mo.fs_now (o : Mo) (t : Int) : (o.fs t).lookup ("now" : Str) = some (.int t) := by kernel_rfl
theorem Mo.fs_firsts (o : Mo) (t : Int) : (o.fs t).lookup ("firsts" : Str) = some (.ref o.F) := by kernel_rfl
theorem Mo.fs_levels (o : Mo) (t : Int) : (o.fs t).lookup ("levels" : Str) = some (.ref o.Lv) := by kernel_rfl
theorem Mo.fs_turns (o : Mo) (t : Int) : (o.fs t).lookup ("turns" : Str) = some (.ref o.Tn) := by kernel_rfl
theorem Mo.fs_heard (o : Mo) (t : Int) : (o.fs t).lookup ("heard" : Str) = some (.ref o.Hd) := by kernel_rfl
theorem Mo.no_step (o : Mo) (t : Int) : (o.fs t).lookup ("step" : Str) = none := by kernel_rfl
theorem Mo.no_time (o : Mo) (t : Int) : (o.fs t).lookup ("time" : Str) = none := by kernel_rfl
theorem Mo.no_worths (o : Mo) (t : Int) : (o.fs t).lookup ("worths" : Str) = none := by kernel_rfl
theorem Mo.no_read (o : Mo) (t : Int) : (o.fs t).lookup ("worth_read" : Str) = none := by kernel_rfl
theorem Mo.no_set (o : Mo) (t : Int) : (o.fs t).lookup ("set_level" : Str) = none := by kernel_rfl
theorem Mo.put_now (o : Mo) (t u : Int) : putF ("now" : Str) (.int u) (o.fs t) = o.fs u := by kernel_rfl
theorem Mo.few (o : Mo) (t : Int) : (o.fs t).length < 1000 := by show 8 < 1000; decide
structure MAt (C : Addr) (H : Hp) (p : Addr) (o : Mo) (gs : List Gt) (D : List (List Int)) (b fr : List Int) (t : Int) (L : List Int) (U : List (List Int)) (E : List (List Nat)) : Prop where
  hp : H p = some (.ins C o.dx (o.fs t))
  tg : ∃ xs, H o.g = some (.tup xs) ∧ TkAll H xs (gs.map gD)
  td : ∃ ds, H o.da = some (.tup ds) ∧ TkAll H ds (D.map rowD)
  tb : H o.rb = some (.tup (b.map V.int))
  tF : H o.F = some (.tup (fr.map V.int))
  lv : H o.Lv = some (.lst (L.map V.int))
  tn : H o.Tn = some (.lst (o.tns.map V.ref))
  hd : H o.Hd = some (.lst (o.hds.map V.ref))
  lu : o.tns.length = U.length
  us : ∀ (r : Nat) (q : Addr) (u : List Int), o.tns[r]? = some q → U[r]? = some u → H q = some (.lst (u.map V.int))
  le : o.hds.length = E.length
  es : ∀ (g : Nat) (q : Addr) (e : List Nat), o.hds[g]? = some q → E[g]? = some e → H q = some (.lst (nV e))
  nd : (o.own p).Nodup
def KeepO (O : List Addr) (H H' : Hp) : Prop := ∀ b x, b ∉ O → H b = some x → H' b = some x
theorem KeepO.refl {O : List Addr} {H : Hp} : KeepO O H H := fun _ _ _ e => e
theorem KeepO.trans {O : List Addr} {H H1 H2 : Hp} (a : KeepO O H H1) (b : KeepO O H1 H2) : KeepO O H H2 := fun c x h e => b c x h (a c x h e)
theorem KeepO.of {O : List Addr} {H H' : Hp} (s : Same H H') : KeepO O H H' := fun c x _ e => s c x e
theorem KeepO.upd {O : List Addr} {H : Hp} {q : Addr} {o : HO} (h : q ∈ O) : KeepO O H (upd H q o) := fun c x n e => by
  have nc : c ≠ q := fun z => n (by rw [z]; exact h)
  rw [upd_ne nc]
  exact e
theorem Ts.setN {H : Hp} {p : Addr} {o o' : HO} (h : H p = some o) (n : ∀ xs, o ≠ .tup xs) : Ts H (upd H p o') := fun b xs e => by
  rw [upd_ne (ne_of e h (fun z => n xs z.symm))]
  exact e
section
variable {C p : Addr} {H H' : Hp} {o : Mo} {gs : List Gt} {D : List (List Int)} {b fr : List Int} {t : Int} {L : List Int} {U : List (List Int)} {E : List (List Nat)}
theorem MAt.same (h : MAt C H p o gs D b fr t L U E) (s : Same H H') : MAt C H' p o gs D b fr t L U E := by
  obtain ⟨xs, g1, g2⟩ := h.tg
  obtain ⟨ds, d1, d2⟩ := h.td
  exact ⟨s _ _ h.hp, ⟨xs, s _ _ g1, g2.same s⟩, ⟨ds, s _ _ d1, d2.same s⟩, s _ _ h.tb, s _ _ h.tF, s _ _ h.lv, s _ _ h.tn, s _ _ h.hd, h.lu, fun r q u e1 e2 => s _ _ (h.us r q u e1 e2), h.le, fun r q u e1 e2 => s _ _ (h.es r q u e1 e2), h.nd⟩
theorem MAt.ne (h : MAt C H p o gs D b fr t L U E) : (p ≠ o.Lv ∧ p ≠ o.Tn ∧ p ≠ o.Hd ∧ (∀ q ∈ o.tns, p ≠ q) ∧ ∀ q ∈ o.hds, p ≠ q) ∧ (o.Lv ≠ o.Tn ∧ o.Lv ≠ o.Hd ∧ (∀ q ∈ o.tns, o.Lv ≠ q) ∧ ∀ q ∈ o.hds, o.Lv ≠ q) ∧ ((∀ q ∈ o.tns, o.Tn ≠ q) ∧ ∀ q ∈ o.hds, o.Tn ≠ q) ∧ ((∀ q ∈ o.tns, o.Hd ≠ q) ∧ ∀ q ∈ o.hds, o.Hd ≠ q) ∧ o.tns.Nodup ∧ o.hds.Nodup ∧ ∀ q ∈ o.tns, ∀ r ∈ o.hds, q ≠ r := by
  have h1 := h.nd
  unfold Mo.own at h1
  obtain ⟨n1, h1⟩ := List.nodup_cons.mp h1
  obtain ⟨n2, h1⟩ := List.nodup_cons.mp h1
  obtain ⟨n3, h1⟩ := List.nodup_cons.mp h1
  obtain ⟨n4, h1⟩ := List.nodup_cons.mp h1
  obtain ⟨n5, n6, n7⟩ := List.nodup_append.mp h1
  simp only [List.mem_cons, List.mem_append, not_or] at n1 n2 n3 n4
  exact ⟨⟨n1.1, n1.2.1, n1.2.2.1, fun q hq z => n1.2.2.2.1 (z ▸ hq), fun q hq z => n1.2.2.2.2 (z ▸ hq)⟩, ⟨n2.1, n2.2.1, fun q hq z => n2.2.2.1 (z ▸ hq), fun q hq z => n2.2.2.2 (z ▸ hq)⟩, ⟨fun q hq z => n3.2.1 (z ▸ hq), fun q hq z => n3.2.2 (z ▸ hq)⟩, ⟨fun q hq z => n4.1 (z ▸ hq), fun q hq z => n4.2 (z ▸ hq)⟩, n5, n6, n7⟩
theorem nodup_at {l : List Addr} (nd : l.Nodup) {i j : Nat} {q : Addr} (h1 : l[i]? = some q) (h2 : l[j]? = some q) : i = j := by
  obtain ⟨a1, a2⟩ := List.getElem?_eq_some_iff.mp h1
  obtain ⟨b1, b2⟩ := List.getElem?_eq_some_iff.mp h2
  exact (List.getElem_inj nd (h₀ := a1) (h₁ := b1)).mp (a2.trans b2.symm)
theorem MAt.setL (h : MAt C H p o gs D b fr t L U E) (L' : List Int) : MAt C (upd H o.Lv (.lst (L'.map V.int))) p o gs D b fr t L' U E := by
  obtain ⟨xs, g1, g2⟩ := h.tg
  obtain ⟨ds, d1, d2⟩ := h.td
  obtain ⟨⟨a1, a2, a3, a4, a5⟩, ⟨b1, b2, b3, b4⟩, _⟩ := h.ne
  have ts := Ts.set (ys := L'.map V.int) h.lv
  have no1 := noL_gates gs
  have no2 : noLs (D.map rowD) = true := noLs_map noL_row D
  exact ⟨by rw [upd_ne a1]; exact h.hp, ⟨xs, ts _ _ g1, g2.ts ts no1⟩, ⟨ds, ts _ _ d1, d2.ts ts no2⟩, ts _ _ h.tb, ts _ _ h.tF, upd_same, by rw [upd_ne b1.symm]; exact h.tn, by rw [upd_ne b2.symm]; exact h.hd, h.lu, fun r q u e1 e2 => by rw [upd_ne (b3 q (List.mem_of_getElem? e1)).symm]; exact h.us r q u e1 e2, h.le, fun r q u e1 e2 => by rw [upd_ne (b4 q (List.mem_of_getElem? e1)).symm]; exact h.es r q u e1 e2, h.nd⟩
theorem MAt.setU (h : MAt C H p o gs D b fr t L U E) {r : Nat} {q : Addr} (hq : o.tns[r]? = some q) (u : List Int) : MAt C (upd H q (.lst (u.map V.int))) p o gs D b fr t L (U.set r u) E := by
  obtain ⟨xs, g1, g2⟩ := h.tg
  obtain ⟨ds, d1, d2⟩ := h.td
  obtain ⟨⟨a1, a2, a3, a4, a5⟩, ⟨b1, b2, b3, b4⟩, ⟨c1, c2⟩, ⟨e1, e2⟩, f1, f2, f3⟩ := h.ne
  have qm := List.mem_of_getElem? hq
  have rl : r < U.length := by rw [← h.lu]; exact (List.getElem?_eq_some_iff.mp hq).1
  have hq0 := h.us r q U[r] hq (List.getElem?_eq_getElem rl)
  have ts := Ts.set (ys := u.map V.int) hq0
  have no1 := noL_gates gs
  have no2 : noLs (D.map rowD) = true := noLs_map noL_row D
  refine ⟨by rw [upd_ne (a4 q qm)]; exact h.hp, ⟨xs, ts _ _ g1, g2.ts ts no1⟩, ⟨ds, ts _ _ d1, d2.ts ts no2⟩, ts _ _ h.tb, ts _ _ h.tF, by rw [upd_ne (b3 q qm)]; exact h.lv, by rw [upd_ne (c1 q qm)]; exact h.tn, by rw [upd_ne (e1 q qm)]; exact h.hd, by rw [List.length_set]; exact h.lu, fun r' q' u' h1 h2 => ?_, h.le, fun g q' e h1 h2 => by rw [upd_ne (f3 q qm q' (List.mem_of_getElem? h1)).symm]; exact h.es g q' e h1 h2, h.nd⟩
  by_cases z : r' = r
  · subst z
    cases Option.some.inj (h1.symm.trans hq)
    rw [List.getElem?_set_self rl] at h2
    cases Option.some.inj h2
    exact upd_same
  · rw [List.getElem?_set_ne (fun y => z y.symm)] at h2
    have nq : q' ≠ q := fun y => z (nodup_at f1 h1 (y ▸ hq))
    rw [upd_ne nq]
    exact h.us r' q' u' h1 h2
theorem MAt.setE (h : MAt C H p o gs D b fr t L U E) {g : Nat} {q : Addr} (hq : o.hds[g]? = some q) (e : List Nat) : MAt C (upd H q (.lst (nV e))) p o gs D b fr t L U (E.set g e) := by
  obtain ⟨xs, g1, g2⟩ := h.tg
  obtain ⟨ds, d1, d2⟩ := h.td
  obtain ⟨⟨a1, a2, a3, a4, a5⟩, ⟨b1, b2, b3, b4⟩, ⟨c1, c2⟩, ⟨e1, e2⟩, f1, f2, f3⟩ := h.ne
  have qm := List.mem_of_getElem? hq
  have gl : g < E.length := by rw [← h.le]; exact (List.getElem?_eq_some_iff.mp hq).1
  have hq0 := h.es g q E[g] hq (List.getElem?_eq_getElem gl)
  have ts := Ts.set (ys := nV e) hq0
  have no1 := noL_gates gs
  have no2 : noLs (D.map rowD) = true := noLs_map noL_row D
  refine ⟨by rw [upd_ne (a5 q qm)]; exact h.hp, ⟨xs, ts _ _ g1, g2.ts ts no1⟩, ⟨ds, ts _ _ d1, d2.ts ts no2⟩, ts _ _ h.tb, ts _ _ h.tF, by rw [upd_ne (b4 q qm)]; exact h.lv, by rw [upd_ne (c2 q qm)]; exact h.tn, by rw [upd_ne (e2 q qm)]; exact h.hd, h.lu, fun r q' u h1 h2 => by rw [upd_ne (f3 q' (List.mem_of_getElem? h1) q qm)]; exact h.us r q' u h1 h2, by rw [List.length_set]; exact h.le, fun g' q' e' h1 h2 => ?_, h.nd⟩
  by_cases z : g' = g
  · subst z
    cases Option.some.inj (h1.symm.trans hq)
    rw [List.getElem?_set_self gl] at h2
    cases Option.some.inj h2
    exact upd_same
  · rw [List.getElem?_set_ne (fun y => z y.symm)] at h2
    have nq : q' ≠ q := fun y => z (nodup_at f2 h1 (y ▸ hq))
    rw [upd_ne nq]
    exact h.es g' q' e' h1 h2
theorem MAt.setT (h : MAt C H p o gs D b fr t L U E) (t' : Int) : MAt C (upd H p (.ins C o.dx (o.fs t'))) p o gs D b fr t' L U E := by
  obtain ⟨xs, g1, g2⟩ := h.tg
  obtain ⟨ds, d1, d2⟩ := h.td
  obtain ⟨⟨a1, a2, a3, a4, a5⟩, _⟩ := h.ne
  have ts : Ts H (upd H p (.ins C o.dx (o.fs t'))) := Ts.setN h.hp (fun xs z => by cases z)
  have no1 := noL_gates gs
  have no2 : noLs (D.map rowD) = true := noLs_map noL_row D
  exact ⟨upd_same, ⟨xs, ts _ _ g1, g2.ts ts no1⟩, ⟨ds, ts _ _ d1, d2.ts ts no2⟩, ts _ _ h.tb, ts _ _ h.tF, by rw [upd_ne a1.symm]; exact h.lv, by rw [upd_ne a2.symm]; exact h.tn, by rw [upd_ne a3.symm]; exact h.hd, h.lu, fun r q u e1 e2 => by rw [upd_ne (a4 q (List.mem_of_getElem? e1)).symm]; exact h.us r q u e1 e2, h.le, fun r q u e1 e2 => by rw [upd_ne (a5 q (List.mem_of_getElem? e1)).symm]; exact h.es r q u e1 e2, h.nd⟩
theorem MAt.inP : p ∈ o.own p := List.mem_cons_self
theorem MAt.inL : o.Lv ∈ o.own p := by unfold Mo.own; simp
theorem MAt.inT {r : Nat} {q : Addr} (h : o.tns[r]? = some q) : q ∈ o.own p := by
  have := List.mem_of_getElem? h
  unfold Mo.own
  simp [this]
theorem MAt.inH {r : Nat} {q : Addr} (h : o.hds[r]? = some q) : q ∈ o.own p := by
  have := List.mem_of_getElem? h
  unfold Mo.own
  simp [this]
end

end Gk

set_option Elab.async false
set_option linter.all false
set_option maxRecDepth 100000
set_option maxHeartbeats 1000000
set_option pp.maxSteps 1500
set_option pp.deepTerms false
namespace Gk
open PySem PySem.Spec PyProof.Rows L2
section
variable {P : Program} {w : World} {K : PySem.W.Frag} {mg : Str → Option Value} {base : Heap}
/-! ### a machine's steps, read -/
def sp_Machine_set_level (T : Tx K mg) : Sp := fun vs H Q _ => ∃ (p : Addr) (w : Nat) (x : Int) (o : Mo) (gs : List Gt) (D : List (List Int)) (b fr : List Int) (t : Int) (L : List Int) (U : List (List Int)) (E : List (List Nat)), vs = [.ref p, .int w, .int x] ∧ MAt T.C_Machine H p o gs D b fr t L U E ∧ w < L.length ∧ w < U.length ∧ (U.getD w []).length ≤ 100000 ∧
  ∀ H', MAt T.C_Machine H' p o gs D b fr t (setL L w x) (setU L U w x t) E → KeepO (o.own p) H H' → Q .non H'
theorem ok_Machine_set_level (T : Tx K mg) : FnOk P w K mg base CX0 1 T.f_Machine_set_level T.fd_Machine_set_level ["self", "wire", "worth"] (sp_Machine_set_level T) := by
  refine T.F_Machine_set_level.ok sc_Machine_set_level (fun vs H Q E h => ?_) (fun cdv A outer s H vs Q E hr h => ?_)
  · obtain ⟨p, w, x, o, gs, D, b, fr, t, L, U, E, rfl, _⟩ := h
    rfl
  · obtain ⟨p, wr, x, o, gs, D, b, fr, t, L, U, E, rfl, M, wL, wU, uS, q⟩ := h
    refine ⟨_, (pss_one (ps_if (pt_cmpR op_ne (pe_ix ix_list (pe_fld (pv 0) rfl) (pv 1) (fun _ _ => rfl)) (pv 2) (nomark _)) (pss_cons (ps_asg (pv 2) (pg_sub (pe_fld (pv 0) rfl) (pv 1) set_list)) (pss_one (ps_expr (pe_bm PySem.F.plainAttrs_list PySem.F.slot_list_append PySem.F.type_list_append mt_append (pe_ix ix_list (pe_fld (pv 0) rfl) (pv 1) (fun _ _ => rfl)) (pa_cons (pe_fld (pv 0) rfl) pa_nil))))) pss_nil)), ?_⟩
    have hL : L[wr]? = some (L.getD wr 0) := by rw [List.getD_eq_getElem?_getD, List.getElem?_eq_getElem wL]; rfl
    have hU : U[wr]? = some (U.getD wr []) := by rw [List.getD_eq_getElem?_getD, List.getElem?_eq_getElem wU]; rfl
    have hq : o.tns[wr]? = some (o.tns[wr]'(by rw [M.lu]; exact wU)) := List.getElem?_eq_getElem _
    generalize o.tns[wr]'(by rw [M.lu]; exact wU) = tq at hq
    have htq := M.us wr tq _ hq hU
    refine ⟨.ref p, rfl, p, T.C_Machine, o.dx, _, _, rfl, M.hp, T.cl_Machine, T.na_Machine_levels, o.fs_levels t, .int (wr : Nat), rfl, o.Lv, _, ((wr : Nat) : Int), .int (L.getD wr 0), rfl, rfl, SqL.of M.lv, atI_nat (by rw [List.getElem?_map, hL]; rfl), .int x, rfl, rfl, _, rfl, ite2 (fun e => ?_) (fun e => ?_)⟩
    · have ne : L.getD wr 0 ≠ x := fun z => by
        have : (!decide (V.int (L.getD wr 0) = V.int x)) = true := e
        rw [z, decide_eq_true rfl] at this
        cases this
      have e1 : setL L wr x = L.set wr x := by unfold setL; rw [if_pos ne]
      have e2 : setU L U wr x t = U.set wr (U.getD wr [] ++ [t]) := by unfold setU; rw [if_pos ne]
      rw [e1, e2] at q
      have M1 := M.setL (L.set wr x)
      refine ⟨.int x, rfl, .ref p, rfl, p, T.C_Machine, o.dx, _, _, rfl, M.hp, T.cl_Machine, T.na_Machine_levels, o.fs_levels t, .int (wr : Nat), rfl, o.Lv, _, _, wr, rfl, rfl, M.lv, ixN_k (by rw [List.length_map]; exact wL), ?_⟩
      rw [← List.map_set]
      have htq1 := M1.us wr tq _ hq hU
      have k1 : KeepO (o.own p) H (upd H o.Lv (.lst ((L.set wr x).map V.int))) := KeepO.upd MAt.inL
      generalize upd H o.Lv (.lst ((L.set wr x).map V.int)) = H1 at M1 htq1 k1 ⊢
      refine ⟨.ref p, rfl, p, T.C_Machine, o.dx, _, _, rfl, M1.hp, T.cl_Machine, T.na_Machine_turns, o.fs_turns t, .int (wr : Nat), rfl, o.Tn, _, ((wr : Nat) : Int), .ref tq, rfl, rfl, SqL.of M1.tn, atI_nat (by rw [List.getElem?_map, hq]; rfl), .inl ⟨rfl, _, SqL.of htq1⟩, .ref p, rfl, p, T.C_Machine, o.dx, _, _, rfl, M1.hp, T.cl_Machine, T.na_Machine_now, o.fs_now t, tq, _, _, rfl, rfl, htq1, ?_, ?_⟩
      · rw [List.length_map]
        exact Nat.lt_of_le_of_lt uS (by decide)
      have M2 := M1.setU hq (U.getD wr [] ++ [t])
      rw [List.map_append] at M2
      exact q _ M2 (k1.trans (KeepO.upd (MAt.inT hq)))
    · have eq : ¬ L.getD wr 0 ≠ x := fun ne => e (by
        show (!decide (V.int (L.getD wr 0) = V.int x)) = true
        rw [decide_eq_false (fun z => ne (V.int.inj z))]
        rfl)
      have e1 : setL L wr x = L := by unfold setL; rw [if_neg eq]
      have e2 : setU L U wr x t = U := by unfold setU; rw [if_neg eq]
      rw [e1, e2] at q
      exact q H M KeepO.refl
theorem nV_set (e : List Nat) (j c : Nat) : nV (e.set j c) = (nV e).set j (V.int (c : Nat)) := by
  unfold nV
  rw [List.map_set, List.map_set]
  rfl
def doneAt : L2.St → Nat
  | [_, _, _, _, _, _, some (V.int i)] => i.toNat
  | _ => 0
def sp_Machine_worth_read (T : Tx K mg) : Sp := fun vs H Q _ => ∃ (p : Addr) (g j r : Nat) (gt : Gt) (d : List Int) (y : Int) (e : List Nat) (u : List Int) (f : Int) (k : Nat) (o : Mo) (gs : List Gt) (D : List (List Int)) (b fr : List Int) (t : Int) (L : List Int) (U : List (List Int)) (E : List (List Nat)), vs = [.ref p, .int g, .int j] ∧ MAt T.C_Machine H p o gs D b fr t L U E ∧
  gs[g]? = some gt ∧ D[g]? = some d ∧ E[g]? = some e ∧ gt.2[j]? = some r ∧ d[j]? = some y ∧ U[r]? = some u ∧ fr[r]? = some f ∧ e[j]? = some k ∧ (f = 0 ∨ f = 1) ∧ u.Pairwise (· < ·) ∧ u.length ≤ 100000 ∧ k ≤ cnt u (t - y) ∧
  ∀ H', MAt T.C_Machine H' p o gs D b fr t L U (E.set g (e.set j (cnt u (t - y)))) → KeepO (o.own p) H H' → Q (.int (wv (f, u) (t - y))) H'
theorem ok_Machine_worth_read (T : Tx K mg) : FnOk P w K mg base CX0 1 T.f_Machine_worth_read T.fd_Machine_worth_read ["self", "gate", "place"] (sp_Machine_worth_read T) := by
  refine T.F_Machine_worth_read.ok sc_Machine_worth_read (fun vs H Q E h => ?_) (fun cdv A outer s H vs Q E hr h => ?_)
  · obtain ⟨p, g, j, r, gt, d, y, e, u, f, k, o, gs, D, b, fr, t, L, U, E, rfl, _⟩ := h
    rfl
  · obtain ⟨p, g, j, r, gt, d, y, e, u, f, k, o, gs, D, b, fr, t, L, U, E, rfl, M, hg, hd, he, hr', hy, hu, hf, hk, f01, rise, uS, kc, q⟩ := h
    refine ⟨_, (pss_cons (ps_set (i := 3) sc_Machine_worth_read.nd rfl (by first | exact .inl rfl | exact .inr rfl) (pe_ix ix_tup (pe_ix ix_tup (pe_ix ix_tup (pe_fld (pv 0) rfl) (pv 1) (fun _ _ => rfl)) pe_int (fun _ _ => rfl)) (pv 2) (fun _ _ => rfl))) (pss_cons (ps_set (i := 4) sc_Machine_worth_read.nd rfl (by first | exact .inl rfl | exact .inr rfl) (pe_op op_sub (pe_fld (pv 0) rfl) (pe_ix ix_tup (pe_ix ix_tup (pe_fld (pv 0) rfl) (pv 1) (fun _ _ => rfl)) (pv 2) (fun _ _ => rfl)))) (pss_cons (ps_set (i := 5) sc_Machine_worth_read.nd rfl (by first | exact .inl rfl | exact .inr rfl) (pe_ix ix_list (pe_fld (pv 0) rfl) (pv 3) (fun _ _ => rfl))) (pss_cons (ps_set (i := 6) sc_Machine_worth_read.nd rfl (by first | exact .inl rfl | exact .inr rfl) (pe_ix ix_list (pe_ix ix_list (pe_fld (pv 0) rfl) (pv 1) (fun _ _ => rfl)) (pv 2) (fun _ _ => rfl))) (pss_cons (ps_while PassesOwn.never (pw_and (pt_cmpR op_lt (pv 6) (pe_callB call_len_seq (by rfl) T.m_len PySem.boot_len (pa_cons (pv 5) pa_nil)) (nomark _)) (pw_and1 (pt_cmpR op_le (pe_ix ix_list (pv 5) (pv 6) (fun _ _ => rfl)) (pv 4) (nomark _)))).pt (pss_one (ps_aug (i := 6) sc_Machine_worth_read.nd rfl (by first | exact .inl rfl | exact .inr rfl) pe_int ip_add))) (pss_cons (ps_asg (pv 6) (pg_sub (pe_ix ix_list (pe_fld (pv 0) rfl) (pv 1) (fun _ _ => rfl)) (pv 2) set_list)) (pss_one (ps_ret (pe_op op_xor (pe_ix ix_tup (pe_fld (pv 0) rfl) (pv 3) (fun _ _ => rfl)) (pe_op op_odd (pv 6) pe_int)))))))))), ?_⟩
    obtain ⟨xs, hgg, tg⟩ := M.tg
    obtain ⟨ds, hdd, td⟩ := M.td
    obtain ⟨gv, hgv, tgt⟩ := tg.at' hg
    obtain ⟨ga, ii, rfl, hga, hii⟩ := tgt.gt_inv
    obtain ⟨dv, hdv, tdd⟩ := td.at' hd
    obtain ⟨dl, rfl, hdl⟩ := tdd.row_inv
    have cl := T.cl_Machine
    have hrv : ((gt.2.map Int.ofNat).map V.int)[j]? = some (.int (r : Nat)) := by rw [List.getElem?_map, List.getElem?_map, hr']; rfl
    have hyv : (d.map V.int)[j]? = some (.int y) := by rw [List.getElem?_map, hy]; rfl
    have htq : o.tns[r]? = some (o.tns[r]'(by rw [M.lu]; exact (List.getElem?_eq_some_iff.mp hu).1)) := List.getElem?_eq_getElem _
    generalize o.tns[r]'(by rw [M.lu]; exact (List.getElem?_eq_some_iff.mp hu).1) = tq at htq
    have htu := M.us r tq u htq hu
    have hhq : o.hds[g]? = some (o.hds[g]'(by rw [M.le]; exact (List.getElem?_eq_some_iff.mp he).1)) := List.getElem?_eq_getElem _
    generalize o.hds[g]'(by rw [M.le]; exact (List.getElem?_eq_some_iff.mp he).1) = hq at hhq
    have hhe := M.es g hq e hhq he
    have hkv : (nV e)[j]? = some (.int (k : Nat)) := by unfold nV; rw [List.getElem?_map, List.getElem?_map, hk]; rfl
    refine ⟨.ref p, rfl, p, T.C_Machine, o.dx, _, _, rfl, M.hp, cl, T.na_Machine_gates, o.fs_gates t, .int (g : Nat), rfl, o.g, xs, ((g : Nat) : Int), .ref ga, rfl, rfl, SqT.of hgg, atI_nat hgv, ga, _, 1, .ref ii, rfl, rfl, SqT.of hga, rfl, .int (j : Nat), rfl, ii, _, ((j : Nat) : Int), .int (r : Nat), rfl, rfl, SqT.of hii, atI_nat hrv, ?_⟩
    refine ⟨.ref p, rfl, p, T.C_Machine, o.dx, _, _, rfl, M.hp, cl, T.na_Machine_now, o.fs_now t, .ref p, rfl, p, T.C_Machine, o.dx, _, _, rfl, M.hp, cl, T.na_Machine_delays, o.fs_delays t, .int (g : Nat), rfl, o.da, ds, ((g : Nat) : Int), .ref dl, rfl, rfl, SqT.of hdd, atI_nat hdv, .int (j : Nat), rfl, dl, _, ((j : Nat) : Int), .int y, rfl, rfl, SqT.of hdl, atI_nat hyv, _, _, rfl, rfl, ?_⟩
    refine ⟨.ref p, rfl, p, T.C_Machine, o.dx, _, _, rfl, M.hp, cl, T.na_Machine_turns, o.fs_turns t, .int (r : Nat), rfl, o.Tn, _, ((r : Nat) : Int), .ref tq, rfl, rfl, SqL.of M.tn, atI_nat (by rw [List.getElem?_map, htq]; rfl), ?_⟩
    refine ⟨.ref p, rfl, p, T.C_Machine, o.dx, _, _, rfl, M.hp, cl, T.na_Machine_heard, o.fs_heard t, .int (g : Nat), rfl, o.Hd, _, ((g : Nat) : Int), .ref hq, rfl, rfl, SqL.of M.hd, atI_nat (by rw [List.getElem?_map, hhq]; rfl), .int (j : Nat), rfl, hq, _, ((j : Nat) : Int), .int (k : Nat), rfl, rfl, SqL.of hhe, atI_nat hkv, ?_⟩
    refine while_by (fun σ H' => H' = H ∧ ∃ c : Nat, σ = [some (.ref p), some (.int (g : Nat)), some (.int (j : Nat)), some (.int (r : Nat)), some (.int (t - y)), some (.ref tq), some (.int (c : Nat))] ∧ c ≤ cnt u (t - y)) (fun σ _ => u.length - doneAt σ) ⟨rfl, k, rfl, kc⟩ ?_ ?_
    · rintro σ H' ⟨rfl, c, rfl, hc⟩
      have cu := cnt_le u (t - y)
      refine ⟨.int (c : Nat), rfl, .ref tq, rfl, tq, _, rfl, .inl (SqL.of htu), ?_⟩
      rw [List.length_map]
      refine ⟨_, _, rfl, rfl, _, rfl, ite2 (fun z => ?_) (fun z => iteF ?_)⟩
      · have z : c < u.length := by
          have z : ((c : Nat) : Int) < (u.length : Int) := of_decide_eq_true z
          omega
        have hx : u[c]? = some u[c] := List.getElem?_eq_getElem z
        have cl' := cnt_lt (d := t - y) rise hx
        refine ⟨.ref tq, rfl, .int (c : Nat), rfl, tq, _, ((c : Nat) : Int), .int u[c], rfl, rfl, SqL.of htu, atI_nat (by rw [List.getElem?_map, hx]; rfl), .int (t - y), rfl, _, _, rfl, rfl, _, rfl, ite2 (fun w => ?_) (fun w => ?_)⟩
        · have w : u[c] ≤ t - y := of_decide_eq_true w
          refine ⟨.int (c : Nat), rfl, _, _, rfl, rfl, ⟨rfl, c + 1, rfl, cl'.mp w⟩, ?_⟩
          show u.length - (((c : Int) + 1).toNat) < u.length - ((c : Int).toNat)
          omega
        · have w : ¬ u[c] ≤ t - y := fun q => w (decide_eq_true q)
          have ec : c = cnt u (t - y) := by
            have := fun q => w (cl'.mpr q)
            omega
          refine ⟨.int (c : Nat), rfl, .ref p, rfl, p, T.C_Machine, o.dx, _, _, rfl, M.hp, cl, T.na_Machine_heard, o.fs_heard t, .int (g : Nat), rfl, o.Hd, _, ((g : Nat) : Int), .ref hq, rfl, rfl, SqL.of M.hd, atI_nat (by rw [List.getElem?_map, hhq]; rfl), .int (j : Nat), rfl, hq, _, _, j, rfl, rfl, hhe, ixN_k (by rw [nV_len]; exact (List.getElem?_eq_some_iff.mp hk).1), ?_⟩
          have M2 := M.setE hhq (e.set j c)
          have k2 : KeepO (o.own p) H' (upd H' hq (.lst (nV (e.set j c)))) := KeepO.upd (MAt.inH hhq)
          rw [← nV_set]
          generalize upd H' hq (.lst (nV (e.set j c))) = H2 at M2 k2 ⊢
          refine ⟨.ref p, rfl, p, T.C_Machine, o.dx, _, _, rfl, M2.hp, cl, T.na_Machine_firsts, o.fs_firsts t, .int (r : Nat), rfl, o.F, _, ((r : Nat) : Int), .int f, rfl, rfl, SqT.of M2.tF, atI_nat (by rw [List.getElem?_map, hf]; rfl), .int (c : Nat), rfl, c, rfl, rfl, _, _, rfl, rfl, ?_⟩
          rw [ec] at M2
          have r := q H2 M2 k2
          have ex : Builtin.bitXor f ((c % 2 : Nat) : Int) = wv (f, u) (t - y) := by
            unfold wv
            show Builtin.bitXor f ((c % 2 : Nat) : Int) = (f + (cnt u (t - y) : Int)) % 2
            rw [← ec]
            have h2 : c % 2 = 0 ∨ c % 2 = 1 := by omega
            have h3 : ((c : Int)) % 2 = ((c % 2 : Nat) : Int) := by omega
            rw [Int.add_emod, h3]
            rcases f01 with rfl | rfl <;> rcases h2 with z | z <;> rw [z] <;> decide
          show Q (V.int (Builtin.bitXor f ((c % 2 : Nat) : Int))) H2
          rw [ex]
          exact r
      · have z : ¬ c < u.length := fun q => z (decide_eq_true (by omega))
        have ec : c = cnt u (t - y) := by omega
        refine ⟨.int (c : Nat), rfl, .ref p, rfl, p, T.C_Machine, o.dx, _, _, rfl, M.hp, cl, T.na_Machine_heard, o.fs_heard t, .int (g : Nat), rfl, o.Hd, _, ((g : Nat) : Int), .ref hq, rfl, rfl, SqL.of M.hd, atI_nat (by rw [List.getElem?_map, hhq]; rfl), .int (j : Nat), rfl, hq, _, _, j, rfl, rfl, hhe, ixN_k (by rw [nV_len]; exact (List.getElem?_eq_some_iff.mp hk).1), ?_⟩
        have M2 := M.setE hhq (e.set j c)
        have k2 : KeepO (o.own p) H' (upd H' hq (.lst (nV (e.set j c)))) := KeepO.upd (MAt.inH hhq)
        rw [← nV_set]
        generalize upd H' hq (.lst (nV (e.set j c))) = H2 at M2 k2 ⊢
        refine ⟨.ref p, rfl, p, T.C_Machine, o.dx, _, _, rfl, M2.hp, cl, T.na_Machine_firsts, o.fs_firsts t, .int (r : Nat), rfl, o.F, _, ((r : Nat) : Int), .int f, rfl, rfl, SqT.of M2.tF, atI_nat (by rw [List.getElem?_map, hf]; rfl), .int (c : Nat), rfl, c, rfl, rfl, _, _, rfl, rfl, ?_⟩
        rw [ec] at M2
        have r := q H2 M2 k2
        have ex : Builtin.bitXor f ((c % 2 : Nat) : Int) = wv (f, u) (t - y) := by
          unfold wv
          show Builtin.bitXor f ((c % 2 : Nat) : Int) = (f + (cnt u (t - y) : Int)) % 2
          rw [← ec]
          have h2 : c % 2 = 0 ∨ c % 2 = 1 := by omega
          have h3 : ((c : Int)) % 2 = ((c % 2 : Nat) : Int) := by omega
          rw [Int.add_emod, h3]
          rcases f01 with rfl | rfl <;> rcases h2 with z | z <;> rw [z] <;> decide
        show Q (V.int (Builtin.bitXor f ((c % 2 : Nat) : Int))) H2
        rw [ex]
        exact r
    · intro σ H Q Q' hq h
      obtain ⟨v, e1, v2, e2, pp, ys, e3, e4, i', j', e5, e6, kk, e7, h⟩ := h
      refine ⟨v, e1, v2, e2, pp, ys, e3, e4, i', j', e5, e6, kk, e7, ?_⟩
      cases kk with
      | false => exact hq _ _ h
      | true =>
        obtain ⟨w1, g1, w2, g2, p2, y2, i2, v2', g3, g4, g5, g6, w3, g7, i3, j3, g8, g9, k3, g10, h⟩ := (h : _)
        exact ⟨w1, g1, w2, g2, p2, y2, i2, v2', g3, g4, g5, g6, w3, g7, i3, j3, g8, g9, k3, g10, hq _ _ h⟩

end
end Gk

set_option Elab.async false
set_option linter.all false
set_option maxRecDepth 100000
set_option maxHeartbeats 1000000
set_option pp.maxSteps 1500
set_option pp.deepTerms false
namespace Gk
open PySem PySem.Spec PyProof.Rows L2
/-! ### enumerate(tuple) -/
theorem draws_tuple {P : Program} {w : World} {A : Around} (hA : A.handled = none) (it a : Addr) (items : Array Value) (hne : a ≠ it) : Draws P w A it [it, a] items.size (fun i v => items[i]? = some v) (fun i h => h.IsTupleIter it a i ∧ h.IsTuple a items) where
  live := fun _ _ st => let ⟨o, ho, _⟩ := st.1; ⟨o, ho⟩
  frame := fun _ _ _ st hk => ⟨st.1.at fun o e => hk it (by simp) o e, by
    obtain ⟨o, ho, r⟩ := st.2
    exact ⟨o, hk a (by simp) o ho, r⟩⟩
  item := fun i s Q E hi st hQ => by
    refine RZ.nextOf_tuple_item st.1 st.2 (x := items[i]) (by simp [hi]) fun h' hit' hs' => ?_
    refine hQ _ h' s.toks (by simp [hi]) ⟨hit', ?_⟩ hs'
    obtain ⟨o, ho, r⟩ := st.2
    exact ⟨o, hs'.extBut a o hne ho, r⟩
  done := fun s Q E st hE => RZ.nextOf_tuple_end hA st.1 st.2 (by simp) hE
open PySem.AutoSeq1 in
set_option maxHeartbeats 1000000 in
theorem meets_enumerate_newT (l : Addr) (items : Array Value) (o : Obj) (hc : o.cls = .type "tuple") (n : Nat) (hd : o.data = .seq items n) :
    Meets (Builtin.«enumerate.__new__» ⟨[.type "enumerate", .ref l], []⟩) (fun _ R s => s.heap.get? l = some o ∧
      R (.ok (.ret (.ref (s.heap.push { cls := .type "tuple_iterator", data := .fields #[.ref l, .int 0 0] }).objs.size)))
        { s with heap := (s.heap.push { cls := .type "tuple_iterator", data := .fields #[.ref l, .int 0 0] }).push { cls := .type "enumerate", data := .fields #[.none, .bool false, .ref s.heap.objs.size, rawInt 0, .none, .none] } }) :=
  .of_wp fun prog w A R s h => by
    obtain ⟨hp, g, d, tk, os⟩ := s; obtain ⟨hl, h⟩ := h
    have hsub := sub_enumerate
    have hL : Heap.IsTuple (Shared.heap ⟨hp, g, d, tk, os⟩) l items := ⟨_, hl, hc, n, hd⟩
    wp_walk using wpAny_loadPart' hl
    refine wpAny_stack_any fun st => wpAny_pure ?_
    split
    · rename_i c _ _ _ _ _
      cases (c == Value.type "enumerate")
      · wp_walk using wpAny_loadPart' hl, wpAny_pyIter_tuple hL
        exact ⟨_, rfl, h⟩
      · wp_walk using wpAny_loadPart' hl, wpAny_pyIter_tuple hL
        exact ⟨_, rfl, h⟩
    · wp_walk using wpAny_loadPart' hl, wpAny_pyIter_tuple hL
      exact ⟨_, rfl, h⟩
theorem call_enumerate_tuple {prog : Program} {w : World} {A : Around} {E : Value → Shared → Prop} {s : Shared} {l : Addr} {items : Array Value} {Q : Value → Shared → Prop} (hL : s.heap.IsTuple l items)
    (h : ∀ h', IsEnum h' (s.heap.objs.size + 1) s.heap.objs.size 0 .none → h'.IsTupleIter s.heap.objs.size l 0 → h'.objs.size = s.heap.objs.size + 2 →
      (∀ b o, s.heap.get? b = some o → h'.get? b = some o) → Q (.ref (s.heap.objs.size + 1)) { s with heap := h' }) :
    wpAny (model prog w) A (call (.type "enumerate") [.ref l]) Q E s := by
  obtain ⟨o, hl, hc, n, hd⟩ := hL
  refine callType_new F.called_enumerate (by decide) (F.typeCall_enumerate_1 _) (F.newCall_enumerate_1 _) (fun obj => F.args_object_init_2 obj _) F.entry_enumerate_new
    (meets_enumerate_newT l items o hc n hd) ⟨hl, ?_⟩
  have hz : (s.heap.push { cls := .type "tuple_iterator", data := .fields #[.ref l, .int 0 0] }).objs.size = s.heap.objs.size + 1 := Heap.size_push ..
  show _ ∧ _
  rw [hz]
  have he : IsEnum ((s.heap.push { cls := .type "tuple_iterator", data := .fields #[.ref l, .int 0 0] }).push
      { cls := .type "enumerate", data := .fields #[.none, .bool false, .ref s.heap.objs.size, rawInt 0, .none, .none] }) (s.heap.objs.size + 1) s.heap.objs.size 0 .none := by
    have := Heap.get?_push_size (s.heap.push { cls := .type "tuple_iterator", data := .fields #[.ref l, .int 0 0] })
      (o := { cls := .type "enumerate", data := .fields #[.none, .bool false, .ref s.heap.objs.size, rawInt 0, .none, .none] }) rfl
    rw [hz] at this; exact this
  refine ⟨⟨_, he, rfl⟩, h _ he ⟨_, Heap.get?_push_of_some _ (Heap.get?_push_size _ rfl), rfl, rfl⟩ (by rw [Heap.size_push, hz]) fun b o x => Heap.get?_push_of_some _ (Heap.get?_push_of_some _ x)⟩
/-- the tuple at a, each item in a new pair -/
def IteT (K : PySem.W.Frag) (a : Addr) : It :=
  ⟨fun i H => ∃ (xs : List V) (x : V), SqT K H a xs ∧ xs[i]? = some x, fun i H v H' => ∃ T x, v = .ref T ∧ H T = none ∧ H' = upd H T (.tup [.int (i : Nat), x]) ∧ ∀ xs, SqT K H a xs → xs[i]? = some x, fun i H => ∃ xs : List V, SqT K H a xs ∧ xs.length = i⟩
theorem turn_enumT {P : Program} {w : World} {K : PySem.W.Frag} {elts : List Expr} {kk : Nat} {tpos : Pos} (a e it : Addr) :
    Turn P w K (.Tuple elts kk tpos) (IteT K a) [e, it] e (fun i h => (∃ old, IsEnum h e it ((i : Nat) : Int) old) ∧ h.IsTupleIter it a i ∧ e ≠ it) where
  mem := by simp
  obj := fun i h st b hb => by
    obtain ⟨⟨old, he⟩, ⟨o, ho, hc, hd⟩, _⟩ := st
    have e' : b = e ∨ b = it := by simpa using hb
    rcases e' with z | z
    · rw [z]; exact ⟨_, he, fun v q => nomatch q⟩
    · rw [z]; exact ⟨o, ho, fun v q => by rw [hd] at q; cases q⟩
  keep := fun i h h' st k => let ⟨⟨old, he⟩, hi, hne⟩ := st; ⟨⟨old, k e (by simp) _ he⟩, hi.at fun o q => k it (by simp) o q, hne⟩
  item := by
    intro X hP hw hK hc i pins s σ H E I hf st hg
    subst hP hw hK
    obtain ⟨⟨old, he⟩, hit, hne⟩ := st
    obtain ⟨xs, x, hq, hx⟩ := hg
    obtain ⟨its, rv, p, hz⟩ := I.tuple hq
    obtain ⟨u, hu, ru⟩ := rv.get hx
    have hel : e < s.heap.objs.size := Heap.lt_size he
    have hil : it < s.heap.objs.size := by obtain ⟨_, q, _⟩ := hit; exact Heap.lt_size q
    have hpt : s.heap.IsTuple a its.toArray := p
    have hai : a ≠ it := fun z => by
      obtain ⟨o1, h1, c1, _⟩ := hpt
      obtain ⟨o2, h2, c2, _⟩ := hit
      rw [z, h2] at h1
      cases h1
      rw [c2] at c1
      exact absurd (Value.type.inj c1) (by decide)
    have hae : e ≠ a := fun z => by
      obtain ⟨o1, h1, c1, _⟩ := hpt
      rw [← z, he] at h1
      cases h1
      exact absurd (Value.type.inj c1) (by decide)
    have hil2 : i < its.toArray.size := by
      rw [List.size_toArray]
      exact (List.getElem?_eq_some_iff.mp hu).1
    refine wpAny_pyNext_enum_itemD (draws_tuple (A := X.A.in1) (I.ok.hd hc) it a its.toArray hai) he ⟨hit, hpt⟩ hil2 hne (by simp only [List.mem_cons, List.not_mem_nil, or_false, not_or]; exact ⟨hne, hae⟩) fun y h' tk hy ho hst hT hsz hk => ?_
    have hyu : y = u := by
      have : its[i]? = some y := by simpa using hy
      rw [hu] at this
      exact (Option.some.inj this).symm
    subst hyu
    have hit' := hst.1
    refine ⟨_, rfl, wpAny_letOwnedTupleGo_enum (s := { s with heap := h', toks := tk + 1 }) ho fun h'' he' sb => ?_⟩
    have hT2 : h''.get? s.heap.objs.size = some { cls := .type "tuple", data := .seq #[.int i tk, y] } := (sb.2 _ (Nat.ne_of_gt hel)).trans hT
    have new : ObjOk X.prog X.w (upd H s.heap.objs.size (.tup [.int (i : Nat), x])) h'' s.heap.objs.size (.tup [.int (i : Nat), x]) :=
      ⟨by show 2 ≤ sizeLine; decide, [.int i tk, y], .cons ⟨_, rfl⟩ (.cons ru .nil), ⟨_, hT2, rfl, _, rfl⟩⟩
    have I1 : Inv X pins σ (upd H s.heap.objs.size (.tup [.int (i : Nat), x])) { s with heap := h'', toks := tk + 1 } :=
      I.turnedNew (ch := [e, it]) (fun b ob hb q => (sb.2 b (fun z => hb (by simp [z]))).trans (hk b ob (fun z => hb (by simp [z])) (fun z => hb (by simp [z])) q)) hf (Nat.le_refl _) new
    refine ⟨.ref s.heap.objs.size, _, I1, rfl, ⟨_, x, rfl, I.hok.fresh (Nat.le_refl _), rfl, fun ys hy => by rw [I.tuple_inj hy hq]; exact hx⟩, ⟨⟨y, ?_⟩, hit'.at fun o q => (sb.2 it (Ne.symm hne)).trans q, hne⟩, fun b hb => ?_⟩
    · have e1 : ((i + 1 : Nat) : Int) = (i : Int) + 1 := by omega
      rw [e1]; exact he'
    · have hb' : b < s.heap.objs.size := by
        have e' : b = e ∨ b = it := by simpa using hb
        rcases e' with z | z
        · rw [z]; exact hel
        · rw [z]; exact hil
      rw [upd_ne (Nat.ne_of_lt hb')]
      exact (hf b hb).1
  done := by
    intro X hP hw hK hc i pins s σ H E I hf st hg
    subst hP hw hK
    obtain ⟨⟨old, he⟩, hit, hne⟩ := st
    obtain ⟨xs, hq, hx⟩ := hg
    obtain ⟨its, rv, p, hz⟩ := I.tuple hq
    obtain ⟨f0, f1, f2, f3, f4, f5⟩ := hf it (by simp)
    have hl := rv.length
    have hpt : s.heap.IsTuple a its.toArray := p
    have hai : a ≠ it := fun z => by
      obtain ⟨o1, h1, c1, _⟩ := hpt
      obtain ⟨o2, h2, c2, _⟩ := hit
      rw [z, h2] at h1
      cases h1
      rw [c2] at c1
      exact absurd (Value.type.inj c1) (by decide)
    have hn : i = its.toArray.size := by rw [List.size_toArray]; omega
    exact wpAny_pyNext_enum_endD (draws_tuple (A := X.A.in1) (I.ok.hd hc) it a its.toArray hai) he (by rw [← hn]; exact ⟨hit, hpt⟩) fun h' eb => ⟨rfl, I.turned (t' := s.toks) (fun b o hb q => eb b o hb q) f0 f1 f3 f4 f5⟩
  self := fun A i s Q E st h => let ⟨⟨_, he⟩, _⟩ := st; wpAny_pyIter_enum he h
def iEnumT (K : PySem.W.Frag) (ta : TA) : TI := fun σ H R => ta σ H fun vs H1 => ∃ a xs, vs = [.ref a] ∧ SqT K H1 a xs ∧ R (IteT K a) H1
theorem pi_enumT {X : Cx} {e : Expr} {ta : TA} {p pos tpos : Pos} {elts : List Expr} {kk : Nat} (hg : Gl X "enumerate") (hm : X.mg "enumerate" = none) (ha : PA X [e] ta) (hs : starEach [e] X.env = [(false, eval e X.env)] := by rfl) :
    PI X (.Tuple elts kk tpos) (.Call (.Name "enumerate" p) [e] [] pos) (iEnumT X.K ta) := by
  refine ⟨fun pins s σ H R I h => ?_⟩
  refine Call_ (ld_blt I hg hm boot_enumerate (PyProof.Rows.callWith_type1 (thn (ha.run pos pins s σ H _ I h) fun us s1 ⟨vs, H1, I1, r1, q1⟩ => ?_) hs rfl))
  obtain ⟨a, xs, ex, hq, q⟩ := q1
  subst ex
  cases r1 with
  | cons r rr =>
    cases rr
    cases r
    obtain ⟨its, rv, p', hz⟩ := I1.tuple hq
    refine call_enumerate_tuple p' fun h' he hit hsz hk => wpAny_pyIter_enum he ?_
    have I2 : Inv X pins σ H1 { s1 with heap := h' } := I1.kept (t' := s1.toks) hk
    refine ⟨s1.heap.objs.size + 1, [s1.heap.objs.size + 1, s1.heap.objs.size], _, _, H1, rfl, I2, turn_enumT a (s1.heap.objs.size + 1) s1.heap.objs.size, ⟨⟨.none, he⟩, hit, Nat.succ_ne_self _⟩, fun b hb => ?_, q⟩
    have e' : b = s1.heap.objs.size + 1 ∨ b = s1.heap.objs.size := by simpa using hb
    have hle : s1.heap.objs.size ≤ b := by
      rcases e' with z | z
      · rw [z]; exact Nat.le_add_right _ _
      · rw [z]; exact Nat.le_refl _
    exact I1.fpOk hle (I1.hok.fresh hle)
theorem gx_enum {α : Type} {K : PySem.W.Frag} {a : Addr} {xs : List V} {g : TG} {tt : TT} {te : TE} {vs : List Nat} {σ0 : L2.St} {End : α → Hp → Prop} {Yd : α → V → Hp → (α → Hp → Prop) → Prop} {a0 : α} {H0 : Hp} (Pv : Nat → α → Hp → Prop) (h0 : Pv 0 a0 H0)
    (hl : ∀ i c H, i ≤ xs.length → Pv i c H → SqT K H a xs)
    (hs : ∀ i x T c H, xs[i]? = some x → H T = none → Pv i c H → g (.ref T) σ0 (upd H T (.tup [.int (i : Nat), x])) fun σ2 H2 => wipe σ2 vs = σ0 ∧ tt σ2 H2 fun b H3 => if b = true then te σ2 H3 fun y H4 => Yd c y H4 (Pv (i + 1)) else Pv (i + 1) c H3) (hd : ∀ c H, Pv xs.length c H → End c H) :
    ∃ W : Nat → Nat → α → Hp → Prop, (∃ m, W 0 m a0 H0) ∧ tGx (IteT K a) g tt te σ0 vs End Yd W := by
  refine ⟨fun i m c H => m = xs.length - i ∧ i ≤ xs.length ∧ Pv i c H, ⟨xs.length, rfl, Nat.zero_le _, h0⟩, ?_⟩
  rintro i m c H ⟨rfl, hi, p⟩
  by_cases hlt : i < xs.length
  · have hx : xs[i]? = some xs[i] := List.getElem?_eq_getElem hlt
    refine .inr ⟨⟨xs, xs[i], hl i c H hi p, hx⟩, Pv (i + 1), fun c' H' p' => ⟨xs.length - (i + 1), by omega, rfl, hlt, p'⟩, fun x H' y => ?_⟩
    obtain ⟨T, x1, rfl, nT, rfl, e1⟩ := y
    exact hs i x1 T c H (e1 xs (hl i c _ hi p)) nT p
  · have e : i = xs.length := by omega
    subst e
    exact .inl ⟨⟨xs, hl _ c H hi p, rfl⟩, hd c H p⟩
theorem gx_str {α : Type} {z : Str} {g : TG} {tt : TT} {te : TE} {vs : List Nat} {σ0 : L2.St} {End : α → Hp → Prop} {Yd : α → V → Hp → (α → Hp → Prop) → Prop} {a0 : α} {H0 : Hp} (Pv : Nat → α → Hp → Prop) (h0 : Pv 0 a0 H0)
    (hs : ∀ i x c H, z.cps[i]? = some x → Pv i c H → g (.str ⟨#[x]⟩) σ0 H fun σ2 H2 => wipe σ2 vs = σ0 ∧ tt σ2 H2 fun b H3 => if b = true then te σ2 H3 fun y H4 => Yd c y H4 (Pv (i + 1)) else Pv (i + 1) c H3) (hd : ∀ c H, Pv z.cps.size c H → End c H) :
    ∃ W : Nat → Nat → α → Hp → Prop, (∃ m, W 0 m a0 H0) ∧ tGx (Its z) g tt te σ0 vs End Yd W := by
  refine ⟨fun i m c H => m = z.cps.size - i ∧ i ≤ z.cps.size ∧ Pv i c H, ⟨z.cps.size, rfl, Nat.zero_le _, h0⟩, ?_⟩
  rintro i m c H ⟨rfl, hi, p⟩
  by_cases hlt : i < z.cps.size
  · refine .inr ⟨hlt, Pv (i + 1), fun c' H' p' => ⟨z.cps.size - (i + 1), by omega, rfl, hlt, p'⟩, fun x H' y => ?_⟩
    obtain ⟨rfl, ch, hc, rfl⟩ := y
    exact hs i ch c _ hc p
  · have e : i = z.cps.size := by omega
    subst e
    exact .inl ⟨Nat.le_refl _, hd c H p⟩

section
variable {P : Program} {w : World} {K : PySem.W.Frag} {mg : Str → Option Value} {base : Heap}
/-! ### walks over enumerate of a tuple -/
theorem for_enumT {K : PySem.W.Frag} {a : Addr} {xs : List V} {g : TG} {tb : TS} {D : Ends} {σ : L2.St} {H : Hp} (Pv : Nat → L2.St → Hp → Prop) (h0 : Pv 0 σ H) (hl : ∀ i σ H, i ≤ xs.length → Pv i σ H → SqT K H a xs)
    (hs : ∀ (i : Nat) (x : V) (T : Addr) (σ : L2.St) (H : Hp), xs[i]? = some x → H T = none → Pv i σ H → g (.ref T) σ (upd H T (.tup [.int (i : Nat), x])) fun σ2 H2 => tb { D with nx := Pv (i + 1), ct := Pv (i + 1), bk := D.nx } σ2 H2) (hd : ∀ σ H, Pv xs.length σ H → D.nx σ H) :
    ∃ W : Nat → Nat → L2.St → Hp → Prop, (∃ m, W 0 m σ H) ∧ ∀ i m σ H, W i m σ H →
      ((IteT K a).stop i H ∧ D.nx σ H) ∨ ((IteT K a).go i H ∧ ∃ N : L2.St → Hp → Prop, (∀ σ' H', N σ' H' → ∃ m', m' < m ∧ W (i + 1) m' σ' H') ∧ ∀ x H', (IteT K a).yld i H x H' → g x σ H' fun σ2 H2 => tb { D with nx := N, ct := N, bk := D.nx } σ2 H2) := by
  refine ⟨fun i m σ H => m = xs.length - i ∧ i ≤ xs.length ∧ Pv i σ H, ⟨xs.length, rfl, Nat.zero_le _, h0⟩, ?_⟩
  rintro i m σ H ⟨rfl, hi, p⟩
  have q := hl i σ H hi p
  by_cases hlt : i < xs.length
  · have hx : xs[i]? = some xs[i] := List.getElem?_eq_getElem hlt
    refine .inr ⟨⟨xs, xs[i], q, hx⟩, Pv (i + 1), fun σ' H' p' => ⟨xs.length - (i + 1), by omega, rfl, hlt, p'⟩, fun x H' y => ?_⟩
    obtain ⟨T, x1, rfl, nT, rfl, e1⟩ := y
    exact hs i x1 T σ H (e1 xs q) nT p
  · have e : i = xs.length := by omega
    subst e
    exact .inl ⟨⟨xs, q, rfl⟩, hd σ H p⟩
theorem lc_enumT {K : PySem.W.Frag} {a : Addr} {xs : List V} {g : TG} {tt : TT} {te : TE} {vs : List Nat} {σ : L2.St} {H1 : Hp} {D : Addr} {Qd : Hp → Prop} (Pv : Nat → Hp → Prop) (h0 : Pv 0 (upd H1 D (.lst []))) (hl : ∀ i H, i ≤ xs.length → Pv i H → SqT K H a xs)
    (hs : ∀ i x T H, xs[i]? = some x → H T = none → Pv i H → g (.ref T) (wipe σ vs) (upd H T (.tup [.int (i : Nat), x])) fun σ2 H2 => wipe σ2 vs = wipe σ vs ∧ tt σ2 H2 fun b H3 =>
      if b = true then te σ2 H3 fun y H4 => ∃ acc, H4 D = some (.lst acc) ∧ acc.length < sizeLine ∧ Pv (i + 1) (upd H4 D (.lst (acc ++ [y]))) else Pv (i + 1) H3) (hd : ∀ H, Pv xs.length H → Qd H) :
    ∃ W : Nat → Nat → Hp → Prop, (∃ m, W 0 m (upd H1 D (.lst []))) ∧ ∀ i m H, W i m H →
      ((IteT K a).stop i H ∧ Qd H) ∨ ((IteT K a).go i H ∧ ∃ Nx : Hp → Prop, (∀ H', Nx H' → ∃ m', m' < m ∧ W (i + 1) m' H') ∧ ∀ x H', (IteT K a).yld i H x H' → g x (wipe σ vs) H' fun σ2 H2 => wipe σ2 vs = wipe σ vs ∧ tt σ2 H2 fun b H3 =>
        if b = true then te σ2 H3 fun y H4 => ∃ acc, H4 D = some (.lst acc) ∧ acc.length < sizeLine ∧ Nx (upd H4 D (.lst (acc ++ [y]))) else Nx H3) := by
  refine ⟨fun i m H => m = xs.length - i ∧ i ≤ xs.length ∧ Pv i H, ⟨xs.length, by simp, Nat.zero_le _, h0⟩, ?_⟩
  rintro i m H ⟨rfl, hi, p⟩
  have qx := hl i H hi p
  by_cases hlt : i < xs.length
  · have hx : xs[i]? = some xs[i] := List.getElem?_eq_getElem hlt
    refine .inr ⟨⟨xs, _, qx, hx⟩, Pv (i + 1), fun H' p' => ⟨xs.length - (i + 1), by omega, rfl, hlt, p'⟩, fun x H' y => ?_⟩
    obtain ⟨T, x1, rfl, nT, rfl, e1⟩ := y
    exact hs i x1 T H (e1 xs qx) nT p
  · have e : i = xs.length := by omega
    subst e
    exact .inl ⟨⟨xs, qx, rfl⟩, hd H p⟩

/-- the machine at a time: what it has is what the waves have -/
structure MState (C : Addr) (H : Hp) (p : Addr) (o : Mo) (m : Nat) (gs : List Gt) (D : List (List Int)) (a b : List Int) (t : Int) : Prop where
  st : ∃ U E, MAt C H p o gs D b (rowV gs D a b (m + gs.length) (-1)) t (rowV gs D a b (m + gs.length) t) U E ∧ HeardOk gs D t U E ∧ U.length = m + gs.length ∧ ∀ (r : Nat) (u : List Int), U[r]? = some u → Upto u (valAt gs D a b r) t
theorem MState.same {C p : Addr} {H H' : Hp} {o : Mo} {m : Nat} {gs : List Gt} {D : List (List Int)} {a b : List Int} {t : Int} (h : MState C H p o m gs D a b t) (s : Same H H') : MState C H' p o m gs D a b t := by
  obtain ⟨U, E, M, r⟩ := h
  exact ⟨U, E, M.same s, r⟩
theorem upto_len {u : List Int} {f : Int → Int} {t : Int} (h : Upto u f t) {n : Nat} (hn : t < n) : u.length ≤ n := few_len (lo := 0) h.rise fun x hx => by
  have := h.bd x hx
  omega
theorem MAt.own_at {C p : Addr} {H : Hp} {o : Mo} {gs : List Gt} {D : List (List Int)} {b fr : List Int} {t : Int} {L : List Int} {U : List (List Int)} {E : List (List Nat)} (h : MAt C H p o gs D b fr t L U E) : ∀ q ∈ o.own p, ∃ x, H q = some x ∧ ∀ xs, x ≠ .tup xs := fun q hq => by
  unfold Mo.own at hq
  simp only [List.mem_cons, List.mem_append] at hq
  rcases hq with rfl | rfl | rfl | rfl | hq | hq
  · exact ⟨_, h.hp, fun xs z => by cases z⟩
  · exact ⟨_, h.lv, fun xs z => by cases z⟩
  · exact ⟨_, h.tn, fun xs z => by cases z⟩
  · exact ⟨_, h.hd, fun xs z => by cases z⟩
  · obtain ⟨r, hr⟩ := List.getElem?_of_mem hq
    have rl : r < U.length := by rw [← h.lu]; exact (List.getElem?_eq_some_iff.mp hr).1
    exact ⟨_, h.us r q _ hr (List.getElem?_eq_getElem rl), fun xs z => by cases z⟩
  · obtain ⟨r, hr⟩ := List.getElem?_of_mem hq
    have rl : r < E.length := by rw [← h.le]; exact (List.getElem?_eq_some_iff.mp hr).1
    exact ⟨_, h.es r q _ hr (List.getElem?_eq_getElem rl), fun xs z => by cases z⟩
theorem MAt.ts {C p : Addr} {H H' : Hp} {o : Mo} {gs : List Gt} {D : List (List Int)} {b fr : List Int} {t : Int} {L : List Int} {U : List (List Int)} {E : List (List Nat)} (h : MAt C H p o gs D b fr t L U E) (k : KeepO (o.own p) H H') : Ts H H' := fun q xs e => k q _ (fun z => by
  obtain ⟨x, e1, n⟩ := h.own_at q z
  rw [e] at e1
  exact n xs (Option.some.inj e1).symm) e
theorem MAt.off {C p W : Addr} {H : Hp} {o : Mo} {gs : List Gt} {D : List (List Int)} {b fr : List Int} {t : Int} {L : List Int} {U : List (List Int)} {E : List (List Nat)} (h : MAt C H p o gs D b fr t L U E) (n : H W = none) : W ∉ o.own p := fun z => by
  obtain ⟨x, e1, _⟩ := h.own_at W z
  rw [n] at e1
  cases e1
theorem MAt.other {C p W : Addr} {H : Hp} {o : Mo} {gs : List Gt} {D : List (List Int)} {b fr : List Int} {t : Int} {L : List Int} {U : List (List Int)} {E : List (List Nat)} {xs ys : List V} (h : MAt C H p o gs D b fr t L U E) (n : W ∉ o.own p) (hW : H W = some (.lst xs)) : MAt C (upd H W (.lst ys)) p o gs D b fr t L U E := by
  have ts := Ts.set (ys := ys) hW
  have k : ∀ q ∈ o.own p, ∀ x, H q = some x → upd H W (.lst ys) q = some x := fun q hq x e => by
    have nq : q ≠ W := fun z => n (z ▸ hq)
    rw [upd_ne nq]
    exact e
  obtain ⟨xs, g1, g2⟩ := h.tg
  obtain ⟨ds, d1, d2⟩ := h.td
  have no1 := noL_gates gs
  have no2 : noLs (D.map rowD) = true := noLs_map noL_row D
  exact ⟨k _ MAt.inP _ h.hp, ⟨xs, ts _ _ g1, g2.ts ts no1⟩, ⟨ds, ts _ _ d1, d2.ts ts no2⟩, ts _ _ h.tb, ts _ _ h.tF, k _ MAt.inL _ h.lv, k _ (by unfold Mo.own; simp) _ h.tn, k _ (by unfold Mo.own; simp) _ h.hd, h.lu, fun r q u e1 e2 => k _ (MAt.inT e1) _ (h.us r q u e1 e2), h.le, fun r q u e1 e2 => k _ (MAt.inH e1) _ (h.es r q u e1 e2), h.nd⟩
theorem half_end {gs : List Gt} {D : List (List Int)} {a b : List Int} {n : Nat} {t : Int} {L : List Int} {U : List (List Int)} (h : Half (valAt gs D a b) n n t L U) : L = rowV gs D a b n t ∧ ∀ (r : Nat) (u : List Int), U[r]? = some u → Upto u (valAt gs D a b r) t := by
  refine ⟨List.ext_getElem? fun r => ?_, fun r u hu => ?_⟩
  · by_cases hr : r < n
    · have hx : L[r]? = some (L[r]'(by rw [h.lL]; exact hr)) := List.getElem?_eq_getElem _
      rw [hx, rowV_at hr, h.L r _ hx, if_pos hr]
    · rw [List.getElem?_eq_none (by rw [h.lL]; omega), List.getElem?_eq_none (by rw [rowV_len]; omega)]
  · have := h.U r u hu
    have hr : r < n := by have := (List.getElem?_eq_some_iff.mp hu).1; rw [h.lU] at this; exact this
    rw [if_pos hr] at this
    exact this
def sp_Machine_time (T : Tx K mg) : Sp := fun vs H Q _ => ∃ (p : Addr) (o : Mo) (m : Nat) (gs : List Gt) (D : List (List Int)) (a b : List Int) (t : Int), vs = [.ref p] ∧ MState T.C_Machine H p o m gs D a b t ∧ Q (.int t) H
theorem ok_Machine_time (T : Tx K mg) : FnOk P w K mg base CX0 1 T.f_Machine_time T.fd_Machine_time ["self"] (sp_Machine_time T) := by
  refine T.F_Machine_time.ok sc_Machine_time (fun vs H Q E h => ?_) (fun cdv A outer s H vs Q E hr h => ?_)
  · obtain ⟨p, o, m, gs, D, a, b, t, rfl, _⟩ := h
    rfl
  · obtain ⟨p, o, m, gs, D, a, b, t, rfl, ⟨U, E', M, _⟩, q⟩ := h
    exact ⟨_, (pss_one (ps_ret (pe_fld (pv 0) rfl))), .ref p, rfl, p, T.C_Machine, o.dx, _, _, rfl, M.hp, T.cl_Machine, T.na_Machine_now, o.fs_now t, q⟩
def sp_Machine_worths (T : Tx K mg) : Sp := fun vs H Q _ => ∃ (p : Addr) (o : Mo) (m : Nat) (gs : List Gt) (D : List (List Int)) (a b : List Int) (t : Int), vs = [.ref p] ∧ MState T.C_Machine H p o m gs D a b t ∧ ∀ r H', H r = none → H' r = some (.tup ((rowV gs D a b (m + gs.length) t).map V.int)) → Same H H' → Q (.ref r) H'
theorem ok_Machine_worths (T : Tx K mg) : FnOk P w K mg base CX0 1 T.f_Machine_worths T.fd_Machine_worths ["self"] (sp_Machine_worths T) := by
  refine T.F_Machine_worths.ok sc_Machine_worths (fun vs H Q E h => ?_) (fun cdv A outer s H vs Q E hr h => ?_)
  · obtain ⟨p, o, m, gs, D, a, b, t, rfl, _⟩ := h
    rfl
  · obtain ⟨p, o, m, gs, D, a, b, t, rfl, ⟨U, E', M, _⟩, q⟩ := h
    exact ⟨_, (pss_one (ps_ret (pe_callTy call_tuple_of (by rfl) T.m_tuple (by decide +kernel) (pa_cons (pe_fld (pv 0) rfl) pa_nil)))), .ref p, rfl, p, T.C_Machine, o.dx, _, _, rfl, M.hp, T.cl_Machine, T.na_Machine_levels, o.fs_levels t, o.Lv, _, rfl, .inl ⟨SqL.of M.lv, fun r nr => q r _ nr upd_same (same_upd nr)⟩⟩
def sp_Machine_step (T : Tx K mg) : Sp := fun vs H Q _ => ∃ (p : Addr) (o : Mo) (m : Nat) (gs : List Gt) (D : List (List Int)) (a b : List Int) (t : Int), vs = [.ref p] ∧ MState T.C_Machine H p o m gs D a b t ∧ RunOk m gs D a b ∧ -1 ≤ t ∧ t < 90000 ∧ m ≤ 100 ∧ gs.length ≤ 100 ∧ ∀ H', MState T.C_Machine H' p o m gs D a b (t + 1) → KeepO (o.own p) H H' → Q .non H'
theorem ok_Machine_step (T : Tx K mg) : FnOk P w K mg base CX0 2 T.f_Machine_step T.fd_Machine_step ["self"] (sp_Machine_step T) := by
  refine T.F_Machine_step.ok sc_Machine_step (fun vs H Q E h => ?_) (fun cdv A outer s H vs Q E hr h => ?_)
  · obtain ⟨p, o, m, gs, D, a, b, t, rfl, _⟩ := h
    rfl
  · obtain ⟨p, o, m, gs, D, a, b, t, rfl, ⟨U, E', M, hE, lU, hU⟩, R, t1, t9, m1, g1, q⟩ := h
    refine ⟨_, (pss_cons (ps_fldaug (pv 0) pe_int ip_add) (pss_cons (ps_for PassesOwn.never rfl (pi_enumT (by rfl) T.m_enumerate (pa_cons (pe_fld (pv 0) rfl) pa_nil)) (pg_tup rfl (pgs_cons (pg_name (i := 1) sc_Machine_step.nd rfl (by first | exact .inl rfl | exact .inr rfl)) (pgs_cons (pg_name (i := 2) sc_Machine_step.nd rfl (by first | exact .inl rfl | exact .inr rfl)) pgs_nil))) (pss_one (ps_expr (pe_meth (pv 0) T.cl_Machine T.me_Machine_set_level (ok_Machine_set_level T) (hr.mono (by decide)) T.b_Machine_set_level .nil pass0 (pa_cons (pv 1) (pa_cons (pv 2) pa_nil)))))) (pss_one (ps_for PassesOwn.never rfl (pi_enumT (by rfl) T.m_enumerate (pa_cons (pe_fld (pv 0) rfl) pa_nil)) (pg_tup rfl (pgs_cons (pg_name (i := 3) sc_Machine_step.nd rfl (by first | exact .inl rfl | exact .inr rfl)) (pgs_cons (pg_tup rfl (pgs_cons (pg_name (i := 4) sc_Machine_step.nd rfl (by first | exact .inl rfl | exact .inr rfl)) (pgs_cons (pg_name (i := 5) sc_Machine_step.nd rfl (by first | exact .inl rfl | exact .inr rfl)) pgs_nil))) pgs_nil))) (pss_cons (ps_setLc (i := 6) (own := [("place", 7)]) (by rfl) sc_Machine_step.nd rfl rfl (sw_true rfl rfl rfl (by decide +kernel)) (pi_range1 (by rfl) T.m_range (pa_cons (pe_callB call_len_seq (by rfl) T.m_len PySem.boot_len (pa_cons (pv 5) pa_nil)) pa_nil)) (blkOk_by (own := [("place", 7)]) (N := ["self", "wire", "worth", "gate", "table", "ins", "worths", "place"]) (sc := defScope s_Machine_step) (by decide +kernel)) (fun _ _ _ _ _ => (pg_name (i := 7) sc_Machine_step.nd rfl (by first | exact .inl rfl | exact .inr rfl))) (fun _ _ _ _ _ => pts_nil) (fun _ _ _ _ _ => (show PE _ _ (tMeth T.C_Machine "worth_read" _ _ _ _ _) from (pe_meth (pv 0) T.cl_Machine T.me_Machine_worth_read (ok_Machine_worth_read T) (hr.mono (by decide)) T.b_Machine_worth_read .nil pass0 (pa_cons (pv 3) (pa_cons (pv 7) pa_nil)))))) (pss_one (ps_expr (pe_meth (pv 0) T.cl_Machine T.me_Machine_set_level (ok_Machine_set_level T) (hr.mono (by decide)) T.b_Machine_set_level .nil pass0 (pa_cons (pe_op op_add (pe_callB call_len_seq (by rfl) T.m_len PySem.boot_len (pa_cons (pe_fld (pv 0) rfl) pa_nil)) (pv 3)) (pa_cons (pe_call (ok_table_worth T) (hr.mono (by decide)) (by rfl) T.g_table_worth T.F_table_worth.kp T.b_table_worth .nil pass0 (pa_cons (pv 4) (pa_cons (pv 6) pa_nil))) pa_nil)))))))))), ?_⟩
    have cl := T.cl_Machine
    have h01 : ∀ r, r < m + gs.length → ∀ t, valAt gs D a b r t = 0 ∨ valAt gs D a b r t = 1 := fun r hr t => V01 R.la R.lb R.ha R.hb R.okn R.sh hr t
    refine ⟨.ref p, rfl, p, T.C_Machine, o.dx, _, _, rfl, M.hp, cl, T.na_Machine_now, o.fs_now t, _, _, rfl, rfl, o.dx, _, M.hp, o.few t, ?_⟩
    have M1 := M.setT (t + 1)
    have k1 : KeepO (o.own p) H (upd H p (.ins T.C_Machine o.dx (o.fs (t + 1)))) := KeepO.upd MAt.inP
    rw [o.put_now]
    generalize upd H p (.ins T.C_Machine o.dx (o.fs (t + 1))) = H1 at M1 k1 ⊢
    have half0 : Half (valAt gs D a b) (m + gs.length) 0 (t + 1) (rowV gs D a b (m + gs.length) t) U := ⟨rowV_len, lU, fun r x hx => by
      have hr : r < m + gs.length := by have := (List.getElem?_eq_some_iff.mp hx).1; rw [rowV_len] at this; exact this
      rw [rowV_at hr] at hx
      rw [if_neg (Nat.not_lt_zero _), ← Option.some.inj hx, show t + 1 - 1 = t by omega], fun r u hu => by
      rw [if_neg (Nat.not_lt_zero _), show t + 1 - 1 = t by omega]
      exact hU r u hu⟩
    have hE1 : HeardOk gs D (t + 1) U E' := hE.up (by omega) fun r s => Nat.le_refl _
    -- a wire more
    have setLev : ∀ {k : Nat} {L : List Int} {U : List (List Int)} {E : List (List Nat)}, k < m + gs.length → Half (valAt gs D a b) (m + gs.length) k (t + 1) L U → HeardOk gs D (t + 1) U E →
        k < L.length ∧ k < U.length ∧ (U.getD k []).length ≤ 100000 ∧ Half (valAt gs D a b) (m + gs.length) (k + 1) (t + 1) (setL L k (valAt gs D a b k (t + 1))) (setU L U k (valAt gs D a b k (t + 1)) (t + 1)) ∧ HeardOk gs D (t + 1) (setU L U k (valAt gs D a b k (t + 1)) (t + 1)) E := by
      intro k L U E hk hf he
      obtain ⟨hn, hc⟩ := hf.next h01 (by omega) hk
      have hu : U[k]? = some (U.getD k []) := by rw [List.getD_eq_getElem?_getD, List.getElem?_eq_getElem (by rw [hf.lU]; exact hk)]; rfl
      have up := hf.U k _ hu
      rw [if_neg (Nat.lt_irrefl _)] at up
      exact ⟨by rw [hf.lL]; exact hk, by rw [hf.lU]; exact hk, upto_len up (n := 100000) (by omega), hn, he.up (Int.le_refl _) hc⟩
    refine ⟨.ref p, rfl, p, T.C_Machine, o.dx, _, _, rfl, M1.hp, cl, T.na_Machine_goal, o.fs_goal _, o.rb, _, rfl, SqT.of M1.tb, ?_⟩
    have lb := R.lb
    refine for_enumT (K := K) (a := o.rb) (xs := b.map V.int) (fun k σ H' => ∃ y1 y2 L U, σ = [some (.ref p), y1, y2, none, none, none, none, none] ∧ MAt T.C_Machine H' p o gs D b (rowV gs D a b (m + gs.length) (-1)) (t + 1) L U E' ∧ Half (valAt gs D a b) (m + gs.length) k (t + 1) L U ∧ HeardOk gs D (t + 1) U E' ∧ KeepO (o.own p) H H')
      ⟨_, _, _, U, rfl, M1, half0, hE1, k1⟩ (fun k σ H' _ ⟨_, _, _, _, _, z, _⟩ => SqT.of z.tb) ?_ ?_
    · rintro k v T' σ H2 hv nT ⟨y1, y2, L, U, rfl, M2, hf2, he2, k2⟩
      obtain ⟨x, hx, rfl⟩ := vint_at hv
      have hk : k < m := by rw [← lb]; exact (List.getElem?_eq_some_iff.mp hx).1
      have s3 := same_upd (o := HO.tup [.int (k : Nat), V.int x]) nT
      have h3 : upd H2 T' (HO.tup [.int (k : Nat), V.int x]) T' = some (.tup [.int (k : Nat), V.int x]) := upd_same
      generalize upd H2 T' (HO.tup [.int (k : Nat), V.int x]) = H3 at s3 h3 ⊢
      have M3 := M2.same s3
      have ex : x = valAt gs D a b k (t + 1) := by
        rw [(val_ok R.la R.lb R.okn R.sh).i k (t + 1) hk, if_pos (by omega), List.getD_eq_getElem?_getD, hx]
        rfl
      refine ⟨T', _, rfl, SqT.of h3, rfl, _, _, rfl, _, _, rfl, rfl, ?_⟩
      obtain ⟨z1, z2, z3, z4, z5⟩ := setLev (k := k) (by omega) hf2 he2
      subst ex
      exact ⟨.ref p, rfl, p, o.dx, _, rfl, M3.hp, o.no_set _, .int (k : Nat), rfl, .int _, rfl, p, k, _, o, gs, D, b, _, t + 1, L, U, E', rfl, M3, z1, z2, z3, fun H4 M4 k4 => ⟨_, _, _, _, rfl, M4, z4, z5, (k2.trans (KeepO.of s3)).trans k4⟩⟩
    · rintro σ H2 ⟨y1, y2, L, U, rfl, M2, hf2, he2, k2⟩
      rw [List.length_map, lb] at hf2
      obtain ⟨xs, hg2, tg2⟩ := M2.tg
      obtain ⟨ds, hd2, td2⟩ := M2.td
      have lx : xs.length = gs.length := by rw [tg2.length, List.length_map]
      refine ⟨.ref p, rfl, p, T.C_Machine, o.dx, _, _, rfl, M2.hp, cl, T.na_Machine_gates, o.fs_gates _, o.g, xs, rfl, SqT.of hg2, ?_⟩
      refine for_enumT (K := K) (a := o.g) (xs := xs) (fun k σ H' => ∃ y1 y2 y3 y4 y5 y6 L U E, σ = [some (.ref p), y1, y2, y3, y4, y5, y6, none] ∧ MAt T.C_Machine H' p o gs D b (rowV gs D a b (m + gs.length) (-1)) (t + 1) L U E ∧ Half (valAt gs D a b) (m + gs.length) (m + k) (t + 1) L U ∧ HeardOk gs D (t + 1) U E ∧ KeepO (o.own p) H2 H')
        ⟨_, _, _, _, _, _, L, U, E', rfl, M2, hf2, he2, KeepO.refl⟩ (fun k σ H' _ ⟨_, _, _, _, _, _, _, _, _, _, _, _, _, z⟩ => SqT.of (M2.ts z _ _ hg2)) ?_ ?_
      · rintro k v T' σ H3 hv nT ⟨y1, y2, y3, y4, y5, y6, L, U, E, rfl, M3, hf3, he3, k3⟩
        obtain ⟨gt, hgt, tgt⟩ := tg2.at hv
        obtain ⟨ga, ii, rfl, hga, hii⟩ := tgt.gt_inv
        have okg := R.okn k gt hgt
        have hkl := (List.getElem?_eq_some_iff.mp hgt).1
        obtain ⟨d, hd⟩ : ∃ d, D[k]? = some d := ⟨_, List.getElem?_eq_getElem (show k < D.length by rw [R.sh.1]; exact hkl)⟩
        have ld := R.sh.2 k gt d hgt hd
        have nnd := R.nn d (List.mem_of_getElem? hd)
        have ts3 := M2.ts k3
        have s4 := same_upd (o := HO.tup [.int (k : Nat), V.ref ga]) nT
        have h4 : upd H3 T' (HO.tup [.int (k : Nat), V.ref ga]) T' = some (.tup [.int (k : Nat), V.ref ga]) := upd_same
        generalize upd H3 T' (HO.tup [.int (k : Nat), V.ref ga]) = H4 at s4 h4 ⊢
        have M4 := M3.same s4
        have hga4 := s4 _ _ (ts3 _ _ hga)
        have hii4 := s4 _ _ (ts3 _ _ hii)
        refine ⟨T', _, rfl, SqT.of h4, rfl, _, _, rfl, _, _, rfl, ga, _, rfl, SqT.of hga4, rfl, _, _, rfl, _, _, rfl, rfl, rfl, ?_⟩
        refine ⟨.ref ii, rfl, ii, _, rfl, .inr (SqT.of hii4), ?_⟩
        rw [List.length_map, List.length_map]
        refine ⟨((gt.2.length : Nat) : Int), rfl, by have := okg.2.2.1; omega, by have := okg.2.2.1; omega, fun W nW => ?_⟩
        have oW := M4.off nW
        have sW := same_upd (o := HO.lst []) nW
        have lls : ((gt.2.zip d).map fun x => valAt gs D a b x.1 (t + 1 - x.2)).length = gt.2.length := by rw [List.length_map, List.length_zip, ld, Nat.min_self]
        refine lc_range (lo := 0) (n := ((gt.2.length : Nat) : Int).toNat) (fun j H' => ∃ E, MAt T.C_Machine H' p o gs D b (rowV gs D a b (m + gs.length) (-1)) (t + 1) L U E ∧ HeardOk gs D (t + 1) U E ∧ KeepO (W :: o.own p) H4 H' ∧ H' W = some (.lst ((((gt.2.zip d).map fun x => valAt gs D a b x.1 (t + 1 - x.2)).take j).map V.int)))
          ⟨E, M4.same sW, he3, KeepO.of sW, upd_same⟩ ?_ ?_
        · rintro j H5 hj ⟨E, M5, he5, k5, hW5⟩
          have hj' : j < gt.2.length := by
            have : j < ((gt.2.length : Nat) : Int).toNat := hj
            omega
          obtain ⟨r, hr'⟩ : ∃ r, gt.2[j]? = some r := ⟨_, List.getElem?_eq_getElem hj'⟩
          obtain ⟨y, hy⟩ : ∃ y, d[j]? = some y := ⟨_, List.getElem?_eq_getElem (by omega)⟩
          have rl := okg.2.2.2 r (List.mem_of_getElem? hr')
          have y0 := nnd y (List.mem_of_getElem? hy)
          obtain ⟨e, he⟩ : ∃ e, E[k]? = some e := ⟨_, List.getElem?_eq_getElem (by rw [he5.lE]; exact hkl)⟩
          have le' := he5.row k gt e hgt he
          obtain ⟨kk, hkk⟩ : ∃ kk, e[j]? = some kk := ⟨_, List.getElem?_eq_getElem (by omega)⟩
          have hu : U[r]? = some (U.getD r []) := by rw [List.getD_eq_getElem?_getD, List.getElem?_eq_getElem (by rw [hf3.lU]; omega)]; rfl
          have up := hf3.U r _ hu
          rw [if_pos rl] at up
          have hfr : (rowV gs D a b (m + gs.length) (-1))[r]? = some (valAt gs D a b r (-1)) := rowV_at (by omega)
          refine ⟨rfl, .ref p, rfl, p, o.dx, _, rfl, M5.hp, o.no_read _, .int (k : Nat), rfl, .int (0 + (j : Int)), rfl, p, k, j, r, gt, d, y, e, U.getD r [], valAt gs D a b r (-1), kk, o, gs, D, b, _, t + 1, L, U, E, (by show [V.ref p, V.int (k : Nat), V.int (0 + (j : Int))] = _; rw [Int.zero_add]), M5, hgt, hd, he, hr', hy, hu, hfr, hkk, h01 r (by omega) _, up.rise, upto_len up (n := 100000) (by omega), he5.le k gt d e j r kk y hgt hd he hr' hy hkk, fun H6 M6 k6 => ?_⟩
          rw [up.at_ (t + 1 - y) (by omega)]
          have hW6 := k6 _ _ oW hW5
          have M7 : MAt T.C_Machine (upd H6 W (.lst ((((gt.2.zip d).map fun x => valAt gs D a b x.1 (t + 1 - x.2)).take j).map V.int ++ [V.int (valAt gs D a b r (t + 1 - y))]))) p o gs D b (rowV gs D a b (m + gs.length) (-1)) (t + 1) L U (E.set k (e.set j (cnt (U.getD r []) (t + 1 - y)))) := M6.other oW hW6
          refine ⟨_, hW6, ?_, _, M7, he5.hear hgt hd he hr' hy, (k5.trans (fun b x nb e => k6 b x (fun z => nb (List.mem_cons_of_mem _ z)) e)).trans (KeepO.upd List.mem_cons_self), ?_⟩
          · rw [List.length_map, List.length_take]
            have := okg.2.2.1
            exact Nat.lt_of_le_of_lt (show min j _ ≤ 3 by omega) (by decide)
          · have eu : ((gt.2.zip d).map fun x => valAt gs D a b x.1 (t + 1 - x.2))[j]? = some (valAt gs D a b r (t + 1 - y)) := by
              have hz : (gt.2.zip d)[j]? = some (r, y) := by rw [List.getElem?_zip_eq_some]; exact ⟨hr', hy⟩
              rw [List.getElem?_map, hz]
              rfl
            rw [upd_same, List.take_add_one, eu, List.map_append]
            rfl
        · rintro H5 ⟨E, M5, he5, k5, hW5⟩
          have el : ((gt.2.length : Nat) : Int).toNat = gt.2.length := by omega
          rw [el, List.take_of_length_le (by rw [lls]; exact Nat.le_refl _)] at hW5
          have ei : (((b.map V.int).length : Nat) : Int) + (k : Int) = ((m + k : Nat) : Int) := by rw [List.length_map, lb]; push_cast; omega
          have eV := (val_ok R.la R.lb R.okn R.sh).g k gt d (t + 1) hgt hd
          refine ⟨.ref p, rfl, p, o.dx, _, rfl, M5.hp, o.no_set _, .ref p, rfl, p, T.C_Machine, o.dx, _, _, rfl, M5.hp, cl, T.na_Machine_goal, o.fs_goal _, o.rb, _, rfl, .inr (SqT.of M5.tb), .int (k : Nat), rfl, _, _, rfl, rfl, .str (tabOf gt.1), rfl, .ref W, rfl, gt.1, W, _, rfl, SqL.of hW5, (fun u hu => by
            obtain ⟨x, hx, rfl⟩ := List.mem_map.mp hu
            have := okg.2.2.2 x.1 (List.of_mem_zip (a := x.1) (b := x.2) hx).1
            exact h01 x.1 (by omega) _), by rw [lls]; exact okg.1, by rw [lls]; exact okg.2.2.1, ?_⟩
          obtain ⟨z1, z2, z3, z4, z5⟩ := setLev (k := m + k) (by omega) hf3 he5
          refine ⟨p, m + k, valAt gs D a b (m + k) (t + 1), o, gs, D, b, _, t + 1, L, U, E, (by rw [eV, ← ei]; rfl), M5, z1, z2, z3, fun H6 M6 k6 => ?_⟩
          refine ⟨_, _, _, _, _, _, _, _, E, rfl, M6, z4, z5, fun b x nb e => ?_⟩
          have e4 := (k3.trans (KeepO.of s4)) b x nb e
          have nbW : b ≠ W := ne_of_none e4 nW
          exact k6 b x nb (k5 b x (fun z => (List.mem_cons.mp z).elim nbW nb) e4)
      · rintro σ H3 ⟨y1, y2, y3, y4, y5, y6, L, U, E, rfl, M3, hf3, he3, k3⟩
        rw [lx] at hf3
        obtain ⟨eL, eU⟩ := half_end hf3
        rw [eL] at M3
        exact q H3 ⟨U, E, M3, he3, hf3.lU, eU⟩ (k2.trans k3)

end
end Gk

set_option Elab.async false
set_option linter.all false
set_option maxRecDepth 100000
set_option maxHeartbeats 1000000
set_option pp.maxSteps 1500
set_option pp.deepTerms false
namespace Gk
open PySem PySem.Spec PyProof.Rows L2
section
variable {P : Program} {w : World} {K : PySem.W.Frag} {mg : Str → Option Value} {base : Heap}
/-! ### a machine made -/
def fA (g : Addr) : List (Str × V) := [("gates", V.ref g)]
def fB (g da : Addr) : List (Str × V) := [("gates", V.ref g), ("delays", V.ref da)]
def fC (g da rb : Addr) : List (Str × V) := [("gates", V.ref g), ("delays", V.ref da), ("goal", V.ref rb)]
def fD (g da rb : Addr) : List (Str × V) := [("gates", V.ref g), ("delays", V.ref da), ("goal", V.ref rb), ("now", V.int (-1))]
def fE (g da rb F : Addr) : List (Str × V) := [("gates", V.ref g), ("delays", V.ref da), ("goal", V.ref rb), ("now", V.int (-1)), ("firsts", V.ref F)]
def fF (g da rb F Lv : Addr) : List (Str × V) := [("gates", V.ref g), ("delays", V.ref da), ("goal", V.ref rb), ("now", V.int (-1)), ("firsts", V.ref F), ("levels", V.ref Lv)]
def fG (g da rb F Lv Tn : Addr) : List (Str × V) := [("gates", V.ref g), ("delays", V.ref da), ("goal", V.ref rb), ("now", V.int (-1)), ("firsts", V.ref F), ("levels", V.ref Lv), ("turns", V.ref Tn)]
def sp_Machine___init__ (T : Tx K mg) : Sp := fun vs H Q _ => ∃ (H0 : Hp) (x dx : Addr) (nv dv cv : V) (m : Nat) (gs : List Gt) (D : List (List Int)) (a b : List Int), vs = [.ref x, nv, dv, cv] ∧ Same H0 H ∧ H0 x = none ∧ H x = some (.ins T.C_Machine dx []) ∧ Tk H0 nv (netD m gs) ∧ Tk H0 dv (delsD D) ∧ Tk H0 cv (chD a b) ∧ RunOk m gs D a b ∧ m ≤ 16 ∧ gs.length ≤ 1000 ∧
  ∀ H' o, MState T.C_Machine H' x o m gs D a b (-1) → Same H0 H' → (∀ q ∈ o.own x, H0 q = none) → Q .non H'
theorem ok_Machine___init__ (T : Tx K mg) : FnOk P w K mg base CX0 3 T.f_Machine___init__ T.fd_Machine___init__ ["self", "net", "delays", "change"] (sp_Machine___init__ T) := by
  refine T.F_Machine___init__.ok sc_Machine___init__ (fun vs H Q E h => ?_) (fun cdv A outer s H vs Q E hr h => ?_)
  · obtain ⟨H0, x, dx, nv, dv, cv, m, gs, D, a, b, rfl, _⟩ := h
    rfl
  · obtain ⟨H0, x, dx, nv, dv, cv, m, gs, D, a, b, rfl, s0, nx0, hx, tn, td, tc, R, m16, g1, q⟩ := h
    refine ⟨_, (pss_cons (ps_fld (pv 0) (pe_ix ix_tup (pv 1) pe_int (fun _ _ => rfl)) rfl) (pss_cons (ps_fld (pv 0) (pv 2) rfl) (pss_cons (ps_fld (pv 0) (pe_ix ix_tup (pv 3) pe_int (fun _ _ => rfl)) rfl) (pss_cons (ps_fld (pv 0) (pe_un un_neg pe_int) rfl) (pss_cons (ps_fld (pv 0) (pe_call (ok_settled T) (hr.mono (by decide)) (by rfl) T.g_settled T.F_settled.kp T.b_settled .nil pass0 (pa_cons (pv 1) (pa_cons (pe_ix ix_tup (pv 3) pe_int (fun _ _ => rfl)) pa_nil))) rfl) (pss_cons (ps_fld (pv 0) (pe_callTy call_list_of (by rfl) T.m_list (by decide +kernel) (pa_cons (pe_fld (pv 0) rfl) pa_nil)) rfl) (pss_cons (ps_fld (pv 0) (pe_lc (own := [("first", 4)]) (by rfl) sc_Machine___init__.nd (pi_tup (pe_fld (pv 0) rfl)) (blkOk_by (own := [("first", 4)]) (N := ["self", "net", "delays", "change", "first", "table", "ins"]) (sc := defScope s_Machine___init__) (by decide +kernel)) (fun _ _ _ _ _ => (pg_name (i := 4) sc_Machine___init__.nd rfl (by first | exact .inl rfl | exact .inr rfl))) (fun _ _ _ _ _ => pts_nil) (fun _ _ _ _ _ => (pe_lst pa_nil))) rfl) (pss_one (ps_fld (pv 0) (pe_lc (own := [("table", 5), ("ins", 6)]) (by rfl) sc_Machine___init__.nd (pi_tup (pe_fld (pv 0) rfl)) (blkOk_by (own := [("table", 5), ("ins", 6)]) (N := ["self", "net", "delays", "change", "first", "table", "ins"]) (sc := defScope s_Machine___init__) (by decide +kernel)) (fun _ _ _ _ _ => (show PG _ _ (gTup K 2 _) from pg_tup rfl (pgs_cons (pg_name (i := 5) sc_Machine___init__.nd rfl (by first | exact .inl rfl | exact .inr rfl)) (pgs_cons (pg_name (i := 6) sc_Machine___init__.nd rfl (by first | exact .inl rfl | exact .inr rfl)) pgs_nil)))) (fun _ _ _ _ _ => pts_nil) (fun _ _ _ _ _ => (pe_op op_rep (pe_lst (pa_cons pe_int pa_nil)) (pe_callB (show CallR _ _ (rLenK K) from call_len_seq) (by rfl) T.m_len PySem.boot_len (pa_cons (pv 6) pa_nil))))) rfl))))))))), ?_⟩
    have cl := T.cl_Machine
    obtain ⟨c, ra, rb, rfl, hc, hra, hrb⟩ := tc.ch_inv
    obtain ⟨n, g, xs, rfl, hn, hg, tg⟩ := tn.net_inv
    obtain ⟨da, ds, rfl, hd, tds⟩ := td.tup_inv
    have lx : xs.length = gs.length := by rw [tg.length, List.length_map]
    -- gates
    refine ⟨.ref n, rfl, n, _, 1, .ref g, rfl, rfl, SqT.of (s0 _ _ hn), rfl, .ref x, rfl, x, T.C_Machine, dx, _, rfl, hx, cl, T.na_Machine_gates, by show 0 < 1000; decide, ?_⟩
    have f1 : putF ("gates" : Str) (V.ref g) [] = (fA g) := by kernel_rfl
    rw [f1]
    have s1 := sameU (o := HO.ins T.C_Machine dx (fA g)) s0 nx0
    have hx1 : upd H x (.ins T.C_Machine dx (fA g)) x = some (.ins T.C_Machine dx (fA g)) := upd_same
    generalize upd H x (.ins T.C_Machine dx (fA g)) = H1 at s1 hx1 ⊢
    -- delays
    refine ⟨.ref da, rfl, .ref x, rfl, x, T.C_Machine, dx, _, rfl, hx1, cl, T.na_Machine_delays, by show 1 < 1000; decide, ?_⟩
    have f2 : putF ("delays" : Str) (V.ref da) (fA g) = (fB g da) := by kernel_rfl
    rw [f2]
    have s2 := sameU (o := HO.ins T.C_Machine dx (fB g da)) s1 nx0
    have hx2 : upd H1 x (.ins T.C_Machine dx (fB g da)) x = some (.ins T.C_Machine dx (fB g da)) := upd_same
    generalize upd H1 x (.ins T.C_Machine dx (fB g da)) = H2 at s2 hx2 ⊢
    -- goal
    refine ⟨.ref c, rfl, c, _, 1, .ref rb, rfl, rfl, SqT.of (s2 _ _ hc), rfl, .ref x, rfl, x, T.C_Machine, dx, _, rfl, hx2, cl, T.na_Machine_goal, by show 2 < 1000; decide, ?_⟩
    have f3 : putF ("goal" : Str) (V.ref rb) (fB g da) = (fC g da rb) := by kernel_rfl
    rw [f3]
    have s3 := sameU (o := HO.ins T.C_Machine dx (fC g da rb)) s2 nx0
    have hx3 : upd H2 x (.ins T.C_Machine dx (fC g da rb)) x = some (.ins T.C_Machine dx (fC g da rb)) := upd_same
    generalize upd H2 x (.ins T.C_Machine dx (fC g da rb)) = H3 at s3 hx3 ⊢
    -- now
    refine ⟨1, rfl, .ref x, rfl, x, T.C_Machine, dx, _, rfl, hx3, cl, T.na_Machine_now, by show 3 < 1000; decide, ?_⟩
    have f4 : putF ("now" : Str) (V.int (-1)) (fC g da rb) = (fD g da rb) := by kernel_rfl
    show tSeq _ _ _ _ (upd H3 x (.ins T.C_Machine dx (putF ("now" : Str) (V.int (-1)) (fC g da rb))))
    rw [f4]
    have s4 := sameU (o := HO.ins T.C_Machine dx (fD g da rb)) s3 nx0
    have hx4 : upd H3 x (.ins T.C_Machine dx (fD g da rb)) x = some (.ins T.C_Machine dx (fD g da rb)) := upd_same
    generalize upd H3 x (.ins T.C_Machine dx (fD g da rb)) = H4 at s4 hx4 ⊢
    -- firsts
    refine ⟨.ref n, rfl, .ref c, rfl, c, _, 0, .ref ra, rfl, rfl, SqT.of (s4 _ _ hc), rfl, .ref n, .ref ra, m, gs, a, rfl, tn.same s4, .tup (s4 _ _ hra) (TkAll.ints a), R.ha, by rw [R.la]; exact m16, g1, by rw [R.la]; exact R.okn, fun F H5 s5 tF => ?_⟩
    have e0 : settledM gs a = rowV gs D a b (m + gs.length) (-1) := by
      have := settled_lo R (t := -1) (by decide) gs.length (Nat.le_refl _)
      rw [List.take_length] at this
      exact this
    rw [e0] at tF
    obtain ⟨F', eF, hF⟩ := tF.row_inv
    cases eF
    have hx5 := s5 _ _ hx4
    have s05 := s4.trans s5
    refine ⟨.ref x, rfl, x, T.C_Machine, dx, _, rfl, hx5, cl, T.na_Machine_firsts, by show 4 < 1000; decide, ?_⟩
    have f5 : putF ("firsts" : Str) (V.ref F) (fD g da rb) = (fE g da rb F) := by kernel_rfl
    rw [f5]
    have xF : F ≠ x := ne_of hF hx5 (by intro z; cases z)
    have s6 := sameU (o := HO.ins T.C_Machine dx (fE g da rb F)) s05 nx0
    have hx6 : upd H5 x (.ins T.C_Machine dx (fE g da rb F)) x = some (.ins T.C_Machine dx (fE g da rb F)) := upd_same
    have hF6 : upd H5 x (.ins T.C_Machine dx (fE g da rb F)) F = some (.tup ((rowV gs D a b (m + gs.length) (-1)).map V.int)) := by rw [upd_ne xF]; exact hF
    generalize upd H5 x (.ins T.C_Machine dx (fE g da rb F)) = H6 at s6 hx6 hF6 ⊢
    -- levels
    have l6 : List.lookup ("firsts" : Str) (fE g da rb F) = some (V.ref F) := by kernel_rfl
    refine ⟨.ref x, rfl, x, T.C_Machine, dx, _, _, rfl, hx6, cl, T.na_Machine_firsts, l6, F, _, rfl, .inr (SqT.of hF6), fun Lv nLv => ?_⟩
    have s7 := same_upd (o := HO.lst ((rowV gs D a b (m + gs.length) (-1)).map V.int)) nLv
    have hLv7 : upd H6 Lv (HO.lst ((rowV gs D a b (m + gs.length) (-1)).map V.int)) Lv = some (.lst ((rowV gs D a b (m + gs.length) (-1)).map V.int)) := upd_same
    generalize upd H6 Lv (HO.lst ((rowV gs D a b (m + gs.length) (-1)).map V.int)) = H7 at s7 hLv7 ⊢
    have hx7 := s7 _ _ hx6
    have xLv : x ≠ Lv := ne_of_none hx6 nLv
    refine ⟨.ref x, rfl, x, T.C_Machine, dx, _, rfl, hx7, cl, T.na_Machine_levels, by show 5 < 1000; decide, ?_⟩
    have f8 : putF ("levels" : Str) (V.ref Lv) (fE g da rb F) = (fF g da rb F Lv) := by kernel_rfl
    rw [f8]
    have s8 := sameU (o := HO.ins T.C_Machine dx (fF g da rb F Lv)) (s6.trans s7) nx0
    have hx8 : upd H7 x (.ins T.C_Machine dx (fF g da rb F Lv)) x = some (.ins T.C_Machine dx (fF g da rb F Lv)) := upd_same
    have hF8 : upd H7 x (.ins T.C_Machine dx (fF g da rb F Lv)) F = some (.tup ((rowV gs D a b (m + gs.length) (-1)).map V.int)) := by rw [upd_ne xF]; exact s7 _ _ hF6
    have hLv8 : upd H7 x (.ins T.C_Machine dx (fF g da rb F Lv)) Lv = some (.lst ((rowV gs D a b (m + gs.length) (-1)).map V.int)) := by rw [upd_ne xLv.symm]; exact hLv7
    generalize upd H7 x (.ins T.C_Machine dx (fF g da rb F Lv)) = H8 at s8 hx8 hF8 hLv8 ⊢
    -- turns
    have l8 : List.lookup ("firsts" : Str) (fF g da rb F Lv) = some (V.ref F) := by kernel_rfl
    refine ⟨.ref x, rfl, x, T.C_Machine, dx, _, _, rfl, hx8, cl, T.na_Machine_firsts, l8, F, rfl, ⟨_, SqT.of hF8⟩, fun Tn nTn => ?_⟩
    refine lc_tup (K := K) (a := F) (xs := (rowV gs D a b (m + gs.length) (-1)).map V.int) (fun i H' => Same H8 (hd1 Tn H') ∧ ∃ tns : List Addr, H' Tn = some (.lst (tns.map V.ref)) ∧ tns.length = i ∧ tns.Nodup ∧ ∀ q ∈ tns, H' q = some (.lst []) ∧ H8 q = none ∧ q ≠ Tn)
      ⟨hd1_of (same_upd nTn) nTn, [], upd_same, rfl, .nil, (fun q h => by cases h)⟩ (fun i H' _ z => SqT.of (hd1_le _ _ (z.1 _ _ hF8))) ?_ ?_
    · rintro i v H9 hv ⟨s9, tns, hTn9, lt, nd, all⟩
      have hil := (List.getElem?_eq_some_iff.mp hv).1
      rw [List.length_map, rowV_len] at hil
      refine ⟨rfl, Nat.zero_le _, fun r nr => ?_⟩
      have sr := same_upd (o := HO.lst []) nr
      have hr' : upd H9 r (HO.lst []) r = some (.lst []) := upd_same
      have rT : r ≠ Tn := (ne_of_none hTn9 nr).symm
      have r8 : H8 r = none := by
        cases z : H8 r with
        | none => rfl
        | some o =>
          have := hd1_le _ _ (s9 _ _ z)
          rw [nr] at this
          cases this
      refine ⟨_, sr _ _ hTn9, ?_, ?_, tns ++ [r], ?_, by rw [List.length_append, lt]; rfl, ?_, fun q hq => ?_⟩
      · rw [List.length_map]
        exact Nat.lt_of_lt_of_le (show tns.length < 2000 by omega) (by decide)
      · exact (s9.trans (hd1_same sr)).trans hd1_upd
      · rw [upd_same, List.map_append]
        rfl
      · rw [List.nodup_append]
        refine ⟨nd, by simp, fun y hy z hz => ?_⟩
        rw [List.mem_singleton.mp hz]
        exact ne_of_none (all y hy).1 nr
      · rcases List.mem_append.mp hq with z | z
        · obtain ⟨z1, z2, z3⟩ := all q z
          exact ⟨by rw [upd_ne z3]; exact sr _ _ z1, z2, z3⟩
        · rw [List.mem_singleton.mp z]
          exact ⟨by rw [upd_ne rT]; exact hr', r8, rT⟩
    rintro H9 ⟨s9, tns, hTn9, lt, ndt, allt⟩
    rw [List.length_map, rowV_len] at lt
    have k9 : Same H8 H9 := fun b o e => hd1_le _ _ (s9 b o e)
    have hx9 := k9 _ _ hx8
    have xTn : x ≠ Tn := ne_of_none hx8 nTn
    have LTn : Lv ≠ Tn := ne_of_none hLv8 nTn
    refine ⟨.ref x, rfl, x, T.C_Machine, dx, _, rfl, hx9, cl, T.na_Machine_turns, by show 6 < 1000; decide, ?_⟩
    have f10 : putF ("turns" : Str) (V.ref Tn) (fF g da rb F Lv) = (fG g da rb F Lv Tn) := by kernel_rfl
    rw [f10]
    have s10 := sameU (o := HO.ins T.C_Machine dx (fG g da rb F Lv Tn)) (s8.trans k9) nx0
    have kx : ∀ q o, q ≠ x → H9 q = some o → upd H9 x (.ins T.C_Machine dx (fG g da rb F Lv Tn)) q = some o := fun q o n e => by rw [upd_ne n]; exact e
    have hx10 : upd H9 x (.ins T.C_Machine dx (fG g da rb F Lv Tn)) x = some (.ins T.C_Machine dx (fG g da rb F Lv Tn)) := upd_same
    generalize upd H9 x (.ins T.C_Machine dx (fG g da rb F Lv Tn)) = H10 at s10 hx10 kx ⊢
    have hF10 := kx _ _ xF (k9 _ _ hF8)
    have hLv10 := kx _ _ xLv.symm (k9 _ _ hLv8)
    have hTn10 := kx _ _ xTn.symm hTn9
    have allt10 : ∀ q ∈ tns, H10 q = some (.lst []) ∧ q ≠ x ∧ q ≠ Lv := fun q hq => by
      obtain ⟨z1, z2, z3⟩ := allt q hq
      have nqx : q ≠ x := (ne_of_none hx8 z2).symm
      exact ⟨kx _ _ nqx z1, nqx, (ne_of_none hLv8 z2).symm⟩
    -- heard
    have l10 : List.lookup ("gates" : Str) (fG g da rb F Lv Tn) = some (V.ref g) := by kernel_rfl
    have hg10 := s10 _ _ hg
    refine ⟨.ref x, rfl, x, T.C_Machine, dx, _, _, rfl, hx10, cl, T.na_Machine_gates, l10, g, rfl, ⟨_, SqT.of hg10⟩, fun Hd nHd => ?_⟩
    refine lc_tup (K := K) (a := g) (xs := xs) (fun i H' => Same H10 (hd1 Hd H') ∧ ∃ hds : List Addr, H' Hd = some (.lst (hds.map V.ref)) ∧ hds.length = i ∧ hds.Nodup ∧ ∀ (j : Nat) (q : Addr) (gt : Gt), hds[j]? = some q → gs[j]? = some gt → H' q = some (.lst (nV (List.replicate gt.2.length 0))) ∧ H10 q = none ∧ q ≠ Hd)
      ⟨hd1_of (same_upd nHd) nHd, [], upd_same, rfl, .nil, (fun j q gt h _ => by cases h)⟩ (fun i H' _ z => SqT.of (hd1_le _ _ (z.1 _ _ hg10))) ?_ ?_
    · rintro i v H11 hv ⟨s11, hds, hHd11, lh, nd, all⟩
      obtain ⟨gt, hgt, tgt⟩ := tg.at hv
      obtain ⟨ga, ii, rfl, hga, hii⟩ := tgt.gt_inv
      have okg := R.okn i gt hgt
      have hil := (List.getElem?_eq_some_iff.mp hgt).1
      have k11 : Same H10 H11 := fun b o e => hd1_le _ _ (s11 b o e)
      have k011 := s10.trans k11
      refine ⟨ga, _, rfl, SqT.of (k011 _ _ hga), rfl, _, _, rfl, _, _, rfl, rfl, rfl, sl1, fun z nz => ?_⟩
      have sz := same_upd (o := HO.lst [V.int 0]) nz
      have hz : upd H11 z (HO.lst [V.int 0]) z = some (.lst [V.int 0]) := upd_same
      generalize upd H11 z (HO.lst [V.int 0]) = H12 at sz hz ⊢
      refine ⟨.ref ii, rfl, ii, _, rfl, .inr (SqT.of (sz _ _ (k011 _ _ hii))), ?_⟩
      rw [List.length_map, List.length_map]
      refine ⟨z, ((gt.2.length : Nat) : Int), _, rfl, rfl, hz, by omega, by have := okg.2.2.1; omega, ?_, fun r nr => ?_⟩
      · have := okg.2.2.1
        exact Nat.le_trans (show [V.int 0].length * ((gt.2.length : Nat) : Int).toNat ≤ 3 by show 1 * _ ≤ 3; omega) (by decide)
      have er : (List.replicate ((gt.2.length : Nat) : Int).toNat [V.int 0]).flatten = nV (List.replicate gt.2.length 0) := by
        rw [show ((gt.2.length : Nat) : Int).toNat = gt.2.length by omega]
        unfold nV
        generalize gt.2.length = k
        induction k with
        | zero => rfl
        | succ k ih =>
          rw [List.replicate_succ, List.flatten_cons, ih, List.replicate_succ]
          rfl
      rw [er]
      have hHd12 := sz _ _ hHd11
      have sr := same_upd (o := HO.lst (nV (List.replicate gt.2.length 0))) nr
      have hr' : upd H12 r (HO.lst (nV (List.replicate gt.2.length 0))) r = some (.lst (nV (List.replicate gt.2.length 0))) := upd_same
      generalize upd H12 r (HO.lst (nV (List.replicate gt.2.length 0))) = H13 at sr hr' ⊢
      have s113 := sz.trans sr
      have rH : r ≠ Hd := (ne_of_none hHd12 nr).symm
      have r10 : H10 r = none := by
        cases y : H10 r with
        | none => rfl
        | some o =>
          have := sz _ _ (k11 _ _ y)
          rw [nr] at this
          cases this
      refine ⟨_, s113 _ _ hHd11, ?_, ?_, hds ++ [r], ?_, by rw [List.length_append, lh]; rfl, ?_, fun j q gt' h1 h2 => ?_⟩
      · rw [List.length_map]
        exact Nat.lt_of_lt_of_le (show hds.length < 2000 by omega) (by decide)
      · exact (s11.trans (hd1_same s113)).trans hd1_upd
      · rw [upd_same, List.map_append]
        rfl
      · rw [List.nodup_append]
        refine ⟨nd, by simp, fun y hy u hu => ?_⟩
        rw [List.mem_singleton.mp hu]
        obtain ⟨j, hj⟩ := List.getElem?_of_mem hy
        have jl := (List.getElem?_eq_some_iff.mp hj).1
        exact ne_of_none (sz _ _ (all j y _ hj (List.getElem?_eq_getElem (by omega))).1) nr
      · by_cases jl : j < hds.length
        · rw [List.getElem?_append_left jl] at h1
          obtain ⟨z1, z2, z3⟩ := all j q gt' h1 h2
          exact ⟨by rw [upd_ne z3]; exact s113 _ _ z1, z2, z3⟩
        · rw [List.getElem?_append_right (by omega)] at h1
          have ej : j = hds.length := by
            have := (List.getElem?_eq_some_iff.mp h1).1
            simp at this
            omega
          subst ej
          rw [Nat.sub_self] at h1
          cases Option.some.inj h1
          rw [lh] at h2
          cases Option.some.inj (h2.symm.trans hgt)
          exact ⟨by rw [upd_ne rH]; exact hr', r10, rH⟩
    rintro H11 ⟨s11, hds, hHd11, lh, ndh, allh⟩
    rw [lx] at lh
    have k11 : Same H10 H11 := fun b o e => hd1_le _ _ (s11 b o e)
    have hx11 := k11 _ _ hx10
    have xHd : x ≠ Hd := ne_of_none hx10 nHd
    have LHd : Lv ≠ Hd := ne_of_none hLv10 nHd
    have THd : Tn ≠ Hd := ne_of_none hTn10 nHd
    refine ⟨.ref x, rfl, x, T.C_Machine, dx, _, rfl, hx11, cl, T.na_Machine_heard, by show 7 < 1000; decide, ?_⟩
    let o : Mo := ⟨dx, g, da, rb, F, Lv, Tn, Hd, tns, hds⟩
    have f12 : putF ("heard" : Str) (V.ref Hd) (fG g da rb F Lv Tn) = o.fs (-1) := by kernel_rfl
    rw [f12]
    have s12 := sameU (o := HO.ins T.C_Machine dx (o.fs (-1))) (s10.trans k11) nx0
    have kx2 : ∀ q u, q ≠ x → H11 q = some u → upd H11 x (.ins T.C_Machine dx (o.fs (-1))) q = some u := fun q u n e => by rw [upd_ne n]; exact e
    have hx12 : upd H11 x (.ins T.C_Machine dx (o.fs (-1))) x = some (.ins T.C_Machine dx (o.fs (-1))) := upd_same
    have eachh : ∀ (j : Nat) (q : Addr), hds[j]? = some q → ∃ gt, gs[j]? = some gt ∧ H11 q = some (.lst (nV (List.replicate gt.2.length 0))) ∧ H10 q = none ∧ q ≠ Hd := fun j q hj => by
      have jl := (List.getElem?_eq_some_iff.mp hj).1
      exact ⟨_, List.getElem?_eq_getElem (show j < gs.length by omega), allh j q _ hj (List.getElem?_eq_getElem (show j < gs.length by omega))⟩
    have nexth : ∀ q ∈ hds, H10 q = none ∧ q ≠ Hd := fun q hq => by
      obtain ⟨j, hj⟩ := List.getElem?_of_mem hq
      obtain ⟨gt, _, _, z2, z3⟩ := eachh j q hj
      exact ⟨z2, z3⟩
    have h0of : ∀ q, H10 q = none → H0 q = none := fun q e => none_of_same s10 e
    refine q _ o ⟨List.replicate (m + gs.length) [], gs.map (fun gt => List.replicate gt.2.length 0), ⟨hx12, ⟨xs, s12 _ _ hg, tg.same s12⟩, ⟨ds, s12 _ _ hd, tds.same s12⟩, s12 _ _ hrb, kx2 _ _ xF (k11 _ _ hF10), kx2 _ _ xLv.symm (k11 _ _ hLv10), kx2 _ _ xTn.symm (k11 _ _ hTn10), kx2 _ _ xHd.symm hHd11, by rw [List.length_replicate]; exact lt, fun r q u h1 h2 => ?_, by rw [List.length_map]; exact lh, fun j q e h1 h2 => ?_, ?_⟩, ⟨by rw [List.length_map], fun j gt e h1 h2 => ?_, fun j gt d e i r k y h1 h2 h3 h4 h5 h6 => ?_⟩, List.length_replicate .., fun r u hu => ?_⟩ s12 fun q hq => ?_
    · obtain ⟨z1, z2, z3⟩ := allt10 q (List.mem_of_getElem? h1)
      have eu : u = [] := List.eq_of_mem_replicate (List.mem_of_getElem? h2)
      rw [eu]
      exact kx2 _ _ z2 (k11 _ _ z1)
    · obtain ⟨gt, hgt, z1, z2, z3⟩ := eachh j q h1
      rw [List.getElem?_map, hgt] at h2
      cases Option.some.inj h2
      exact kx2 _ _ (ne_of_none hx10 z2).symm z1
    · show (x :: Lv :: Tn :: Hd :: (tns ++ hds)).Nodup
      refine List.nodup_cons.mpr ⟨?_, List.nodup_cons.mpr ⟨?_, List.nodup_cons.mpr ⟨?_, List.nodup_cons.mpr ⟨?_, List.nodup_append.mpr ⟨ndt, ndh, fun y hy z hz => ?_⟩⟩⟩⟩⟩
      · simp only [List.mem_cons, List.mem_append, not_or]
        exact ⟨xLv, xTn, xHd, fun z => (allt10 x z).2.1 rfl, fun z => ne_of_none hx10 (nexth x z).1 rfl⟩
      · simp only [List.mem_cons, List.mem_append, not_or]
        exact ⟨LTn, LHd, fun z => (allt10 Lv z).2.2 rfl, fun z => ne_of_none hLv10 (nexth Lv z).1 rfl⟩
      · simp only [List.mem_cons, List.mem_append, not_or]
        exact ⟨THd, fun z => (allt Tn z).2.2 rfl, fun z => ne_of_none hTn10 (nexth Tn z).1 rfl⟩
      · simp only [List.mem_append, not_or]
        exact ⟨fun z => ne_of_none (allt10 Hd z).1 nHd rfl, fun z => (nexth Hd z).2 rfl⟩
      · exact ne_of_none (allt10 y hy).1 (nexth z hz).1
    · rw [List.getElem?_map, h1] at h2
      cases Option.some.inj h2
      exact List.length_replicate ..
    · rw [List.getElem?_map, h1] at h3
      cases Option.some.inj h3
      have : k = 0 := List.eq_of_mem_replicate (List.mem_of_getElem? h6)
      omega
    · have hr' : r < m + gs.length := by have := (List.getElem?_eq_some_iff.mp hu).1; rw [List.length_replicate] at this; exact this
      have eu : u = [] := List.eq_of_mem_replicate (List.mem_of_getElem? hu)
      rw [eu]
      exact upto0 (fun t => V01 R.la R.lb R.ha R.hb R.okn R.sh hr' t) (fun s t => V_lo R.la R.lb R.okn R.sh R.nn gs.length (Nat.le_refl _) r hr' s t)
    · have hq : q ∈ x :: Lv :: Tn :: Hd :: (tns ++ hds) := hq
      simp only [List.mem_cons, List.mem_append] at hq
      rcases hq with rfl | rfl | rfl | rfl | hq | hq
      · exact nx0
      · exact none_of_same s6 nLv
      · exact none_of_same s8 nTn
      · exact none_of_same s10 nHd
      · exact none_of_same s8 (allt q hq).2.1
      · exact h0of q (nexth q hq).1

end
end Gk

set_option Elab.async false
set_option linter.all false
set_option maxRecDepth 100000
set_option maxHeartbeats 1000000
set_option pp.maxSteps 1500
set_option pp.deepTerms false
namespace Gk
open PySem PySem.Spec PyProof.Rows L2
section
variable {P : Program} {w : World} {K : PySem.W.Frag} {mg : Str → Option Value} {base : Heap}
/-! ### the law's run, time by time -/
def rowsV (gs : List Gt) (D : List (List Int)) (a b : List Int) (k n : Nat) : List (List Int) := (List.range n).map fun i : Nat => rowV gs D a b k ((i : Int) - 1)
theorem rowsV_len {gs : List Gt} {D : List (List Int)} {a b : List Int} {k n : Nat} : (rowsV gs D a b k n).length = n := by unfold rowsV; rw [List.length_map, List.length_range]
theorem rowsV_snoc {gs : List Gt} {D : List (List Int)} {a b : List Int} {k n : Nat} : rowsV gs D a b k (n + 1) = rowsV gs D a b k n ++ [rowV gs D a b k ((n : Int) - 1)] := by
  unfold rowsV
  rw [List.range_succ, List.map_append]
  rfl
theorem rowsV_at {gs : List Gt} {D : List (List Int)} {a b : List Int} {k n i : Nat} (h : i < n) : (rowsV gs D a b k n)[i]? = some (rowV gs D a b k ((i : Int) - 1)) := by
  unfold rowsV
  rw [List.getElem?_map, List.getElem?_range h]
  rfl
/-- what the law looks up for one in is the in's worth so much earlier -/
theorem look_back {m : Nat} {gs : List Gt} {D : List (List Int)} {a b : List Int} (R : RunOk m gs D a b) {r : Nat} (hr : r < m + gs.length) {t x : Int} (ht : -1 ≤ t) (hx : 0 ≤ x) : (if (if t - x > -1 then t - x else -1) < t then valAt gs D a b r (if t - x > -1 then t - x else -1) else valAt gs D a b r t) = valAt gs D a b r (t - x) := by
  have lo := fun s u => V_lo R.la R.lb R.okn R.sh R.nn gs.length (Nat.le_refl _) r hr s u
  by_cases z : t - x > -1
  · rw [if_pos z]
    by_cases y : t - x < t
    · rw [if_pos y]
    · rw [if_neg y, show t - x = t by omega]
  · rw [if_neg z]
    by_cases y : -1 < t
    · rw [if_pos y]
      exact lo _ _ (by omega) (by omega)
    · rw [if_neg y]
      exact lo _ _ (by omega) (by omega)
def sp_slow (K : PySem.W.Frag) : Sp := fun vs H Q _ => ∃ (nv dv cv : V) (m : Nat) (gs : List Gt) (D : List (List Int)) (a b : List Int) (e : Nat), vs = [nv, dv, cv, .int (e : Nat)] ∧ Tk H nv (netD m gs) ∧ Tk H dv (delsD D) ∧ Tk H cv (chD a b) ∧ RunOk m gs D a b ∧ m ≤ 100 ∧ gs.length ≤ 100 ∧ e ≤ 100000 ∧
  ∀ r H' vs, H r = none → Same H H' → H' r = some (.lst vs) → TkAll H' vs ((rowsV gs D a b (m + gs.length) (e + 2)).map rowD) → Q (.ref r) H'
theorem ok_slow (T : Tx K mg) : FnOk P w K mg base CX0 1 T.f_slow T.fd_slow ["_law_net_here", "_law_delays_here", "_law_change", "_law_end"] (sp_slow K) := by
  refine T.F_slow.ok sc_slow (fun vs H Q E h => ?_) (fun cdv A outer s H vs Q E hr h => ?_)
  · obtain ⟨nv, dv, cv, m, gs, D, a, b, e, rfl, _⟩ := h
    rfl
  · obtain ⟨nv, dv, cv, m, gs, D, a, b, e, rfl, tn, td, tc, R, m1, g1, e1, q⟩ := h
    obtain ⟨okn, sh, nn, la, lb, ha, hb⟩ := id R
    refine ⟨_, (pss_cons (ps_set (i := 4) sc_slow.nd rfl (by first | exact .inl rfl | exact .inr rfl) (pe_lst pa_nil)) (pss_cons (ps_for PassesOwn.never rfl (pi_range2 (by rfl) T.m_range (pa_cons (pe_un un_neg pe_int) (pa_cons (pe_op op_add (pv 3) pe_int) pa_nil))) (pg_name (i := 5) sc_slow.nd rfl (by first | exact .inl rfl | exact .inr rfl)) (pss_cons (ps_set (i := 6) sc_slow.nd rfl (by first | exact .inl rfl | exact .inr rfl) (pe_callTy call_list_of (by rfl) T.m_list (by decide +kernel) (pa_cons (pe_ix ix_tup (pv 2) (pe_callTy call_int1 (by rfl) T.m_int (by decide +kernel) (pa_cons (pe_cmpR op_ge (pv 5) pe_int (nomark _)) pa_nil)) (fun _ _ => rfl)) pa_nil))) (pss_cons (ps_for PassesOwn.never rfl (pi_range1 (by rfl) T.m_range (pa_cons (pe_callB call_len_seq (by rfl) T.m_len PySem.boot_len (pa_cons (pe_ix ix_tup (pv 0) pe_int (fun _ _ => rfl)) pa_nil)) pa_nil)) (pg_name (i := 7) sc_slow.nd rfl (by first | exact .inl rfl | exact .inr rfl)) (pss_cons (ps_asg (pe_ix ix_tup (pe_ix ix_tup (pv 0) pe_int (fun _ _ => rfl)) (pv 7) (fun _ _ => rfl)) (pg_tup rfl (pgs_cons (pg_name (i := 8) sc_slow.nd rfl (by first | exact .inl rfl | exact .inr rfl)) (pgs_cons (pg_name (i := 9) sc_slow.nd rfl (by first | exact .inl rfl | exact .inr rfl)) pgs_nil)))) (pss_cons (ps_set (i := 10) sc_slow.nd rfl (by first | exact .inl rfl | exact .inr rfl) pe_int) (pss_cons (ps_for PassesOwn.never rfl (ZpG.pi_zip2 (by rfl) T.m_zip (pa_cons (pv 9) (pa_cons (pe_ix ix_tup (pv 1) (pv 7) (fun _ _ => rfl)) pa_nil))) (pg_tup rfl (pgs_cons (pg_name (i := 11) sc_slow.nd rfl (by first | exact .inl rfl | exact .inr rfl)) (pgs_cons (pg_name (i := 12) sc_slow.nd rfl (by first | exact .inl rfl | exact .inr rfl)) pgs_nil))) (pss_cons (ps_set (i := 13) sc_slow.nd rfl (by first | exact .inl rfl | exact .inr rfl) (pe_callB (call_max2 rfl) (by rfl) T.m_max (by decide +kernel) (pa_cons (pe_un un_neg pe_int) (pa_cons (pe_op op_sub (pv 5) (pv 12)) pa_nil)))) (pss_cons (ps_set (i := 14) sc_slow.nd rfl (by first | exact .inl rfl | exact .inr rfl) (pe_ix ix_list (pv 6) (pv 11) (fun _ _ => rfl))) (C8.pss_cut (ps_if (pt_cmpR op_lt (pv 13) (pv 5) (nomark _)) (pss_one (ps_set (i := 14) sc_slow.nd rfl (by first | exact .inl rfl | exact .inr rfl) (pe_ix ix_tup (pe_ix ix_list (pv 4) (pe_op op_add (pv 13) pe_int) (fun _ _ => rfl)) (pv 11) (fun _ _ => rfl)))) pss_nil) (pss_one (ps_set (i := 10) sc_slow.nd rfl (by first | exact .inl rfl | exact .inr rfl) (pe_op op_add (pe_op op_mul pe_int (pv 10)) (pv 14)))))))) (pss_one (ps_expr (pe_bm PySem.F.plainAttrs_list PySem.F.slot_list_append PySem.F.type_list_append mt_append (pv 6) (pa_cons (pe_callTy call_int_str (by rfl) T.m_int (by decide +kernel) (pa_cons (pe_item_str (pv 8) (pv 10) (fun _ _ => rfl)) pa_nil)) pa_nil)))))))) (pss_one (ps_expr (pe_bm PySem.F.plainAttrs_list PySem.F.slot_list_append PySem.F.type_list_append mt_append (pv 4) (pa_cons (pe_callTy call_tuple_of (by rfl) T.m_tuple (by decide +kernel) (pa_cons (pv 6) pa_nil)) pa_nil))))))) (pss_one (ps_ret (pv 4))))), ?_⟩
    obtain ⟨c, ra, rb, rfl, hc, hra, hrb⟩ := tc.ch_inv
    obtain ⟨n, g, xs, rfl, hn, hg, tg⟩ := tn.net_inv
    obtain ⟨da, ds, rfl, hd, tds⟩ := td.tup_inv
    have lx : xs.length = gs.length := by rw [tg.length, List.length_map]
    have lD : ds.length = D.length := by rw [tds.length, List.length_map]
    refine ⟨Nat.zero_le _, fun W nW => ?_⟩
    have s1 := same_upd (o := (HO.lst [])) nW
    have hW : upd H W (HO.lst []) W = some (HO.lst []) := upd_same
    generalize upd H W (HO.lst []) = H1 at s1 hW ⊢
    have gr1 : Same H (hd1 W H1) := hd1_of s1 nW
    refine ⟨_, rfl, .int (e : Nat), rfl, _, _, rfl, rfl, -1, (e : Int) + 1, rfl, ⟨by decide, by decide, by omega, by omega⟩, ?_⟩
    refine for_range (lo := -1) (n := ((e : Int) + 1 - -1).toNat) (fun i σ H' => ∃ y5 y6 y7 y8 y9 y10 y11 y12 y13 y14, σ = [some (.ref n), some (.ref da), some (.ref c), some (.int (e : Nat)), some (.ref W), y5, y6, y7, y8, y9, y10, y11, y12, y13, y14] ∧ Same H (hd1 W H') ∧ ∃ vs, H' W = some (.lst vs) ∧ TkAll H' vs ((rowsV gs D a b (m + gs.length) i).map rowD))
      ⟨_, _, _, _, _, _, _, _, _, _, rfl, gr1, [], hW, .nil⟩ ?_ ?_
    · rintro i σ H2 hi ⟨y5, y6, y7, y8, y9, y10, y11, y12, y13, y14, rfl, s2, vs, hW2, tv2⟩
      have hi' : i < e + 2 := by
        have : i < ((e : Int) + 1 - -1).toNat := hi
        omega
      have k2 : ∀ {b o}, H b = some o → H2 b = some o := fun e => hd1_le _ _ (s2 _ _ e)
      have lvs : vs.length = i := by rw [tv2.length, List.length_map, rowsV_len]
      generalize ht : (-1 : Int) + (i : Int) = t
      have ti : t = (i : Int) - 1 := by omega
      have t1 : -1 ≤ t := by omega
      obtain ⟨rx, hat, hrx⟩ : ∃ rx, atI [V.ref ra, V.ref rb] (if decide (t ≥ 0) = true then 1 else 0) = some (.ref rx) ∧ H rx = some (.tup ((rowV gs D a b m t).map V.int)) := by
        rw [rowV_in la lb okn sh]
        by_cases z : 0 ≤ t
        · rw [if_pos z, if_pos (decide_eq_true z)]
          exact ⟨rb, rfl, hrb⟩
        · rw [if_neg z, if_neg (fun y => z (of_decide_eq_true y))]
          exact ⟨ra, rfl, hra⟩
      refine ⟨.ref c, rfl, .int t, rfl, _, _, rfl, rfl, .inr ⟨_, rfl, c, _, _, .ref rx, rfl, rfl, SqT.of (k2 hc), hat, rx, _, rfl, .inr (SqT.of (k2 hrx)), fun L nL => ?_⟩⟩
      have sL := same_upd (o := HO.lst ((rowV gs D a b m t).map V.int)) nL
      have hL : upd H2 L (HO.lst ((rowV gs D a b m t).map V.int)) L = some (.lst ((rowV gs D a b m t).map V.int)) := upd_same
      have s0 : Same H2 (hd1 L (upd H2 L (HO.lst ((rowV gs D a b m t).map V.int)))) := hd1_of sL nL
      have hg3 := sL _ _ (k2 hg)
      have hn3 := sL _ _ (k2 hn)
      generalize upd H2 L (HO.lst ((rowV gs D a b m t).map V.int)) = H3 at sL hL s0 hg3 hn3 ⊢
      refine ⟨.ref n, rfl, n, _, 1, .ref g, rfl, rfl, SqT.of hn3, rfl, g, _, rfl, .inr (SqT.of hg3), ?_⟩
      rw [lx]
      refine ⟨((gs.length : Nat) : Int), rfl, by omega, by omega, ?_⟩
      refine for_range (lo := 0) (n := ((gs.length : Nat) : Int).toNat) (fun k σ H' => ∃ y7 y8 y9 y10 y11 y12 y13 y14, σ = [some (.ref n), some (.ref da), some (.ref c), some (.int (e : Nat)), some (.ref W), some (.int t), some (.ref L), y7, y8, y9, y10, y11, y12, y13, y14] ∧ Same H2 (hd1 L H') ∧ H' L = some (.lst ((rowV gs D a b (m + k) t).map V.int)))
        ⟨_, _, _, _, _, _, _, _, rfl, s0, hL⟩ ?_ ?_
      · rintro k σ H4 hk ⟨y7, y8, y9, y10, y11, y12, y13, y14, rfl, s4, hL4⟩
        have hk' : k < gs.length := by
          have : k < ((gs.length : Nat) : Int).toNat := hk
          omega
        have k4 : ∀ {b o}, H2 b = some o → H4 b = some o := fun e => hd1_le _ _ (s4 _ _ e)
        obtain ⟨gv, hgv, tgt⟩ := tg.at' (List.getElem?_eq_getElem hk')
        obtain ⟨dv, hdv, tdd⟩ := tds.at' (List.getElem?_eq_getElem (show k < D.length by rw [sh.1]; exact hk'))
        have hgt := List.getElem?_eq_getElem hk'
        have hdd := List.getElem?_eq_getElem (show k < D.length by rw [sh.1]; exact hk')
        generalize gs[k] = gt at tgt hgt
        generalize D[k]'(by rw [sh.1]; exact hk') = d at tdd hdd
        obtain ⟨ga, ii, rfl, hga, hii⟩ := tgt.gt_inv
        obtain ⟨dl, rfl, hdl⟩ := tdd.row_inv
        have okg := okn k gt hgt
        have ld := sh.2 k gt d hgt hdd
        have nnd := nn d (List.mem_of_getElem? hdd)
        have e0 : (0 : Int) + (k : Int) = (k : Int) := Int.zero_add _
        refine ⟨.ref n, rfl, n, _, 1, .ref g, rfl, rfl, SqT.of (k4 (k2 hn)), rfl, .int (0 + (k : Int)), rfl, g, xs, _, .ref ga, rfl, rfl, SqT.of (k4 (k2 hg)), (by rw [e0]; exact atI_nat hgv), ga, _, rfl, SqT.of (k4 (k2 hga)), rfl, _, _, rfl, _, _, rfl, rfl, ?_⟩
        refine ⟨.ref ii, rfl, .ref da, rfl, .int (0 + (k : Int)), rfl, da, ds, _, .ref dl, rfl, rfl, SqT.of (k4 (k2 hd)), (by rw [e0]; exact atI_nat hdv), .tu ii, .tu dl, _, _, rfl, SqT.of (k4 (k2 hii)), SqT.of (k4 (k2 hdl)), ?_⟩
        have lls : ((gt.2.zip d).map fun x => valAt gs D a b x.1 (t - x.2)).length = gt.2.length := by rw [List.length_map, List.length_zip, ld, Nat.min_self]
        refine ZpG.for_zip2 (K := K) (z1 := .tu ii) (z2 := .tu dl) (xs1 := nV gt.2) (xs2 := d.map V.int) (n := gt.2.length) (nV_len _) (by rw [List.length_map, ld])
          (fun j σ H' => ∃ y11 y12 y13 y14, σ = [some (.ref n), some (.ref da), some (.ref c), some (.int (e : Nat)), some (.ref W), some (.int t), some (.ref L), some (.int (0 + (k : Int))), some (.str (tabOf gt.1)), some (.ref ii), some (.int (plc (((gt.2.zip d).map fun x => valAt gs D a b x.1 (t - x.2)).take j))), y11, y12, y13, y14] ∧ Same H2 (hd1 L H') ∧ H' L = some (.lst ((rowV gs D a b (m + k) t).map V.int)))
          ⟨_, _, _, _, rfl, s4, hL4⟩ (fun j σ H' _ ⟨_, _, _, _, _, z, _⟩ => ⟨SqT.of (hd1_le _ _ (z _ _ (k2 hii))), SqT.of (hd1_le _ _ (z _ _ (k2 hdl)))⟩) ?_ ?_
        · rintro j v1 v2 T' σ H5 h1 h2 nT ⟨y11, y12, y13, y14, rfl, s5, hL5⟩
          obtain ⟨r, hr', rfl⟩ := nV_at h1
          obtain ⟨x, hx, rfl⟩ := vint_at h2
          have rl := okg.2.2.2 r (List.mem_of_getElem? hr')
          have x0 := nnd x (List.mem_of_getElem? hx)
          have LT : L ≠ T' := ne_of_none hL5 nT
          have s6 := same_upd (o := HO.tup [V.int (r : Nat), V.int x]) nT
          have h6 : upd H5 T' (HO.tup [V.int (r : Nat), V.int x]) T' = some (.tup [V.int (r : Nat), V.int x]) := upd_same
          generalize upd H5 T' (HO.tup [V.int (r : Nat), V.int x]) = H6 at s6 h6 ⊢
          have hL6 := s6 _ _ hL5
          have s26 : Same H2 (hd1 L H6) := s5.trans (hd1_same s6)
          have k6 : ∀ {b o}, H2 b = some o → H6 b = some o := fun e => hd1_le _ _ (s26 _ _ e)
          refine ⟨T', _, rfl, SqT.of h6, rfl, _, _, rfl, _, _, rfl, rfl, ?_⟩
          refine ⟨1, rfl, .int t, rfl, .int x, rfl, _, _, rfl, rfl, _, _, rfl, ?_⟩
          have lk := look_back R (show r < m + gs.length by omega) t1 x0
          generalize hat' : (if t - x > -1 then t - x else -1) = at' at lk ⊢
          have at1 : -1 ≤ at' := by rw [← hat']; split <;> omega
          refine ⟨.ref L, rfl, .int (r : Nat), rfl, L, _, ((r : Nat) : Int), .int (valAt gs D a b r t), rfl, rfl, SqL.of hL6, atI_nat (by rw [List.getElem?_map, rowV_at (show r < m + k by omega)]; rfl), ?_⟩
          refine ⟨fun σ H' => H' = H6 ∧ σ = [some (.ref n), some (.ref da), some (.ref c), some (.int (e : Nat)), some (.ref W), some (.int t), some (.ref L), some (.int (0 + (k : Int))), some (.str (tabOf gt.1)), some (.ref ii), some (.int (plc (((gt.2.zip d).map fun x => valAt gs D a b x.1 (t - x.2)).take j))), some (.int (r : Nat)), some (.int x), some (.int at'), some (.int (valAt gs D a b r (t - x)))], ?_, ?_⟩
          · refine ⟨.int at', rfl, .int t, rfl, _, _, rfl, rfl, _, rfl, ite2 (fun z => ?_) (fun z => ?_)⟩
            · have z : at' < t := of_decide_eq_true z
              rw [if_pos z] at lk
              obtain ⟨p, hp⟩ : ∃ p : Nat, at' + 1 = (p : Int) := ⟨(at' + 1).toNat, by omega⟩
              have pi : p < i := by omega
              obtain ⟨rv, hrv, trv⟩ := tv2.at' (rowsV_at (gs := gs) (D := D) (a := a) (b := b) (k := m + gs.length) pi)
              obtain ⟨ra', rfl, hra'⟩ := trv.row_inv
              rw [show (p : Int) - 1 = at' by omega] at hra'
              refine ⟨.ref W, rfl, .int at', rfl, _, _, rfl, rfl, W, vs, at' + 1, .ref ra', rfl, rfl, SqL.of (k6 hW2), (by rw [hp]; exact atI_nat hrv), .int (r : Nat), rfl, ra', _, ((r : Nat) : Int), .int (valAt gs D a b r at'), rfl, rfl, SqT.of (k6 hra'), atI_nat (by rw [List.getElem?_map, rowV_at (show r < m + gs.length by omega)]; rfl), rfl, ?_⟩
              rw [← lk]
              rfl
            · have z : ¬ at' < t := fun y => z (decide_eq_true y)
              rw [if_neg z] at lk
              refine ⟨rfl, ?_⟩
              rw [← lk]
              rfl
          · rintro σ H7 ⟨rfl, rfl⟩
            have eu : ((gt.2.zip d).map fun x => valAt gs D a b x.1 (t - x.2))[j]? = some (valAt gs D a b r (t - x)) := by
              have hz : (gt.2.zip d)[j]? = some (r, x) := by rw [List.getElem?_zip_eq_some]; exact ⟨hr', hx⟩
              rw [List.getElem?_map, hz]
              rfl
            refine ⟨.int _, rfl, 2, _, rfl, rfl, .inl ⟨by decide, by decide⟩, .int (valAt gs D a b r (t - x)), rfl, _, _, rfl, rfl, some (.int (r : Nat)), some (.int x), some (.int at'), some (.int (valAt gs D a b r (t - x))), ?_, s26, hL6⟩
            rw [plc_take eu]
            rfl
        · rintro σ H5 ⟨y11, y12, y13, y14, rfl, s5, hL5⟩
          rw [List.take_of_length_le (by rw [lls]; exact Nat.le_refl _)]
          have k5 : ∀ {b o}, H2 b = some o → H5 b = some o := fun e => hd1_le _ _ (s5 _ _ e)
          obtain ⟨bb, p0, p1, p2, p3, p4⟩ := gate_read (bs := gt.1) (ws := (gt.2.zip d).map fun x => valAt gs D a b x.1 (t - x.2)) (fun u hu => by
            obtain ⟨x, hx, rfl⟩ := List.mem_map.mp hu
            have := okg.2.2.2 x.1 (List.of_mem_zip (a := x.1) (b := x.2) hx).1
            exact V01 la lb ha hb okn sh (by omega) _) (by rw [lls]; exact okg.1) (by rw [lls]; exact okg.2.2.1)
          have eV := (val_ok la lb okn sh).g k gt d t hgt hdd
          rw [p4] at eV
          refine ⟨.ref L, rfl, .inl ⟨rfl, _, SqL.of hL5⟩, .str (tabOf gt.1), rfl, .int _, rfl, _, _, _, rfl, rfl, p0, p1, p2, p3, _, _, rfl, int_sign bb, (show 1 ≤ 640 by decide), L, _, _, rfl, rfl, hL5, ?_, ?_⟩
          · rw [List.length_map, rowV_len]
            exact Nat.lt_of_lt_of_le (show m + k < 1000 by omega) (by decide)
          refine ⟨_, _, _, _, _, _, _, _, rfl, s5.trans hd1_upd, ?_⟩
          rw [upd_same, ← Nat.add_assoc, rowV_snoc, List.map_append, eV]
          rfl
      · rintro σ H4 ⟨y7, y8, y9, y10, y11, y12, y13, y14, rfl, s4, hL4⟩
        have eg : ((gs.length : Nat) : Int).toNat = gs.length := by omega
        rw [eg] at hL4
        have k4 : ∀ {b o}, H2 b = some o → H4 b = some o := fun e => hd1_le _ _ (s4 _ _ e)
        have s24 : Same H2 H4 := fun b o e => k4 e
        refine ⟨.ref W, rfl, .inl ⟨rfl, _, SqL.of (k4 hW2)⟩, .ref L, rfl, L, _, rfl, .inl ⟨SqL.of hL4, fun tp ntp => ?_⟩⟩
        have s5 := same_upd (o := HO.tup ((rowV gs D a b (m + gs.length) t).map V.int)) ntp
        have h5 : upd H4 tp (HO.tup ((rowV gs D a b (m + gs.length) t).map V.int)) tp = some (.tup ((rowV gs D a b (m + gs.length) t).map V.int)) := upd_same
        generalize upd H4 tp (HO.tup ((rowV gs D a b (m + gs.length) t).map V.int)) = H5 at s5 h5 ⊢
        have hW5 := s5 _ _ (k4 hW2)
        have ts := Ts.set (ys := vs ++ [V.ref tp]) hW5
        refine ⟨W, _, _, rfl, rfl, hW5, ?_, ?_⟩
        · exact Nat.lt_of_lt_of_le (show vs.length < 200000 by omega) (by decide)
        refine ⟨_, _, _, _, _, _, _, _, _, _, rfl, (s2.trans (hd1_same (s24.trans s5))).trans hd1_upd, _, upd_same, ?_⟩
        rw [rowsV_snoc, List.map_append, ← ti]
        exact ((tv2.same (s24.trans s5)).ts ts (noLs_map noL_row _)).append (.cons (.tup (ts _ _ h5) (TkAll.ints _)) .nil)
    · rintro σ H2 ⟨y5, y6, y7, y8, y9, y10, y11, y12, y13, y14, rfl, s2, vs, hW2, tv2⟩
      have ee : ((e : Int) + 1 - -1).toNat = e + 2 := by omega
      rw [ee] at tv2
      exact ⟨_, rfl, q W H2 vs nW (fun b o e => hd1_le _ _ (s2 b o e)) hW2 tv2⟩

end
end Gk

set_option Elab.async false
set_option linter.all false
set_option maxRecDepth 100000
set_option maxHeartbeats 1000000
set_option pp.maxSteps 1500
set_option pp.deepTerms false
namespace Gk
open PySem PySem.Spec PyProof.Rows L2
/-! ### machines kept apart -/
theorem MState.keep {C p : Addr} {H H' : Hp} {o : Mo} {m : Nat} {gs : List Gt} {D : List (List Int)} {a b : List Int} {t : Int} {O : List Addr} (h : MState C H p o m gs D a b t) (k : KeepO O H H') (ts : Ts H H') (off : ∀ q ∈ o.own p, q ∉ O) : MState C H' p o m gs D a b t := by
  obtain ⟨U, E, M, r⟩ := h
  obtain ⟨xs, g1, g2⟩ := M.tg
  obtain ⟨ds, d1, d2⟩ := M.td
  exact ⟨U, E, ⟨k _ _ (off _ MAt.inP) M.hp, ⟨xs, ts _ _ g1, g2.ts ts (noL_gates gs)⟩, ⟨ds, ts _ _ d1, d2.ts ts (noLs_map noL_row D)⟩, ts _ _ M.tb, ts _ _ M.tF, k _ _ (off _ MAt.inL) M.lv, k _ _ (off _ (by unfold Mo.own; simp)) M.tn, k _ _ (off _ (by unfold Mo.own; simp)) M.hd, M.lu, fun r q u e1 e2 => k _ _ (off _ (MAt.inT e1)) (M.us r q u e1 e2), M.le, fun r q u e1 e2 => k _ _ (off _ (MAt.inH e1)) (M.es r q u e1 e2), M.nd⟩, r⟩
theorem MState.own_at {C p : Addr} {H : Hp} {o : Mo} {m : Nat} {gs : List Gt} {D : List (List Int)} {a b : List Int} {t : Int} (h : MState C H p o m gs D a b t) : ∀ q ∈ o.own p, ∃ x, H q = some x ∧ ∀ xs, x ≠ .tup xs := by
  obtain ⟨U, E, M, r⟩ := h
  exact M.own_at
theorem ts_keep {O : List Addr} {H H' : Hp} (k : KeepO O H H') (n : ∀ q ∈ O, ∃ x, H q = some x ∧ ∀ xs, x ≠ .tup xs) : Ts H H' := fun b xs e => k b _ (fun z => by
  obtain ⟨x, h1, h2⟩ := n b z
  exact h2 xs (Option.some.inj (h1.symm.trans e))) e
theorem KeepO.fr {d l : Addr} {H H' : Hp} {O : List Addr} (f : Fr d l H H') (hd : d ∈ O) (hl : l ∈ O) : KeepO O H H' := fun b x n e => f b x (fun z => n (z ▸ hd)) (fun z => n (z ▸ hl)) e
theorem KeepO.mono {O O' : List Addr} {H H' : Hp} (k : KeepO O H H') (h : ∀ q ∈ O, q ∈ O') : KeepO O' H H' := fun b x n e => k b x (fun z => n (h b z)) e
theorem same_keep {O : List Addr} {H H1 H2 : Hp} (s : Same H H1) (k : KeepO O H1 H2) (n : ∀ q ∈ O, H q = none) : Same H H2 := fun b u e => k b u (fun z => by rw [n b z] at e; cases e) (s b u e)
structure Mr where
  p : Addr
  r : Addr
  o : Mo
  t : Nat
def Mr.own (x : Mr) : List Addr := x.o.own x.p
structure RunAt (C : Addr) (H : Hp) (e : Nat) (x : Mr) (m : Nat) (gs : List Gt) (D : List (List Int)) (a b : List Int) (vs : List V) : Prop where
  st : MState C H x.p x.o m gs D a b ((x.t : Int) - 1)
  R : RunOk m gs D a b
  m4 : m ≤ 4
  g6 : gs.length ≤ 6
  hr : H x.r = some (.lst vs)
  tv : TkAll H vs ((rowsV gs D a b (m + gs.length) (e + 2)).map rowD)
theorem RunAt.keep {C : Addr} {H H' : Hp} {e : Nat} {x : Mr} {m : Nat} {gs : List Gt} {D : List (List Int)} {a b : List Int} {vs : List V} {O : List Addr} (h : RunAt C H e x m gs D a b vs) (k : KeepO O H H') (ts : Ts H H') (off : ∀ q ∈ x.own, q ∉ O) (ro : x.r ∉ O) : RunAt C H' e x m gs D a b vs :=
  ⟨h.st.keep k ts off, h.R, h.m4, h.g6, k _ _ ro h.hr, h.tv.ts ts (noLs_map noL_row _)⟩
structure Many (C : Addr) (H : Hp) (F : List Addr) (e : Nat) (L : List Mr) : Prop where
  run : ∀ x ∈ L, ∃ m gs D a b vs, RunAt C H e x m gs D a b vs
  sep : ∀ (i j : Nat) (x y : Mr), L[i]? = some x → L[j]? = some y → ∀ q ∈ x.own, q ∉ F ∧ q ≠ y.r ∧ (i ≠ j → q ∉ y.own)
  rF : ∀ x ∈ L, x.r ∉ F
theorem Many.own {C : Addr} {H : Hp} {F : List Addr} {e : Nat} {L : List Mr} (h : Many C H F e L) {x : Mr} (hx : x ∈ L) : ∀ q ∈ x.own, q ∉ F := fun q hq => by
  obtain ⟨i, hi⟩ := List.getElem?_of_mem hx
  exact (h.sep i i x x hi hi q hq).1
theorem Many.keep {C : Addr} {H H' : Hp} {F : List Addr} {e : Nat} {L : List Mr} (h : Many C H F e L) (k : KeepO F H H') (ts : Ts H H') : Many C H' F e L :=
  ⟨fun x hx => by
    obtain ⟨m, gs, D, a, b, vs, R⟩ := h.run x hx
    exact ⟨m, gs, D, a, b, vs, R.keep k ts (h.own hx) (h.rF x hx)⟩, h.sep, h.rF⟩
theorem Many.same {C : Addr} {H H' : Hp} {F : List Addr} {e : Nat} {L : List Mr} (h : Many C H F e L) (s : Same H H') : Many C H' F e L := h.keep (KeepO.of s) (Ts.same s)
theorem Many.add {C : Addr} {H H1 H2 : Hp} {F : List Addr} {e : Nat} {L : List Mr} (h : Many C H F e L) (s1 : Same H H1) (s2 : Same H1 H2) {x : Mr} {m : Nat} {gs : List Gt} {D : List (List Int)} {a b : List Int} {vs : List V} (R : RunAt C H2 e x m gs D a b vs) (n1 : ∀ q ∈ x.own, H q = none) (o1 : ∀ q ∈ x.own, ∃ y, H1 q = some y) (nr : H1 x.r = none) (hF : ∀ q ∈ F, ∃ y, H q = some y) : Many C H2 F e (L ++ [x]) := by
  have h2 := h.same (s1.trans s2)
  have old : ∀ y ∈ L, ∀ q ∈ y.own, ∃ u, H q = some u := fun y hy q hq => by
    obtain ⟨m, gs, D, a, b, vs, R⟩ := h.run y hy
    obtain ⟨u, hu, _⟩ := R.st.own_at q hq
    exact ⟨u, hu⟩
  have oldr : ∀ y ∈ L, ∃ u, H y.r = some u := fun y hy => by
    obtain ⟨m, gs, D, a, b, vs, R⟩ := h.run y hy
    exact ⟨_, R.hr⟩
  have nr0 := none_of_same s1 nr
  have split : ∀ (i : Nat) (y : Mr), (L ++ [x])[i]? = some y → (y ∈ L ∧ L[i]? = some y) ∨ (i = L.length ∧ y = x) := fun i y hi => by
    by_cases z : i < L.length
    · rw [List.getElem?_append_left z] at hi
      exact .inl ⟨List.mem_of_getElem? hi, hi⟩
    · have il := (List.getElem?_eq_some_iff.mp hi).1
      rw [List.length_append] at il
      have ei : i = L.length := by simp at il; omega
      subst ei
      rw [List.getElem?_append_right (Nat.le_refl _), Nat.sub_self] at hi
      exact .inr ⟨rfl, (Option.some.inj hi).symm⟩
  refine ⟨fun y hy => ?_, fun i j y z hi hj q hq => ?_, fun y hy => ?_⟩
  · rcases List.mem_append.mp hy with hy | hy
    · exact h2.run y hy
    · rw [List.mem_singleton.mp hy]
      exact ⟨m, gs, D, a, b, vs, R⟩
  · rcases split i y hi with ⟨yL, hi'⟩ | ⟨ei, rfl⟩ <;> rcases split j z hj with ⟨zL, hj'⟩ | ⟨ej, rfl⟩
    · exact h.sep i j y z hi' hj' q hq
    · obtain ⟨u, hu⟩ := old y yL q hq
      exact ⟨h.own yL q hq, ne_of_none hu nr0, fun _ k => by rw [n1 q k] at hu; cases hu⟩
    · have nq := n1 q hq
      obtain ⟨v, hv⟩ := oldr z zL
      refine ⟨fun k => ?_, (ne_of_none hv nq).symm, fun _ k => ?_⟩
      · obtain ⟨u, hu⟩ := hF q k
        rw [nq] at hu
        cases hu
      · obtain ⟨u, hu⟩ := old z zL q k
        rw [nq] at hu
        cases hu
    · have nq := n1 q hq
      obtain ⟨u, hu⟩ := o1 q hq
      refine ⟨fun k => ?_, ne_of_none hu nr, fun k => absurd (ei.trans ej.symm) k⟩
      obtain ⟨u, hu⟩ := hF q k
      rw [nq] at hu
      cases hu
  · rcases List.mem_append.mp hy with hy | hy
    · exact h.rF y hy
    · rw [List.mem_singleton.mp hy]
      intro k
      obtain ⟨u, hu⟩ := hF _ k
      rw [nr0] at hu
      cases hu
theorem Many.step {C : Addr} {H H' : Hp} {F : List Addr} {e k : Nat} {L : List Mr} {x : Mr} {m : Nat} {gs : List Gt} {D : List (List Int)} {a b : List Int} {vs : List V} (h : Many C H F e L) (hk : L[k]? = some x) (R : RunAt C H e x m gs D a b vs) (st : MState C H' x.p x.o m gs D a b (x.t : Int)) (ke : KeepO x.own H H') :
    RunAt C H' e { x with t := x.t + 1 } m gs D a b vs ∧ Many C H' F e (L.set k { x with t := x.t + 1 }) := by
  have ts := ts_keep ke R.st.own_at
  have kl := (List.getElem?_eq_some_iff.mp hk).1
  have R' : RunAt C H' e { x with t := x.t + 1 } m gs D a b vs := ⟨by
    have : (((x.t + 1 : Nat) : Int)) - 1 = (x.t : Int) := by omega
    show MState C H' x.p x.o m gs D a b (((x.t + 1 : Nat) : Int) - 1)
    rw [this]
    exact st, R.R, R.m4, R.g6, ke _ _ (fun z => (h.sep k k x x hk hk _ z).2.1 rfl) R.hr, R.tv.ts ts (noLs_map noL_row _)⟩
  have look : ∀ (i : Nat) (y : Mr), (L.set k { x with t := x.t + 1 })[i]? = some y → (i = k ∧ y = { x with t := x.t + 1 }) ∨ (i ≠ k ∧ L[i]? = some y) := fun i y hi => by
    by_cases z : i = k
    · subst z
      rw [List.getElem?_set_self kl] at hi
      exact .inl ⟨rfl, (Option.some.inj hi).symm⟩
    · rw [List.getElem?_set_ne (fun q => z q.symm)] at hi
      exact .inr ⟨z, hi⟩
  refine ⟨R', fun y hy => ?_, fun i j y z hi hj q hq => ?_, fun y hy => ?_⟩
  · obtain ⟨i, hi⟩ := List.getElem?_of_mem hy
    rcases look i y hi with ⟨_, rfl⟩ | ⟨ne, hi'⟩
    · exact ⟨m, gs, D, a, b, vs, R'⟩
    · have yL := List.mem_of_getElem? hi'
      obtain ⟨m2, gs2, D2, a2, b2, vs2, R2⟩ := h.run y yL
      exact ⟨m2, gs2, D2, a2, b2, vs2, R2.keep ke ts (fun q hq => (h.sep i k y x hi' hk q hq).2.2 ne) (fun z => (h.sep k i x y hk hi' _ z).2.1 rfl)⟩
  · rcases look i y hi with ⟨ei, rfl⟩ | ⟨ni, hi'⟩ <;> rcases look j z hj with ⟨ej, rfl⟩ | ⟨nj, hj'⟩
    · have := h.sep k k x x hk hk q hq
      exact ⟨this.1, this.2.1, fun n => absurd (ei.trans ej.symm) n⟩
    · have := h.sep k j x z hk hj' q hq
      exact ⟨this.1, this.2.1, fun _ => this.2.2 (fun y => nj y.symm)⟩
    · have := h.sep i k y x hi' hk q hq
      exact ⟨this.1, this.2.1, fun _ => this.2.2 ni⟩
    · exact h.sep i j y z hi' hj' q hq
  · obtain ⟨i, hi⟩ := List.getElem?_of_mem hy
    rcases look i y hi with ⟨_, rfl⟩ | ⟨ne, hi'⟩
    · exact h.rF x (List.mem_of_getElem? hk)
    · exact h.rF y (List.mem_of_getElem? hi')

end Gk

set_option Elab.async false
set_option linter.all false
set_option maxRecDepth 100000
set_option maxHeartbeats 1000000
set_option pp.maxSteps 1500
set_option pp.deepTerms false
namespace Gk
open PySem PySem.Spec PyProof.Rows L2
section
variable {P : Program} {w : World} {K : PySem.W.Frag} {mg : Str → Option Value} {base : Heap}
/-! ### sizes of what is shown -/
def fineB (n m : Nat) (d : PyData) : Bool := d.showable && (d.leavesShort 200 && (decide (d.weight ≤ n) && decide (d.depth ≤ m)))
theorem fine_iff {n m : Nat} {d : PyData} : fineB n m d = true ↔ d.showable = true ∧ d.leavesShort 200 = true ∧ d.weight ≤ n ∧ d.depth ≤ m := by
  unfold fineB
  rw [Bool.and_eq_true, Bool.and_eq_true, Bool.and_eq_true, decide_eq_true_eq, decide_eq_true_eq]
theorem fine_mono {n m n' m' : Nat} {d : PyData} (h : fineB n m d = true) (a : n ≤ n') (b : m ≤ m') : fineB n' m' d = true := by
  obtain ⟨h1, h2, h3, h4⟩ := fine_iff.mp h
  exact fine_iff.mpr ⟨h1, h2, Nat.le_trans h3 a, Nat.le_trans h4 b⟩
theorem fine_fits {n m : Nat} {d : PyData} (h : fineB n m d = true) (hn : n ≤ 50000) : d.shown.length ≤ sizeLine := by
  obtain ⟨_, h2, h3, _⟩ := fine_iff.mp h
  have := PyData.shown_le 200 (by decide) d h2
  have e : sizeLine = 16777216 := by decide
  rw [e]
  omega
theorem fine_all {n m : Nat} : ∀ {ds : List PyData}, (∀ d ∈ ds, fineB n m d = true) → PyData.showableAll ds = true ∧ PyData.leavesShortAll 200 ds = true ∧ PyData.weightAll ds ≤ ds.length * (n + 1) ∧ PyData.depthAll ds ≤ m
  | [], _ => ⟨rfl, rfl, Nat.zero_le _, Nat.zero_le _⟩
  | d :: r, h => by
    obtain ⟨a1, a2, a3, a4⟩ := fine_iff.mp (h d (List.mem_cons_self ..))
    obtain ⟨b1, b2, b3, b4⟩ := fine_all (ds := r) fun x hx => h x (List.mem_cons_of_mem _ hx)
    refine ⟨?_, ?_, ?_, ?_⟩
    · unfold PyData.showableAll
      rw [a1, b1]
      rfl
    · unfold PyData.leavesShortAll
      rw [a2, b2]
      rfl
    · unfold PyData.weightAll
      rw [List.length_cons, Nat.succ_mul]
      omega
    · unfold PyData.depthAll
      omega
theorem fine_tup {n m k : Nat} {ds : List PyData} (h : ∀ d ∈ ds, fineB n m d = true) (hk : ds.length ≤ k) : fineB (k * (n + 1)) (m + 1) (.tuple ds) = true := by
  obtain ⟨b1, b2, b3, b4⟩ := fine_all h
  refine fine_iff.mpr ⟨b1, b2, ?_, ?_⟩
  · show PyData.weightAll ds ≤ _
    exact Nat.le_trans b3 (Nat.mul_le_mul_right _ hk)
  · show PyData.depthAll ds + 1 ≤ _
    omega
theorem fine_lst {n m k : Nat} {ds : List PyData} (h : ∀ d ∈ ds, fineB n m d = true) (hk : ds.length ≤ k) : fineB (k * (n + 1)) (m + 1) (.list ds) = true := by
  obtain ⟨b1, b2, b3, b4⟩ := fine_all h
  refine fine_iff.mpr ⟨b1, b2, ?_, ?_⟩
  · show PyData.weightAll ds ≤ _
    exact Nat.le_trans b3 (Nat.mul_le_mul_right _ hk)
  · show PyData.depthAll ds + 1 ≤ _
    omega

mutual
theorem Sh.gr {H H' : Hp} (s : Gr H H') : ∀ {v : V} {d : PyData}, Sh H v d → Sh H' v d
  | _, _, .non => .non
  | _, _, .bl b => .bl b
  | _, _, .int i => .int i
  | _, _, .str x => .str x
  | _, _, .lst h n t => .lst (s.lst h) n (t.gr s)
  | _, _, .tup h t => .tup (s.tup h) (t.gr s)
  | _, _, .dic h t => .dic (s.1 _ _ (fun _ z => by cases z) h) (t.gr s)
theorem ShAll.gr {H H' : Hp} (s : Gr H H') : ∀ {vs : List V} {ds : List PyData}, ShAll H vs ds → ShAll H' vs ds
  | _, _, .nil => .nil
  | _, _, .cons h t => .cons (h.gr s) (t.gr s)
end
theorem ShAll.get {H : Hp} : ∀ {xs : List V} {ds : List PyData} {j : Nat} {x : V}, ShAll H xs ds → xs[j]? = some x → ∃ d, ds[j]? = some d ∧ Sh H x d
  | _, _, _, _, .nil, h => by simp at h
  | _, _, 0, _, .cons (d := d) a _, h => by
    cases (Option.some.inj h)
    exact ⟨d, rfl, a⟩
  | _, _, j + 1, _, .cons _ t, h => t.get h
theorem ShAll.append {H : Hp} : ∀ {xs ys : List V} {ds es : List PyData}, ShAll H xs ds → ShAll H ys es → ShAll H (xs ++ ys) (ds ++ es)
  | _, _, _, _, .nil, t => t
  | _, _, _, _, .cons a r, t => .cons a (r.append t)
theorem ShAll.take {H : Hp} : ∀ {xs : List V} {ds : List PyData} (n : Nat), ShAll H xs ds → ShAll H (xs.take n) (ds.take n)
  | _, _, 0, _ => by rw [List.take_zero, List.take_zero]; exact .nil
  | _, _, n + 1, .nil => .nil
  | _, _, n + 1, .cons a r => .cons a (r.take n)
theorem ShAll.drop {H : Hp} : ∀ {xs : List V} {ds : List PyData} (n : Nat), ShAll H xs ds → ShAll H (xs.drop n) (ds.drop n)
  | _, _, 0, h => h
  | _, _, n + 1, .nil => .nil
  | _, _, n + 1, .cons _ r => r.drop n
theorem notT {b : Bool} (h : (!b) = true) : ¬ b = true := by cases b <;> simp_all
theorem notF {b : Bool} (h : ¬ (!b) = true) : b = true := by cases b <;> simp_all

theorem str_len (x : String) : (Str.ofString x).length = x.length := PySem.ofString_length x

theorem int_weight {i : Int} {k : Nat} (h : i.natAbs < 2 ^ k) : (PyData.int i).weight ≤ k := by
  show (if i == 0 then 0 else i.natAbs.log2 + 1) ≤ k
  by_cases z : i = 0
  · rw [if_pos (by rw [z]; rfl)]
    exact Nat.zero_le _
  · rw [if_neg (by simpa using z)]
    exact (Nat.log2_lt (by omega)).mpr h

/-! ### what is spoilt stays small -/
mutual
def gd (B : Nat) : PyData → Bool
  | .none => true
  | .bool _ => true
  | .int i => decide (i.natAbs ≤ B)
  | .str x => x.cps.toList.all fun c => decide (c < 128)
  | .list xs => gds B xs
  | .tuple xs => gds B xs
  | .dict kvs => kvs.isEmpty
def gds (B : Nat) : List PyData → Bool
  | [] => true
  | x :: r => gd B x && gds B r
end
theorem gds_iff {B : Nat} : ∀ {l : List PyData}, gds B l = true ↔ ∀ x ∈ l, gd B x = true
  | [] => ⟨fun _ x hx => (by cases hx), fun _ => rfl⟩
  | y :: r => by
    show (gd B y && gds B r) = true ↔ _
    rw [Bool.and_eq_true, gds_iff (l := r)]
    exact ⟨fun ⟨a, b⟩ x hx => (List.mem_cons.mp hx).elim (fun e => e ▸ a) (b x), fun h => ⟨h y (List.mem_cons_self ..), fun x hx => h x (List.mem_cons_of_mem _ hx)⟩⟩
mutual
theorem gd_mono {B C : Nat} (h : B ≤ C) : ∀ {d : PyData}, gd B d = true → gd C d = true
  | .none, _ => rfl
  | .bool _, _ => rfl
  | .int _, e => decide_eq_true (Nat.le_trans (of_decide_eq_true e) h)
  | .str _, e => e
  | .list _, e => gds_mono h e
  | .tuple _, e => gds_mono h e
  | .dict _, e => e
theorem gds_mono {B C : Nat} (h : B ≤ C) : ∀ {l : List PyData}, gds B l = true → gds C l = true
  | [], _ => rfl
  | _ :: _, e => by
    have e' := Bool.and_eq_true_iff.mp e
    exact Bool.and_eq_true_iff.mpr ⟨gd_mono h e'.1, gds_mono h e'.2⟩
end
theorem small_log {i : Int} {B : Nat} (h : i.natAbs ≤ B) (hB : B < 2 ^ 190) : i.natAbs.log2 < 190 := by
  by_cases z : i.natAbs = 0
  · rw [z]; decide
  · exact (Nat.log2_lt z).mpr (Nat.lt_of_le_of_lt h hB)
mutual
theorem gd_show {B : Nat} (hB : B < 2 ^ 190) : ∀ {d : PyData}, gd B d = true → d.showable = true ∧ d.leavesShort 200 = true
  | .none, _ => ⟨rfl, rfl⟩
  | .bool _, _ => ⟨rfl, rfl⟩
  | .int i, e => by
    have l := small_log (of_decide_eq_true e) hB
    refine ⟨decide_eq_true (Nat.lt_trans l (by decide)), decide_eq_true ?_⟩
    have := PySem.int_text_length_le (a := i) (k := 190) (by decide) l
    show (Str.ofString (toString i)).length ≤ 200
    rw [str_len]
    omega
  | .str x, e => by
    refine ⟨rfl, ?_⟩
    show (x.cps.toList.all fun c => decide (c < 16 ^ 8)) = true
    refine List.all_eq_true.mpr fun c hc => decide_eq_true (Nat.lt_trans (of_decide_eq_true (List.all_eq_true.mp e c hc)) (by decide))
  | .list _, e => gds_show hB e
  | .tuple _, e => gds_show hB e
  | .dict [], _ => ⟨rfl, rfl⟩
  | .dict (_ :: _), e => by cases e
theorem gds_show {B : Nat} (hB : B < 2 ^ 190) : ∀ {l : List PyData}, gds B l = true → PyData.showableAll l = true ∧ PyData.leavesShortAll 200 l = true
  | [], _ => ⟨rfl, rfl⟩
  | _ :: _, e => by
    have e' := Bool.and_eq_true_iff.mp e
    have a := gd_show hB e'.1
    have b := gds_show hB e'.2
    exact ⟨Bool.and_eq_true_iff.mpr ⟨a.1, b.1⟩, Bool.and_eq_true_iff.mpr ⟨a.2, b.2⟩⟩
end
def Fit (B n m : Nat) (d : PyData) : Prop := gd B d = true ∧ d.weight ≤ n ∧ d.depth ≤ m
def FitL (B n m : Nat) (ds : List PyData) : Prop := gds B ds = true ∧ PyData.weightAll ds ≤ n ∧ PyData.depthAll ds ≤ m
theorem Fit.mono {B n m B' n' m' : Nat} {d : PyData} (h : Fit B n m d) (a : B ≤ B') (b : n ≤ n') (c : m ≤ m') : Fit B' n' m' d := ⟨gd_mono a h.1, Nat.le_trans h.2.1 b, Nat.le_trans h.2.2 c⟩
theorem Fit.tup {B n m : Nat} {ds : List PyData} (h : FitL B n m ds) : Fit B n (m + 1) (.tuple ds) := ⟨h.1, h.2.1, Nat.succ_le_succ h.2.2⟩
theorem Fit.lst {B n m : Nat} {ds : List PyData} (h : FitL B n m ds) : Fit B n (m + 1) (.list ds) := ⟨h.1, h.2.1, Nat.succ_le_succ h.2.2⟩
theorem Fit.inv {B n m : Nat} {ds : List PyData} (h : Fit B n (m + 1) (.tuple ds)) : FitL B n m ds := ⟨h.1, h.2.1, Nat.le_of_succ_le_succ h.2.2⟩
theorem Fit.fine {B n m : Nat} {d : PyData} (h : Fit B n m d) (hB : B < 2 ^ 190) (hn : n ≤ 50000) (hm : m ≤ 50) : d.showable = true ∧ d.shown.length ≤ sizeLine ∧ d.depth ≤ 50 := by
  have s := gd_show hB h.1
  exact ⟨s.1, fine_fits (n := n) (m := m) (fine_iff.mpr ⟨s.1, s.2, h.2.1, h.2.2⟩) hn, Nat.le_trans h.2.2 hm⟩
theorem weight_app : ∀ a b : List PyData, PyData.weightAll (a ++ b) = PyData.weightAll a + PyData.weightAll b
  | [], b => (Nat.zero_add _).symm
  | x :: r, b => by
    show x.weight + 1 + PyData.weightAll (r ++ b) = x.weight + 1 + PyData.weightAll r + PyData.weightAll b
    rw [weight_app r b]
    omega
theorem depth_app : ∀ a b : List PyData, PyData.depthAll (a ++ b) = max (PyData.depthAll a) (PyData.depthAll b)
  | [], b => (Nat.zero_max _).symm
  | x :: r, b => by
    show max x.depth (PyData.depthAll (r ++ b)) = max (max x.depth (PyData.depthAll r)) (PyData.depthAll b)
    rw [depth_app r b, Nat.max_assoc]
theorem FitL.app {B n n' m : Nat} {a b : List PyData} (h : FitL B n m a) (g : FitL B n' m b) : FitL B (n + n') m (a ++ b) := by
  refine ⟨gds_iff.mpr fun x hx => ?_, ?_, ?_⟩
  · rcases List.mem_append.mp hx with z | z
    · exact gds_iff.mp h.1 x z
    · exact gds_iff.mp g.1 x z
  · rw [weight_app]
    exact Nat.add_le_add h.2.1 g.2.1
  · rw [depth_app]
    exact Nat.max_le.mpr ⟨h.2.2, g.2.2⟩
theorem FitL.parts {B n m : Nat} {a b : List PyData} (h : FitL B n m (a ++ b)) : FitL B n m a ∧ FitL B n m b := by
  obtain ⟨h1, h2, h3⟩ := h
  rw [weight_app] at h2
  rw [depth_app] at h3
  exact ⟨⟨gds_iff.mpr fun x hx => gds_iff.mp h1 x (List.mem_append_left _ hx), by omega, by omega⟩, ⟨gds_iff.mpr fun x hx => gds_iff.mp h1 x (List.mem_append_right _ hx), by omega, by omega⟩⟩
theorem FitL.take {B n m : Nat} {a : List PyData} (h : FitL B n m a) (k : Nat) : FitL B n m (a.take k) := by
  rw [← List.take_append_drop k a] at h
  exact h.parts.1
theorem FitL.drop {B n m : Nat} {a : List PyData} (h : FitL B n m a) (k : Nat) : FitL B n m (a.drop k) := by
  rw [← List.take_append_drop k a] at h
  exact h.parts.2
theorem FitL.one {B n m : Nat} {d : PyData} (h : Fit B n m d) : FitL B (n + 1) m [d] := by
  refine ⟨gds_iff.mpr fun x hx => by rw [List.mem_singleton.mp hx]; exact h.1, ?_, ?_⟩
  · show d.weight + 1 + 0 ≤ n + 1
    have := h.2.1
    omega
  · show max d.depth 0 ≤ m
    have := h.2.2
    omega
theorem FitL.get {B n m : Nat} {ds : List PyData} (h : FitL B n m ds) {j : Nat} {d : PyData} (e : ds[j]? = some d) : Fit B n m d := by
  have s : ds = ds.take j ++ [d] ++ ds.drop (j + 1) := by
    obtain ⟨hl, e'⟩ := List.getElem?_eq_some_iff.mp e
    rw [← e', List.append_assoc, List.singleton_append, List.getElem_cons_drop, List.take_append_drop]
  rw [s] at h
  obtain ⟨h1, h2, h3⟩ := h.parts.1.parts.2
  refine ⟨gds_iff.mp h1 d (List.mem_singleton.mpr rfl), ?_, ?_⟩
  · have : d.weight + 1 + 0 ≤ n := h2
    omega
  · have : max d.depth 0 ≤ m := h3
    omega
theorem weight_rev (a : List PyData) : PyData.weightAll a.reverse = PyData.weightAll a := by
  induction a with
  | nil => rfl
  | cons x r ih =>
    rw [List.reverse_cons, weight_app, ih]
    show PyData.weightAll r + (x.weight + 1 + 0) = x.weight + 1 + PyData.weightAll r
    omega
theorem depth_rev (a : List PyData) : PyData.depthAll a.reverse = PyData.depthAll a := by
  induction a with
  | nil => rfl
  | cons x r ih =>
    rw [List.reverse_cons, depth_app, ih]
    show max (PyData.depthAll r) (max x.depth 0) = max x.depth (PyData.depthAll r)
    omega
theorem FitL.rev {B n m : Nat} {a : List PyData} (h : FitL B n m a) : FitL B n m a.reverse :=
  ⟨gds_iff.mpr fun x hx => gds_iff.mp h.1 x (List.mem_reverse.mp hx), by rw [weight_rev]; exact h.2.1, by rw [depth_rev]; exact h.2.2⟩
theorem ShAll.rev {H : Hp} : ∀ {xs : List V} {ds : List PyData}, ShAll H xs ds → ShAll H xs.reverse ds.reverse
  | _, _, .nil => .nil
  | _, _, .cons a r => by
    rw [List.reverse_cons, List.reverse_cons]
    exact (ShAll.rev r).append (.cons a .nil)

mutual
theorem Tk.sh {H : Hp} : ∀ {v : V} {d : PyData}, Tk H v d → noL d = true → Sh H v d
  | _, _, .bl b, _ => .bl b
  | _, _, .int i, _ => .int i
  | _, _, .str x, _ => .str x
  | _, _, .lst h t, n => by cases n
  | _, _, .tup h t, n => .tup h (t.sh n)
theorem TkAll.sh {H : Hp} : ∀ {vs : List V} {ds : List PyData}, TkAll H vs ds → noLs ds = true → ShAll H vs ds
  | _, _, .nil, _ => .nil
  | _, _, .cons (d := d) (ds := ds) h t, n => by
    have n' : noL d = true ∧ noLs ds = true := Bool.and_eq_true_iff.mp n
    exact .cons (h.sh n'.1) (t.sh n'.2)
end

/-! ### sizes of waves -/
theorem fitw_n {i : Int} {k M : Nat} (h : i.natAbs < 2 ^ k) (hk : k ≤ 8) : Fit (10 ^ 39) k M (.int i) := by
  have : (2 : Nat) ^ k ≤ 2 ^ 8 := Nat.pow_le_pow_right (by decide) hk
  exact ⟨decide_eq_true (Nat.le_trans (show i.natAbs ≤ 256 by omega) (by decide)), int_weight (by omega), Nat.zero_le _⟩
theorem fitw_map {α : Type} {f : α → PyData} {B n M : Nat} : ∀ l : List α, (∀ x ∈ l, Fit B n M (f x)) → FitL B ((n + 1) * l.length) M (l.map f)
  | [], _ => ⟨rfl, Nat.le_refl _, Nat.zero_le _⟩
  | x :: r, h => by
    have a := (FitL.one (h x (List.mem_cons_self ..))).app (fitw_map (f := f) r fun y hy => h y (List.mem_cons_of_mem _ hy))
    exact ⟨a.1, Nat.le_trans a.2.1 (by rw [List.length_cons, Nat.mul_succ]; omega), a.2.2⟩
/-- a wave of at most c changes, all before 128 -/
theorem fitw_wave {x : Int × List Int} {c : Nat} (f01 : x.1 = 0 ∨ x.1 = 1) (hl : x.2.length ≤ c) (bd : ∀ t ∈ x.2, 0 ≤ t ∧ t < 128) : Fit (10 ^ 39) (8 * c + 3) 2 (wvD x) := by
  have a : Fit (10 ^ 39) 1 1 (.int x.1) := fitw_n (by rcases f01 with z | z <;> rw [z] <;> decide) (by decide)
  have b : Fit (10 ^ 39) (8 * c) 1 (rowD x.2) := by
    have f := fitw_map (f := PyData.int) (B := 10 ^ 39) (n := 7) (M := 0) x.2 fun t ht => fitw_n (by have := bd t ht; show t.natAbs < 128; omega) (by decide)
    exact (Fit.tup f).mono (Nat.le_refl _) (Nat.mul_le_mul_left 8 hl) (Nat.le_refl _)
  have ab := (FitL.one a).app (FitL.one b)
  exact (Fit.tup ab).mono (Nat.le_refl _) (by omega) (Nat.le_refl _)
theorem fitw_waves {ws : List (Int × List Int)} {c n : Nat} (h : ∀ x ∈ ws, (x.1 = 0 ∨ x.1 = 1) ∧ x.2.length ≤ c ∧ ∀ t ∈ x.2, 0 ≤ t ∧ t < 128) (hl : ws.length ≤ n) (small : (8 * c + 4) * n ≤ 50000) : (PyData.tuple (ws.map wvD)).showable = true ∧ (PyData.tuple (ws.map wvD)).shown.length ≤ sizeLine ∧ (PyData.tuple (ws.map wvD)).depth ≤ 50 := by
  have f := fitw_map (f := wvD) (B := 10 ^ 39) (n := 8 * c + 3) (M := 2) ws fun x hx => fitw_wave (h x hx).1 (h x hx).2.1 (h x hx).2.2
  have g := (Fit.tup f).mono (Nat.le_refl _) (show (8 * c + 3 + 1) * ws.length ≤ 50000 from Nat.le_trans (Nat.mul_le_mul_left _ hl) small) (show 2 + 1 ≤ 3 from Nat.le_refl _)
  exact g.fine (by decide) (Nat.le_refl _) (by decide)

end
end Gk

set_option Elab.async false
set_option linter.all false
set_option maxRecDepth 100000
set_option maxHeartbeats 1000000
set_option pp.maxSteps 1500
set_option pp.deepTerms false
namespace Gk
open PySem PySem.Spec PyProof.Rows L2
section
variable {P : Program} {w : World} {K : PySem.W.Frag} {mg : Str → Option Value} {base : Heap}
def sp_near (K : PySem.W.Frag) : Sp := fun vs H Q _ => ∃ (x : Int), vs = [.int x] ∧ 0 ≤ x ∧ ∀ y, 0 ≤ y → Q (.int y) H
theorem ok_near (T : Tx K mg) : FnOk P w K mg base CX0 1 T.f_near T.fd_near ["_law_delay"] (sp_near K) := by
  refine T.F_near.ok sc_near (fun vs H Q E h => ?_) (fun cdv A outer s H vs Q E hr h => ?_)
  · obtain ⟨x, rfl, _⟩ := h
    rfl
  · obtain ⟨x, rfl, x0, q⟩ := h
    refine ⟨_, (pss_cons (ps_if (pw_and (pt_cmpR op_gt (pv 0) pe_int (nomark _)) (pw_and1 (pt_cmpR op_eq (pe_op op_mod (pv 0) pe_int) pe_int (nomark _)))).pt (pss_one (ps_ret (pe_op op_mod (pv 0) pe_int))) pss_nil) (pss_one (ps_ret (pv 0)))), ?_⟩
    refine ⟨.int x, rfl, _, _, rfl, rfl, _, rfl, ?_⟩
    refine ite2 (fun _ => ?_) (fun _ => iteF ⟨.int x, rfl, q x x0⟩)
    · refine ⟨.int x, rfl, _, _, rfl, rfl, (by decide : (0 : Int) < 3), rfl, _, rfl, ite2 (fun _ => ?_) (fun _ => ⟨.int x, rfl, q x x0⟩)⟩
      exact ⟨.int x, rfl, _, _, rfl, rfl, (by decide : (0 : Int) < 4), q _ (by omega)⟩

/-! ### a machine at a time, asked -/
theorem fit_int {t : Int} (h : t.natAbs < 128) : Fit (10 ^ 39) 7 0 (.int t) := fitw_n h (by decide)
theorem fit_row {r : List Int} (h : Row01 r) (hl : r.length ≤ 100) : Fit (10 ^ 39) 200 1 (rowD r) := by
  have f := fitw_map (f := PyData.int) (B := 10 ^ 39) (n := 1) (M := 0) r fun t ht => fitw_n (by rcases h t ht with z | z <;> rw [z] <;> decide) (by decide)
  exact (Fit.tup f).mono (Nat.le_refl _) (by omega) (Nat.le_refl _)
theorem rowV_01 {m : Nat} {gs : List Gt} {D : List (List Int)} {a b : List Int} (R : RunOk m gs D a b) (t : Int) : Row01 (rowV gs D a b (m + gs.length) t) := fun x hx => by
  obtain ⟨r, hr⟩ := List.getElem?_of_mem hx
  have rl : r < m + gs.length := by
    have := (List.getElem?_eq_some_iff.mp hr).1
    rw [rowV_len] at this
    exact this
  rw [rowV_at rl] at hr
  cases Option.some.inj hr
  exact V01 R.la R.lb R.ha R.hb R.okn R.sh rl t
def sp_is_at (T : Tx K mg) : Sp := fun vs H Q _ => ∃ (x : Mr) (e m : Nat) (gs : List Gt) (D : List (List Int)) (a b : List Int) (ws : List V), vs = [.ref x.p, .ref x.r, .int x.t] ∧ RunAt T.C_Machine H e x m gs D a b ws ∧ e ≤ 60 ∧ x.t ≤ e ∧ ∀ H', Same H H' → Q (.bl true) H'
theorem ok_is_at (T : Tx K mg) : FnG P w K mg base CX0 2 T.f_is_at T.fd_is_at ["_law_machine", "_law_rows_here", "_law_at"] (sp_is_at T) := by
  refine okG0 T.F_is_at sc_is_at (fun vs H Q E h => ?_) (fun cdv A outer s H vs Q E nothing hr h => ?_)
  · obtain ⟨x, e, m, gs, D, a, b, ws, rfl, _⟩ := h
    rfl
  · obtain ⟨x, e, m, gs, D, a, b, ws, rfl, R, e60, te, q⟩ := h
    refine ⟨_, (pss_cons (ps_for PassesOwn.never rfl (pi_range1 (by rfl) T.m_range (pa_cons pe_int pa_nil)) (pg_name (i := 3) sc_is_at.nd rfl (by first | exact .inl rfl | exact .inr rfl)) (pss_one (ps_if (pw_or (pt_cmpR op_ne (pe_callB (call_repr nothing hr.units) (by rfl) T.m_repr (by decide +kernel) (pa_cons (pe_meth0 (pv 0) T.cl_Machine T.me_Machine_time (ok_Machine_time T) (hr.mono (by decide)) T.b_Machine_time .nil pass0) pa_nil)) (pe_callB (call_repr nothing hr.units) (by rfl) T.m_repr (by decide +kernel) (pa_cons (pe_op op_sub (pv 2) pe_int) pa_nil)) (nomark _)) (pw_or1 (pt_cmpR op_ne (pe_callB (call_repr nothing hr.units) (by rfl) T.m_repr (by decide +kernel) (pa_cons (pe_meth0 (pv 0) T.cl_Machine T.me_Machine_worths (ok_Machine_worths T) (hr.mono (by decide)) T.b_Machine_worths .nil pass0) pa_nil)) (pe_callB (call_repr nothing hr.units) (by rfl) T.m_repr (by decide +kernel) (pa_cons (pe_ix ix_list (pv 1) (pv 2) (fun _ _ => rfl)) pa_nil)) (nomark _)))).pt (pss_one (ps_ret pe_bl)) pss_nil))) (pss_one (ps_ret pe_bl))), ?_⟩
    refine ⟨2, rfl, by decide, by decide, ?_⟩
    refine for_range (lo := 0) (n := (2 : Int).toNat) (fun i σ H' => ∃ y, σ = [some (.ref x.p), some (.ref x.r), some (.int x.t), y] ∧ Same H H') ⟨_, rfl, Same.refl _⟩ ?_ ?_
    · rintro i σ H1 hi ⟨y, rfl, s1⟩
      have R1 := R.keep (O := []) (KeepO.of s1) (Ts.same s1) (fun q _ h => by cases h) (fun h => by cases h)
      obtain ⟨U, E', MA, _⟩ := id R1.st
      refine ⟨.ref x.p, rfl, x.p, x.o.dx, _, rfl, MA.hp, x.o.no_time _, x.p, x.o, m, gs, D, a, b, _, rfl, R1.st, ?_⟩
      obtain ⟨i2, i3, i4⟩ := (fit_int (t := (x.t : Int) - 1) (by omega)).fine (by decide) (by decide) (by decide)
      refine ⟨.int ((x.t : Int) - 1), .int ((x.t : Int) - 1), rfl, .int _, i2, i3, i4, .int x.t, rfl, _, _, rfl, rfl, .int ((x.t : Int) - 1), .int ((x.t : Int) - 1), rfl, .int _, i2, i3, i4, rfl, ?_⟩
      rw [decide_eq_true rfl]
      refine ⟨_, rfl, iteF ?_⟩
      refine ⟨.ref x.p, rfl, x.p, x.o.dx, _, rfl, MA.hp, x.o.no_worths _, x.p, x.o, m, gs, D, a, b, _, rfl, R1.st, fun r H2 nr hr2 s2 => ?_⟩
      have s12 := s1.trans s2
      obtain ⟨wv', hwv, twv⟩ := R.tv.at' (rowsV_at (gs := gs) (D := D) (a := a) (b := b) (k := m + gs.length) (show x.t < e + 2 by omega))
      obtain ⟨rw', rfl, hrw⟩ := twv.row_inv
      have lr : (rowV gs D a b (m + gs.length) ((x.t : Int) - 1)).length ≤ 100 := by rw [rowV_len]; have := R.m4; have := R.g6; omega
      obtain ⟨r2, r3, r4⟩ := (fit_row (rowV_01 R.R ((x.t : Int) - 1)) lr).fine (by decide) (by decide) (by decide)
      have sh1 : Sh H2 (.ref r) (rowD (rowV gs D a b (m + gs.length) ((x.t : Int) - 1))) := (Tk.tup hr2 (TkAll.ints _)).sh (noL_row _)
      have sh2 : Sh H2 (.ref rw') (rowD (rowV gs D a b (m + gs.length) ((x.t : Int) - 1))) := (Tk.tup (s12 _ _ hrw) (TkAll.ints _)).sh (noL_row _)
      refine ⟨.ref r, _, rfl, sh1, r2, r3, r4, .ref x.r, rfl, .int x.t, rfl, x.r, ws, ((x.t : Nat) : Int), .ref rw', rfl, rfl, SqL.of (s12 _ _ R.hr), atI_nat hwv, .ref rw', _, rfl, sh2, r2, r3, r4, rfl, ?_⟩
      rw [decide_eq_true rfl]
      exact ⟨_, rfl, iteF ⟨_, rfl, s12⟩⟩
    · rintro σ H1 ⟨y, rfl, s1⟩
      exact q H1 s1

end
end Gk

set_option Elab.async false
set_option linter.all false
set_option maxRecDepth 100000
set_option maxHeartbeats 1000000
set_option pp.maxSteps 1500
set_option pp.deepTerms false
namespace Gk
open PySem PySem.Spec PyProof.Rows L2
/-! ### comparing, cutting and joining data of tuples -/
mutual
theorem Tk.dp {K : PySem.W.Frag} {H : Hp} : ∀ {v : V} {d : PyData}, Tk H v d → Dp K H v d
  | _, _, .bl b => .bl b
  | _, _, .int i => .int i
  | _, _, .str x => .str x
  | _, _, .lst h t => .lst (SqL.of h) t.dp
  | _, _, .tup h t => .tup (SqT.of h) t.dp
theorem TkAll.dp {K : PySem.W.Frag} {H : Hp} : ∀ {vs : List V} {ds : List PyData}, TkAll H vs ds → DpAll K H vs ds
  | _, _, .nil => .nil
  | _, _, .cons h t => .cons h.dp t.dp
end
theorem ne_same {K : PySem.W.Frag} {H : Hp} {x y : V} {d : PyData} {Q : VK} (hx : Dp K H x d) (hy : Dp K H y d) (sh : SeqAt.shaped d = true) (q : Q (.bl false) H) : rNeD K x y H Q := by
  refine ⟨d, d, hx, hy, sh, sh, ?_⟩
  rw [SeqAt.eqv_refl d (SeqAt.canLay_of_shaped sh)]
  exact q
theorem eq_same {K : PySem.W.Frag} {H : Hp} {x y : V} {d : PyData} {Q : VK} (hx : Dp K H x d) (hy : Dp K H y d) (sh : SeqAt.shaped d = true) (q : Q (.bl true) H) : rEqD K x y H Q := by
  refine ⟨d, d, hx, hy, sh, sh, ?_⟩
  rw [SeqAt.eqv_refl d (SeqAt.canLay_of_shaped sh)]
  exact q

section
variable {P : Program} {w : World} {K : PySem.W.Frag} {mg : Str → Option Value} {base : Heap}
/-! ### a change that comes late -/
theorem shRow (ns : List Int) : SeqAt.shaped (.tuple (ns.map PyData.int)) = true := by
  have h := shInts ns
  unfold SeqAt.shaped at h ⊢
  exact h
theorem tk_gt {H : Hp} {p i : Addr} {bs : List Bool} {ws : List Nat} {t : Str} (e : t = tabOf bs) (hp : H p = some (.tup [.str t, .ref i])) (hi : H i = some (.tup (nV ws))) : Tk H (.ref p) (gD (bs, ws)) := by
  subst e
  exact .tup hp (.cons (.str _) (.cons (.tup hi (TkAll.ints _)) .nil))
theorem tab_late {v : Int} (h0 : 0 ≤ v) (h1 : v < 3) : ∃ bs : List Bool, bs.length = 4 ∧ atI [V.str (Str.ofString "0110"), V.str (Str.ofString "0111"), V.str (Str.ofString "1000")] v = some (.str (tabOf bs)) := by
  have : v = 0 ∨ v = 1 ∨ v = 2 := by omega
  rcases this with rfl | rfl | rfl
  · exact ⟨[false, true, true, false], rfl, by decide +kernel⟩
  · exact ⟨[false, true, true, true], rfl, by decide +kernel⟩
  · exact ⟨[true, false, false, false], rfl, by decide +kernel⟩
def lateG (bs : List Bool) : List Gt := [([true, false], [0]), (bs, [0, 1]), ([false, true], [2])]
theorem late_ok {bs : List Bool} (h : bs.length = 4) : NetOk 1 (lateG bs) := fun i gt e => by
  match i, e with
  | 0, e => cases Option.some.inj e; exact ⟨rfl, by decide, by decide, by decide⟩
  | 1, e => cases Option.some.inj e; exact ⟨h, by show 1 ≤ 2; decide, by show 2 ≤ 3; decide, fun w hw => by
    have hw : w ∈ [0, 1] := hw
    simp only [List.mem_cons, List.not_mem_nil, or_false] at hw
    omega⟩
  | 2, e => cases Option.some.inj e; exact ⟨rfl, by decide, by decide, by decide⟩
  | i + 3, e => cases e
theorem late_run {bs : List Bool} (h : bs.length = 4) {far x y u : Int} (hf : 0 ≤ far) (hx : 0 ≤ x) (hy : 0 ≤ y) (u0 : 0 ≤ u) (u1 : u < 2) : RunOk 1 (lateG bs) [[far], [0, x], [y]] [u] [1 - u] :=
  ⟨late_ok h, ⟨rfl, fun g gt d h1 h2 => by
    match g, h1, h2 with
    | 0, h1, h2 => cases Option.some.inj h1; cases Option.some.inj h2; rfl
    | 1, h1, h2 => cases Option.some.inj h1; cases Option.some.inj h2; rfl
    | 2, h1, h2 => cases Option.some.inj h1; cases Option.some.inj h2; rfl
    | i + 3, h1, h2 => cases h1⟩, fun d hd z hz => by
    simp only [List.mem_cons, List.not_mem_nil, or_false] at hd
    rcases hd with rfl | rfl | rfl <;> simp only [List.mem_cons, List.not_mem_nil, or_false] at hz <;> omega, rfl, rfl, fun z hz => by
    have := List.mem_singleton.mp hz
    omega, fun z hz => by
    have := List.mem_singleton.mp hz
    omega⟩
def sp_comes_late (K : PySem.W.Frag) : Sp := fun vs H Q _ => ∃ (d l : Addr) (n : Int) (far : Nat), vs = [.ref d, .int far] ∧ DeckF H d l n ∧ n < 1000000 ∧ far ≤ 3000 ∧ ∀ H', DeckF H' d l (n + 200) → Fr d l H H' → Q (.bl true) H'
theorem ok_comes_late (T : Tx K mg) : FnOk P w K mg base CX0 8 T.f_comes_late T.fd_comes_late ["_law_deck_here", "_law_far"] (sp_comes_late K) := by
  refine T.F_comes_late.ok sc_comes_late (fun vs H Q E h => ?_) (fun cdv A outer s H vs Q E hr h => ?_)
  · obtain ⟨d, l, n, far, rfl, _⟩ := h
    rfl
  · obtain ⟨d, l, n, far, rfl, D, hn, f3, q⟩ := h
    refine ⟨_, (pss_cons (ps_set (i := 2) sc_comes_late.nd rfl (by first | exact .inl rfl | exact .inr rfl) (pe_call (ok_draw T) (hr.mono (by decide)) (by rfl) T.g_draw T.F_draw.kp T.b_draw .nil pass0 (pa_cons (pv 0) (pa_cons pe_int pa_nil)))) (pss_cons (ps_set (i := 3) sc_comes_late.nd rfl (by first | exact .inl rfl | exact .inr rfl) (pe_tup (pa_cons pe_int (pa_cons (pe_tup (pa_cons (pe_tup (pa_cons pe_str (pa_cons (pe_tup (pa_cons pe_int pa_nil)) pa_nil))) (pa_cons (pe_tup (pa_cons (pe_ix ix_list (pe_lst (pa_cons pe_str (pa_cons pe_str (pa_cons pe_str pa_nil)))) (pe_call (ok_draw T) (hr.mono (by decide)) (by rfl) T.g_draw T.F_draw.kp T.b_draw .nil pass0 (pa_cons (pv 0) (pa_cons pe_int pa_nil))) (fun _ _ => rfl)) (pa_cons (pe_tup (pa_cons pe_int (pa_cons pe_int pa_nil))) pa_nil))) (pa_cons (pe_tup (pa_cons pe_str (pa_cons (pe_tup (pa_cons pe_int pa_nil)) pa_nil))) pa_nil)))) pa_nil)))) (pss_cons (ps_set (i := 4) sc_comes_late.nd rfl (by first | exact .inl rfl | exact .inr rfl) (pe_tup (pa_cons (pe_tup (pa_cons (pv 1) pa_nil)) (pa_cons (pe_tup (pa_cons pe_int (pa_cons (pe_call (ok_draw T) (hr.mono (by decide)) (by rfl) T.g_draw T.F_draw.kp T.b_draw .nil pass0 (pa_cons (pv 0) (pa_cons pe_int pa_nil))) pa_nil))) (pa_cons (pe_tup (pa_cons (pe_call (ok_draw T) (hr.mono (by decide)) (by rfl) T.g_draw T.F_draw.kp T.b_draw .nil pass0 (pa_cons (pv 0) (pa_cons pe_int pa_nil))) pa_nil)) pa_nil))))) (pss_cons (ps_set (i := 5) sc_comes_late.nd rfl (by first | exact .inl rfl | exact .inr rfl) (pe_tup (pa_cons (pe_tup (pa_cons (pv 2) pa_nil)) (pa_cons (pe_tup (pa_cons (pe_op op_sub pe_int (pv 2)) pa_nil)) pa_nil)))) (pss_cons (ps_set (i := 6) sc_comes_late.nd rfl (by first | exact .inl rfl | exact .inr rfl) (pe_call (ok_slow T) (hr.mono (by decide)) (by rfl) T.g_slow T.F_slow.kp T.b_slow .nil pass0 (pa_cons (pv 3) (pa_cons (pv 4) (pa_cons (pv 5) (pa_cons (pe_op op_add (pv 1) pe_int) pa_nil)))))) (pss_cons (ps_set (i := 7) sc_comes_late.nd rfl (by first | exact .inl rfl | exact .inr rfl) (pe_make T.mk_Machine (ok_Machine___init__ T) (hr.mono (by decide)) (by rfl) T.gC_Machine T.b_Machine___init__ .nil pass0 (pa_cons (pv 3) (pa_cons (pv 4) (pa_cons (pv 5) pa_nil))))) (pss_cons (ps_for PassesOwn.never rfl (pi_range1 (by rfl) T.m_range (pa_cons (pe_op op_add (pv 1) pe_int) pa_nil)) (pg_name (i := 8) sc_comes_late.nd rfl (by first | exact .inl rfl | exact .inr rfl)) (pss_cons (ps_if (pt_cmpR (op_neD hr.units) (pe_meth0 (pv 7) T.cl_Machine T.me_Machine_worths (ok_Machine_worths T) (hr.mono (by decide)) T.b_Machine_worths .nil pass0) (pe_ix ix_list (pv 6) (pv 8) (fun _ _ => rfl)) (nomark _)) (pss_one (ps_ret pe_bl)) pss_nil) (pss_one (ps_if (pt_cmpR op_lt (pv 8) (pe_op op_add (pv 1) pe_int) (nomark _)) (pss_one (ps_expr (pe_meth0 (pv 7) T.cl_Machine T.me_Machine_step (ok_Machine_step T) (hr.mono (by decide)) T.b_Machine_step .nil pass0))) pss_nil)))) (pss_one (ps_ret (pe_cmpR op_eq (pe_meth0 (pv 7) T.cl_Machine T.me_Machine_time (ok_Machine_time T) (hr.mono (by decide)) T.b_Machine_time .nil pass0) (pe_op op_add (pv 1) pe_int) (nomark _))))))))))), ?_⟩
    refine ⟨.ref d, rfl, d, l, 2, _, rfl, D, by omega, by decide, by decide, fun H1 u D1 fr1 u0 u1 => ?_⟩
    refine ⟨sl1, fun p1 np1 => ?_⟩
    have s2 := same_upd (o := (HO.tup [V.int 0])) np1
    have h2 : upd H1 p1 (HO.tup [V.int 0]) p1 = some (HO.tup [V.int 0]) := upd_same
    generalize upd H1 p1 (HO.tup [V.int 0]) = H2 at s2 h2 ⊢
    refine ⟨sl2, fun p2 np2 => ?_⟩
    have s3 := same_upd (o := (HO.tup [V.str (Str.ofString "10"), V.ref p1])) np2
    have h3 : upd H2 p2 (HO.tup [V.str (Str.ofString "10"), V.ref p1]) p2 = some (HO.tup [V.str (Str.ofString "10"), V.ref p1]) := upd_same
    generalize upd H2 p2 (HO.tup [V.str (Str.ofString "10"), V.ref p1]) = H3 at s3 h3 ⊢
    refine ⟨sl3, fun p3 np3 => ?_⟩
    have s4 := same_upd (o := (HO.lst [V.str (Str.ofString "0110"), V.str (Str.ofString "0111"), V.str (Str.ofString "1000")])) np3
    have h4 : upd H3 p3 (HO.lst [V.str (Str.ofString "0110"), V.str (Str.ofString "0111"), V.str (Str.ofString "1000")]) p3 = some (HO.lst [V.str (Str.ofString "0110"), V.str (Str.ofString "0111"), V.str (Str.ofString "1000")]) := upd_same
    generalize upd H3 p3 (HO.lst [V.str (Str.ofString "0110"), V.str (Str.ofString "0111"), V.str (Str.ofString "1000")]) = H4 at s4 h4 ⊢
    have s14 := s2.trans (s3.trans s4)
    have D4 := D1.same s14
    refine ⟨.ref d, rfl, d, l, 3, _, rfl, D4, by omega, by decide, by decide, fun H5 v D5 fr5 v0 v1 => ?_⟩
    obtain ⟨bs, lb, hbs⟩ := tab_late v0 v1
    have o3 := (D1.same (s2.trans s3)).off np3
    refine ⟨p3, _, v, .str (tabOf bs), rfl, rfl, SqL.of (fr5 _ _ o3.1 o3.2 h4), hbs, sl2, fun p4 np4 => ?_⟩
    have ts5 := Ts.frF D4 fr5
    have h2 := ts5 _ _ (s4 _ _ (s3 _ _ h2))
    have h3 := ts5 _ _ (s4 _ _ h3)
    have s6 := same_upd (o := (HO.tup [V.int 0, V.int 1])) np4
    have h6 : upd H5 p4 (HO.tup [V.int 0, V.int 1]) p4 = some (HO.tup [V.int 0, V.int 1]) := upd_same
    generalize upd H5 p4 (HO.tup [V.int 0, V.int 1]) = H6 at s6 h6 ⊢
    refine ⟨sl2, fun p5 np5 => ?_⟩
    have s7 := same_upd (o := (HO.tup [V.str (tabOf bs), V.ref p4])) np5
    have h7 : upd H6 p5 (HO.tup [V.str (tabOf bs), V.ref p4]) p5 = some (HO.tup [V.str (tabOf bs), V.ref p4]) := upd_same
    generalize upd H6 p5 (HO.tup [V.str (tabOf bs), V.ref p4]) = H7 at s7 h7 ⊢
    refine ⟨sl1, fun p6 np6 => ?_⟩
    have s8 := same_upd (o := (HO.tup [V.int 2])) np6
    have h8 : upd H7 p6 (HO.tup [V.int 2]) p6 = some (HO.tup [V.int 2]) := upd_same
    generalize upd H7 p6 (HO.tup [V.int 2]) = H8 at s8 h8 ⊢
    refine ⟨sl2, fun p7 np7 => ?_⟩
    have s9 := same_upd (o := (HO.tup [V.str (Str.ofString "01"), V.ref p6])) np7
    have h9 : upd H8 p7 (HO.tup [V.str (Str.ofString "01"), V.ref p6]) p7 = some (HO.tup [V.str (Str.ofString "01"), V.ref p6]) := upd_same
    generalize upd H8 p7 (HO.tup [V.str (Str.ofString "01"), V.ref p6]) = H9 at s9 h9 ⊢
    refine ⟨sl3, fun p8 np8 => ?_⟩
    have s10 := same_upd (o := (HO.tup [V.ref p2, V.ref p5, V.ref p7])) np8
    have h10 : upd H9 p8 (HO.tup [V.ref p2, V.ref p5, V.ref p7]) p8 = some (HO.tup [V.ref p2, V.ref p5, V.ref p7]) := upd_same
    generalize upd H9 p8 (HO.tup [V.ref p2, V.ref p5, V.ref p7]) = H10 at s10 h10 ⊢
    refine ⟨sl2, fun p9 np9 => ?_⟩
    have s11 := same_upd (o := (HO.tup [V.int 1, V.ref p8])) np9
    have h11 : upd H10 p9 (HO.tup [V.int 1, V.ref p8]) p9 = some (HO.tup [V.int 1, V.ref p8]) := upd_same
    generalize upd H10 p9 (HO.tup [V.int 1, V.ref p8]) = H11 at s11 h11 ⊢
    have sE := s10.trans s11
    have sD := s9.trans sE
    have sC := s8.trans sD
    have sB := s7.trans sC
    have sA := s6.trans sB
    have tn : Tk H11 (.ref p9) (netD 1 (lateG bs)) := .tup h11 (.cons (.int _) (.cons (.tup (s11 _ _ h10) (.cons (tk_gt (bs := [true, false]) (ws := [0]) (by decide +kernel) (sA _ _ h3) (sA _ _ h2)) (.cons (tk_gt (bs := bs) (ws := [0, 1]) rfl (sC _ _ h7) (sB _ _ h6)) (.cons (tk_gt (bs := [false, true]) (ws := [2]) (by decide +kernel) (sE _ _ h9) (sD _ _ h8)) .nil)))) .nil))
    have D11 := D5.same sA
    refine ⟨.int far, rfl, sl1, fun q1 nq1 => ?_⟩
    have s12 := same_upd (o := (HO.tup [V.int far])) nq1
    have h12 : upd H11 q1 (HO.tup [V.int far]) q1 = some (HO.tup [V.int far]) := upd_same
    generalize upd H11 q1 (HO.tup [V.int far]) = H12 at s12 h12 ⊢
    refine ⟨.ref d, rfl, d, l, 20, _, rfl, D11.same s12, by omega, by decide, by decide, fun H13 x D13 fr13 x0 x1 => ?_⟩
    have ts13 := Ts.frF (D11.same s12) fr13
    refine ⟨sl2, fun q2 nq2 => ?_⟩
    have s14' := same_upd (o := (HO.tup [V.int 0, V.int x])) nq2
    have h14 : upd H13 q2 (HO.tup [V.int 0, V.int x]) q2 = some (HO.tup [V.int 0, V.int x]) := upd_same
    generalize upd H13 q2 (HO.tup [V.int 0, V.int x]) = H14 at s14' h14 ⊢
    refine ⟨.ref d, rfl, d, l, 20, _, rfl, D13.same s14', by omega, by decide, by decide, fun H15 y D15 fr15 y0 y1 => ?_⟩
    have ts15 := Ts.frF (D13.same s14') fr15
    refine ⟨sl1, fun q3 nq3 => ?_⟩
    have s16 := same_upd (o := (HO.tup [V.int y])) nq3
    have h16 : upd H15 q3 (HO.tup [V.int y]) q3 = some (HO.tup [V.int y]) := upd_same
    generalize upd H15 q3 (HO.tup [V.int y]) = H16 at s16 h16 ⊢
    refine ⟨sl3, fun q4 nq4 => ?_⟩
    have s17 := same_upd (o := (HO.tup [V.ref q1, V.ref q2, V.ref q3])) nq4
    have h17 : upd H16 q4 (HO.tup [V.ref q1, V.ref q2, V.ref q3]) q4 = some (HO.tup [V.ref q1, V.ref q2, V.ref q3]) := upd_same
    generalize upd H16 q4 (HO.tup [V.ref q1, V.ref q2, V.ref q3]) = H17 at s17 h17 ⊢
    have g12 := s17 _ _ (s16 _ _ (ts15 _ _ (s14' _ _ (ts13 _ _ h12))))
    have g14 := s17 _ _ (s16 _ _ (ts15 _ _ h14))
    have td : Tk H17 (.ref q4) (delsD [[(far : Int)], [0, x], [y]]) := .tup h17 (.cons (.tup g12 (TkAll.ints [(far : Int)])) (.cons (.tup g14 (TkAll.ints [0, x])) (.cons (.tup (s17 _ _ h16) (TkAll.ints [y])) .nil)))
    have tn17 := ((((tn.same s12).ts ts13 (noL_net _ _)).same s14').ts ts15 (noL_net _ _)).same (s16.trans s17)
    have D17 := D15.same (s16.trans s17)
    refine ⟨.int u, rfl, sl1, fun c1 nc1 => ?_⟩
    have s18 := same_upd (o := (HO.tup [V.int u])) nc1
    have h18 : upd H17 c1 (HO.tup [V.int u]) c1 = some (HO.tup [V.int u]) := upd_same
    generalize upd H17 c1 (HO.tup [V.int u]) = H18 at s18 h18 ⊢
    refine ⟨.int u, rfl, _, _, rfl, rfl, sl1, fun c2 nc2 => ?_⟩
    have s19 := same_upd (o := (HO.tup [V.int (1 - u)])) nc2
    have h19 : upd H18 c2 (HO.tup [V.int (1 - u)]) c2 = some (HO.tup [V.int (1 - u)]) := upd_same
    generalize upd H18 c2 (HO.tup [V.int (1 - u)]) = H19 at s19 h19 ⊢
    refine ⟨sl2, fun c3 nc3 => ?_⟩
    have s20 := same_upd (o := (HO.tup [V.ref c1, V.ref c2])) nc3
    have h20 : upd H19 c3 (HO.tup [V.ref c1, V.ref c2]) c3 = some (HO.tup [V.ref c1, V.ref c2]) := upd_same
    generalize upd H19 c3 (HO.tup [V.ref c1, V.ref c2]) = H20 at s20 h20 ⊢
    have sF := s18.trans (s19.trans s20)
    have tc : Tk H20 (.ref c3) (chD [u] [1 - u]) := .tup h20 (.cons (.tup (s20 _ _ (s19 _ _ h18)) (TkAll.ints [u])) (.cons (.tup (s20 _ _ h19) (TkAll.ints [1 - u])) .nil))
    have tn20 := tn17.same sF
    have td20 := td.same sF
    have R := late_run lb (far := (far : Int)) (by omega) x0 y0 u0 u1
    have lg : (lateG bs).length = 3 := rfl
    generalize lateG bs = gs at R tn20 lg
    generalize [[(far : Int)], [0, x], [y]] = DD at R td20
    have D20 := D17.same sF
    have frA : Fr d l H H20 := (((((fr1.trans (Fr.of s14)).trans fr5).trans (Fr.of (sA.trans s12))).trans fr13).trans (Fr.of s14')).trans (fr15.trans (Fr.of ((s16.trans s17).trans sF)))
    have e2 : ((far + 45 : Nat) : Int) = (far : Int) + 45 := by push_cast; rfl
    refine ⟨.ref p9, rfl, .ref q4, rfl, .ref c3, rfl, .int far, rfl, _, _, rfl, rfl, .ref p9, .ref q4, .ref c3, 1, gs, DD, [u], [1 - u], far + 45, (by show [V.ref p9, V.ref q4, V.ref c3, V.int ((far : Int) + 45)] = _; rw [e2]), tn20, td20, tc, R, by decide, by omega, by omega, fun r H21 vs nr s21 hvs tvs => ?_⟩
    refine ⟨.ref p9, rfl, .ref q4, rfl, .ref c3, rfl, fun p dx np ndx nex => ?_⟩
    have s0 : Same H21 (upd (upd H21 dx (.own p)) p (.ins T.C_Machine dx [])) := fun b' o e => by
      rw [upd_ne (ne_of_none e np), upd_ne (ne_of_none e ndx)]
      exact e
    refine ⟨H21, p, dx, .ref p9, .ref q4, .ref c3, 1, gs, DD, [u], [1 - u], rfl, s0, np, upd_same, tn20.same s21, td20.same s21, tc.same s21, R, by decide, by omega, fun H22 o Mc s22 own0 => ⟨rfl, ?_⟩⟩
    refine ⟨.int far, rfl, _, _, rfl, rfl, (far : Int) + 47, rfl, by omega, by omega, ?_⟩
    have en : ((far : Int) + 47).toNat = far + 47 := by omega
    refine for_range (lo := 0) (n := ((far : Int) + 47).toNat) (fun k σ H' => ∃ y, σ = [some (.ref d), some (.int far), some (.int u), some (.ref p9), some (.ref q4), some (.ref c3), some (.ref r), some (.ref p), y] ∧ Same H21 H' ∧ MState T.C_Machine H' p o 1 gs DD [u] [1 - u] (min (k : Int) (far + 46) - 1)) ⟨_, rfl, s22, by
      rw [show min ((0 : Nat) : Int) (far + 46) - 1 = -1 by omega]
      exact Mc⟩ ?_ ?_
    · rintro k σ H23 hk ⟨y8, rfl, s23, M⟩
      have hk' : k < far + 47 := by rw [en] at hk; exact hk
      have et : min (k : Int) (far + 46) = k := by omega
      rw [et] at M
      obtain ⟨U, E', MA, _⟩ := id M
      refine ⟨.ref p, rfl, p, o.dx, _, rfl, MA.hp, o.no_worths _, p, o, 1, gs, DD, [u], [1 - u], _, rfl, M, fun rr H24 nrr hrr s24 => ?_⟩
      have s234 := s23.trans s24
      have e0 : (0 : Int) + (k : Int) = (k : Int) := Int.zero_add _
      obtain ⟨rv, hrv, trv⟩ := tvs.at' (rowsV_at (gs := gs) (D := DD) (a := [u]) (b := [1 - u]) (k := 1 + gs.length) (show k < far + 45 + 2 by omega))
      obtain ⟨rw', rfl, hrw⟩ := trv.row_inv
      refine ⟨.ref r, rfl, .int (0 + (k : Int)), rfl, r, vs, _, .ref rw', rfl, rfl, SqL.of (s234 _ _ hvs), (by rw [e0]; exact atI_nat hrv), ?_⟩
      refine ne_same (d := .tuple ((rowV gs DD [u] [1 - u] (1 + gs.length) ((k : Int) - 1)).map .int)) (.tup (SqT.of hrr) (dpInts _)) (.tup (SqT.of (s234 _ _ hrw)) (dpInts _)) (shRow _) ⟨_, rfl, iteF ?_⟩
      have M4 := M.same s24
      obtain ⟨U4, E4, MA4, _⟩ := id M4
      refine ⟨.int (0 + (k : Int)), rfl, .int far, rfl, _, _, rfl, rfl, _, _, rfl, rfl, _, rfl, ite2 (fun z => ?_) (fun z => ?_)⟩
      · have z : 0 + (k : Int) < (far : Int) + 46 := of_decide_eq_true z
        refine ⟨.ref p, rfl, p, o.dx, _, rfl, MA4.hp, o.no_step _, p, o, 1, gs, DD, [u], [1 - u], _, rfl, M4, R, by omega, by omega, by omega, by omega, fun H25 M5 k5 => ⟨_, rfl, same_keep s234 k5 own0, ?_⟩⟩
        rw [show min (((k + 1 : Nat)) : Int) (far + 46) - 1 = (k : Int) - 1 + 1 by omega]
        exact M5
      · have z : ¬ 0 + (k : Int) < (far : Int) + 46 := fun y => z (decide_eq_true y)
        refine ⟨_, rfl, s234, ?_⟩
        rw [show min (((k + 1 : Nat)) : Int) (far + 46) - 1 = (k : Int) - 1 by omega]
        exact M4
    · rintro σ H23 ⟨y8, rfl, s23, M⟩
      rw [en, show min (((far + 47 : Nat)) : Int) (far + 46) - 1 = (far : Int) + 45 by omega] at M
      obtain ⟨U, E', MA, _⟩ := id M
      refine ⟨.ref p, rfl, p, o.dx, _, rfl, MA.hp, o.no_time _, p, o, 1, gs, DD, [u], [1 - u], _, rfl, M, .int far, rfl, _, _, rfl, rfl, rfl, ?_⟩
      rw [decide_eq_true rfl]
      exact q H23 ((D20.same (s21.trans s23)).mono (by omega)) (frA.trans (Fr.of (s21.trans s23)))

end
end Gk

set_option Elab.async false
set_option linter.all false
set_option maxRecDepth 100000
set_option maxHeartbeats 1000000
set_option pp.maxSteps 1500
set_option pp.deepTerms false
namespace Gk
open PySem PySem.Spec PyProof.Rows L2
/-! ### the net that goes on changing, the mathematics -/
def xorB : List Bool := [false, true, true, false]
def goesG : List Gt := (List.range 8).map fun k => (xorB, [k, k])
def lates : List Int := [1, 2, 4, 8, 16, 32, 64, 128]
def goesD : List (List Int) := lates.map fun x => [0, x]
theorem xor_gate {x y : Int} (hx : x = 0 ∨ x = 1) (hy : y = 0 ∨ y = 1) : gateM xorB [x, y] = (x + y) % 2 := by
  rcases hx with rfl | rfl <;> rcases hy with rfl | rfl <;> decide
theorem goesG_at {k : Nat} (h : k < 8) : goesG[k]? = some (xorB, [k, k]) := by
  unfold goesG
  rw [List.getElem?_map, List.getElem?_range h]
  rfl
theorem goes_ok : NetOk 1 goesG := fun i gt e => by
  have hi := (List.getElem?_eq_some_iff.mp e).1
  have hi : i < 8 := hi
  rw [goesG_at hi] at e
  cases Option.some.inj e
  exact ⟨rfl, by show 1 ≤ 2; decide, by show 2 ≤ 3; decide, fun w hw => by
    have hw : w ∈ [i, i] := hw
    simp only [List.mem_cons, List.not_mem_nil, or_false] at hw
    omega⟩
theorem goesD_at {k : Nat} {x : Int} (h : lates[k]? = some x) : goesD[k]? = some [0, x] := by
  unfold goesD
  rw [List.getElem?_map, h]
  rfl
theorem goes_run {u : Int} (u0 : 0 ≤ u) (u1 : u < 2) : RunOk 1 goesG goesD [u] [1 - u] :=
  ⟨goes_ok, ⟨rfl, fun g gt d h1 h2 => by
    have hg := (List.getElem?_eq_some_iff.mp h1).1
    have hg : g < 8 := hg
    rw [goesG_at hg] at h1
    cases Option.some.inj h1
    unfold goesD at h2
    rw [List.getElem?_map] at h2
    obtain ⟨x, hx, rfl⟩ := Option.map_eq_some_iff.mp h2
    rfl⟩, fun d hd z hz => by
    obtain ⟨x, hx, rfl⟩ := List.mem_map.mp hd
    have hx' : 0 ≤ x := by
      unfold lates at hx
      simp only [List.mem_cons, List.not_mem_nil, or_false] at hx
      omega
    simp only [List.mem_cons, List.not_mem_nil, or_false] at hz
    omega, rfl, rfl, fun z hz => by
    have := List.mem_singleton.mp hz
    omega, fun z hz => by
    have := List.mem_singleton.mp hz
    omega⟩
/-- what a wire of it is worth: changed at each time below its limit -/
def goesV (N : Int) (f : Int → Int) : Prop := ∀ t, f t = if 0 ≤ t ∧ t < N then (t + 1) % 2 else 0
theorem goes_next {N : Int} {f g : Int → Int} (hN : 0 < N) (ev : N % 2 = 0) (hf : goesV N f) (hg : ∀ t, g t = (f t + f (t - N)) % 2) : goesV (2 * N) g := fun t => by
  rw [hg, hf, hf]
  by_cases a : 0 ≤ t ∧ t < N
  · rw [if_pos a, if_neg (show ¬ (0 ≤ t - N ∧ t - N < N) by omega), if_pos (show 0 ≤ t ∧ t < 2 * N by omega)]
    omega
  · rw [if_neg a]
    by_cases b : 0 ≤ t - N ∧ t - N < N
    · rw [if_pos b, if_pos (show 0 ≤ t ∧ t < 2 * N by omega)]
      omega
    · rw [if_neg b, if_neg (show ¬ (0 ≤ t ∧ t < 2 * N) by omega)]
      rfl
theorem goes_8 {u : Int} (u0 : 0 ≤ u) (u1 : u < 2) : goesV 256 (valAt goesG goesD [u] [1 - u] 8) := by
  have R := goes_run u0 u1
  have ok := val_ok R.la R.lb R.okn R.sh
  have v01 : ∀ r t, r < 9 → valAt goesG goesD [u] [1 - u] r t = 0 ∨ valAt goesG goesD [u] [1 - u] r t = 1 := fun r t hr => V01 R.la R.lb R.ha R.hb R.okn R.sh hr t
  have step : ∀ (k : Nat) (x : Int), lates[k]? = some x → ∀ t, valAt goesG goesD [u] [1 - u] (1 + k) t = (valAt goesG goesD [u] [1 - u] k t + valAt goesG goesD [u] [1 - u] k (t - x)) % 2 := fun k x hx t => by
    have hk : k < 8 := (List.getElem?_eq_some_iff.mp hx).1
    rw [ok.g k _ _ t (goesG_at hk) (goesD_at hx)]
    show gateM xorB [valAt goesG goesD [u] [1 - u] k (t - 0), valAt goesG goesD [u] [1 - u] k (t - x)] = _
    rw [Int.sub_zero, xor_gate (v01 k t (by omega)) (v01 k _ (by omega))]
  have i0 : ∀ t, valAt goesG goesD [u] [1 - u] 0 t = if 0 ≤ t then 1 - u else u := fun t => ok.i 0 t (by decide)
  have g1 : goesV 2 (valAt goesG goesD [u] [1 - u] 1) := fun t => by
    have := step 0 1 rfl t
    rw [show 1 + 0 = 1 from rfl] at this
    rw [this, i0, i0]
    by_cases a : 0 ≤ t
    · rw [if_pos a]
      by_cases b : 0 ≤ t - 1
      · rw [if_pos b]
        by_cases c : 0 ≤ t ∧ t < 2
        · rw [if_pos c]
          omega
        · rw [if_neg c]
          omega
      · rw [if_neg b, if_pos (show 0 ≤ t ∧ t < 2 by omega)]
        omega
    · rw [if_neg a, if_neg (show ¬ 0 ≤ t - 1 by omega), if_neg (show ¬ (0 ≤ t ∧ t < 2) by omega)]
      omega
  have g2 := goes_next (by decide) (by decide) g1 (step 1 2 rfl)
  have g3 := goes_next (by decide) (by decide) g2 (step 2 4 rfl)
  have g4 := goes_next (by decide) (by decide) g3 (step 3 8 rfl)
  have g5 := goes_next (by decide) (by decide) g4 (step 4 16 rfl)
  have g6 := goes_next (by decide) (by decide) g5 (step 5 32 rfl)
  have g7 := goes_next (by decide) (by decide) g6 (step 6 64 rfl)
  exact goes_next (by decide) (by decide) g7 (step 7 128 rfl)

end Gk

set_option Elab.async false
set_option linter.all false
set_option maxRecDepth 100000
set_option maxHeartbeats 1000000
set_option pp.maxSteps 1500
set_option pp.deepTerms false
namespace Gk
open PySem PySem.Spec PyProof.Rows L2
section
variable {P : Program} {w : World} {K : PySem.W.Frag} {mg : Str → Option Value} {base : Heap}
/-! ### the net that goes on changing -/
def sp_goes_on (K : PySem.W.Frag) : Sp := fun vs H Q _ => ∃ (d l : Addr) (n : Int), vs = [.ref d] ∧ DeckF H d l n ∧ n < 1000000 ∧ ∀ H', Q (.bl true) H'
theorem ok_goes_on (T : Tx K mg) : FnOk P w K mg base CX0 8 T.f_goes_on T.fd_goes_on ["_law_deck_here"] (sp_goes_on K) := by
  refine T.F_goes_on.ok sc_goes_on (fun vs H Q E h => ?_) (fun cdv A outer s H vs Q E hr h => ?_)
  · obtain ⟨d, l, n, rfl, _⟩ := h
    rfl
  · obtain ⟨d, l, n, rfl, D, hn, q⟩ := h
    refine ⟨_, (pss_cons (ps_set (i := 1) sc_goes_on.nd rfl (by first | exact .inl rfl | exact .inr rfl) (pe_call (ok_draw T) (hr.mono (by decide)) (by rfl) T.g_draw T.F_draw.kp T.b_draw .nil pass0 (pa_cons (pv 0) (pa_cons pe_int pa_nil)))) (pss_cons (ps_set (i := 2) sc_goes_on.nd rfl (by first | exact .inl rfl | exact .inr rfl) (pe_tup (pa_cons pe_int (pa_cons (pe_callTy call_tuple_of (by rfl) T.m_tuple (by decide +kernel) (pa_cons (pe_lc (own := [("_law_k", 9)]) (by rfl) sc_goes_on.nd (pi_range1 (by rfl) T.m_range (pa_cons pe_int pa_nil)) (blkOk_by (own := [("_law_k", 9)]) (N := ["_law_deck_here", "_law_turn", "_law_net_here", "_law_delays_here", "_law_change", "_law_rows_here", "_law_machine", "_law_at", "_law_late", "_law_k"]) (sc := defScope s_goes_on) (by decide +kernel)) (fun _ _ _ _ _ => (pg_name (i := 9) sc_goes_on.nd rfl (by first | exact .inl rfl | exact .inr rfl))) (fun _ _ _ _ _ => pts_nil) (fun _ _ _ _ _ => (pe_tup (pa_cons pe_str (pa_cons (pe_tup (pa_cons (pv 9) (pa_cons (pv 9) pa_nil))) pa_nil))))) pa_nil)) pa_nil)))) (pss_cons (ps_set (i := 3) sc_goes_on.nd rfl (by first | exact .inl rfl | exact .inr rfl) (pe_callTy call_tuple_of (by rfl) T.m_tuple (by decide +kernel) (pa_cons (pe_lc (own := [("_law_late", 8)]) (by rfl) sc_goes_on.nd (pi_list (pe_lst (pa_cons pe_int (pa_cons pe_int (pa_cons pe_int (pa_cons pe_int (pa_cons pe_int (pa_cons pe_int (pa_cons pe_int (pa_cons pe_int pa_nil)))))))))) (blkOk_by (own := [("_law_late", 8)]) (N := ["_law_deck_here", "_law_turn", "_law_net_here", "_law_delays_here", "_law_change", "_law_rows_here", "_law_machine", "_law_at", "_law_late", "_law_k"]) (sc := defScope s_goes_on) (by decide +kernel)) (fun _ _ _ _ _ => (pg_name (i := 8) sc_goes_on.nd rfl (by first | exact .inl rfl | exact .inr rfl))) (fun _ _ _ _ _ => pts_nil) (fun _ _ _ _ _ => (pe_tup (pa_cons pe_int (pa_cons (pv 8) pa_nil))))) pa_nil))) (pss_cons (ps_set (i := 4) sc_goes_on.nd rfl (by first | exact .inl rfl | exact .inr rfl) (pe_tup (pa_cons (pe_tup (pa_cons (pv 1) pa_nil)) (pa_cons (pe_tup (pa_cons (pe_op op_sub pe_int (pv 1)) pa_nil)) pa_nil)))) (pss_cons (ps_set (i := 5) sc_goes_on.nd rfl (by first | exact .inl rfl | exact .inr rfl) (pe_call (ok_slow T) (hr.mono (by decide)) (by rfl) T.g_slow T.F_slow.kp T.b_slow .nil pass0 (pa_cons (pv 2) (pa_cons (pv 3) (pa_cons (pv 4) (pa_cons pe_int pa_nil)))))) (pss_cons (ps_set (i := 6) sc_goes_on.nd rfl (by first | exact .inl rfl | exact .inr rfl) (pe_make T.mk_Machine (ok_Machine___init__ T) (hr.mono (by decide)) (by rfl) T.gC_Machine T.b_Machine___init__ .nil pass0 (pa_cons (pv 2) (pa_cons (pv 3) (pa_cons (pv 4) pa_nil))))) (pss_cons (ps_for PassesOwn.never rfl (pi_range1 (by rfl) T.m_range (pa_cons pe_int pa_nil)) (pg_name (i := 7) sc_goes_on.nd rfl (by first | exact .inl rfl | exact .inr rfl)) (pss_cons (ps_if (pt_cmpR (op_neD hr.units) (pe_meth0 (pv 6) T.cl_Machine T.me_Machine_worths (ok_Machine_worths T) (hr.mono (by decide)) T.b_Machine_worths .nil pass0) (pe_ix ix_list (pv 5) (pv 7) (fun _ _ => rfl)) (nomark _)) (pss_one (ps_ret pe_bl)) pss_nil) (pss_one (ps_expr (pe_meth0 (pv 6) T.cl_Machine T.me_Machine_step (ok_Machine_step T) (hr.mono (by decide)) T.b_Machine_step .nil pass0))))) (pss_one (ps_ret (pe_and (pe_cmpR op_eq (pe_callB call_len_seq (by rfl) T.m_len PySem.boot_len (pa_cons (pe_lc (own := [("_law_at", 7)]) (by rfl) sc_goes_on.nd (pi_range1 (by rfl) T.m_range (pa_cons pe_int pa_nil)) (blkOk_by (own := [("_law_at", 7)]) (N := ["_law_deck_here", "_law_turn", "_law_net_here", "_law_delays_here", "_law_change", "_law_rows_here", "_law_machine", "_law_at", "_law_late", "_law_k"]) (sc := defScope s_goes_on) (by decide +kernel)) (fun _ _ _ _ _ => (pg_name (i := 7) sc_goes_on.nd rfl (by first | exact .inl rfl | exact .inr rfl))) (fun _ _ _ _ _ => (pts_one (pt_cmpR op_ne (pe_ix (show IxR _ (rIxT K) from ix_tup) (pe_ix (show IxR _ (rIxL K) from ix_list) (pv 5) (pv 7) (fun _ _ => rfl)) pe_int (fun _ _ => rfl)) (pe_ix (show IxR _ (rIxT K) from ix_tup) (pe_ix (show IxR _ (rIxL K) from ix_list) (pv 5) (pe_op op_add (pv 7) pe_int) (fun _ _ => rfl)) pe_int (fun _ _ => rfl)) (nomark _)))) (fun _ _ _ _ _ => pe_int)) pa_nil)) pe_int (nomark _)) (pe_one (pe_cmpR op_eq (pe_meth0 (pv 6) T.cl_Machine T.me_Machine_time (ok_Machine_time T) (hr.mono (by decide)) T.b_Machine_time .nil pass0) pe_int (nomark _))))))))))))), ?_⟩
    refine ⟨.ref d, rfl, d, l, 2, _, rfl, D, by omega, by decide, by decide, fun H1 u D1 fr1 u0 u1 => ?_⟩
    refine ⟨8, rfl, by decide, by decide, fun L nL => ?_⟩
    refine lc_range (lo := 0) (n := (8 : Int).toNat) (fun i H' => Same H1 (hd1 L H') ∧ ∃ xs, H' L = some (.lst xs) ∧ TkAll H' xs (((List.range i).map fun k => ((xorB, [k, k]) : Gt)).map gD))
      ⟨hd1_of (same_upd nL) nL, [], upd_same, .nil⟩ ?_ ?_
    · rintro i H2 hi ⟨s2, xs, hL, txs⟩
      have hi' : i < 8 := hi
      have lxs : xs.length = i := by rw [txs.length, List.length_map, List.length_map, List.length_range]
      refine ⟨rfl, .int (0 + (i : Int)), rfl, .int (0 + (i : Int)), rfl, sl2, fun t1 nt1 => ?_⟩
      have e0 : (0 : Int) + (i : Int) = (i : Int) := Int.zero_add _
      rw [e0]
      have s3 := same_upd (o := (HO.tup [V.int (i : Int), V.int (i : Int)])) nt1
      have h3 : upd H2 t1 (HO.tup [V.int (i : Int), V.int (i : Int)]) t1 = some (HO.tup [V.int (i : Int), V.int (i : Int)]) := upd_same
      generalize upd H2 t1 (HO.tup [V.int (i : Int), V.int (i : Int)]) = H3 at s3 h3 ⊢
      refine ⟨sl2, fun t2 nt2 => ?_⟩
      have s4 := same_upd (o := (HO.tup [V.str (Str.ofString "0110"), V.ref t1])) nt2
      have h4 : upd H3 t2 (HO.tup [V.str (Str.ofString "0110"), V.ref t1]) t2 = some (HO.tup [V.str (Str.ofString "0110"), V.ref t1]) := upd_same
      generalize upd H3 t2 (HO.tup [V.str (Str.ofString "0110"), V.ref t1]) = H4 at s4 h4 ⊢
      have s34 := s3.trans s4
      have hL4 := s34 _ _ hL
      have tnew : Tk H4 (.ref t2) (gD (xorB, [i, i])) := tk_gt (by decide +kernel) h4 (s4 _ _ h3)
      have ts := Ts.set (ys := xs ++ [V.ref t2]) hL4
      refine ⟨xs, hL4, ?_, (s2.trans (hd1_same s34)).trans hd1_upd, xs ++ [.ref t2], upd_same, ?_⟩
      · exact Nat.lt_of_lt_of_le (show xs.length < 64 by omega) (by decide)
      · rw [List.range_succ, List.map_append, List.map_append]
        exact ((txs.same s34).ts ts (noL_gates _)).append (.cons (tnew.ts ts (noL_gate _)) .nil)
    · rintro H2 ⟨s2, xs, hL, txs⟩
      have k2 : Same H1 H2 := fun b o e => hd1_le _ _ (s2 b o e)
      refine ⟨L, xs, rfl, .inl ⟨SqL.of hL, fun t nt => ?_⟩⟩
      have txs : TkAll H2 xs (goesG.map gD) := txs
      have s3 := same_upd (o := (HO.tup xs)) nt
      have h3 : upd H2 t (HO.tup xs) t = some (HO.tup xs) := upd_same
      generalize upd H2 t (HO.tup xs) = H3 at s3 h3 ⊢
      refine ⟨sl2, fun nn nnn => ?_⟩
      have s4 := same_upd (o := (HO.tup [V.int 1, V.ref t])) nnn
      have h4 : upd H3 nn (HO.tup [V.int 1, V.ref t]) nn = some (HO.tup [V.int 1, V.ref t]) := upd_same
      generalize upd H3 nn (HO.tup [V.int 1, V.ref t]) = H4 at s4 h4 ⊢
      have tn : Tk H4 (.ref nn) (netD 1 goesG) := .tup h4 (.cons (.int _) (.cons (.tup (s4 _ _ h3) (txs.same (s3.trans s4))) .nil))
      have s14 := k2.trans (s3.trans s4)
      refine ⟨(by show 8 ≤ sizeLine; decide), fun p np => ?_⟩
      have s5 := same_upd (o := (HO.lst [V.int 1, V.int 2, V.int 4, V.int 8, V.int 16, V.int 32, V.int 64, V.int 128])) np
      have h5 : upd H4 p (HO.lst [V.int 1, V.int 2, V.int 4, V.int 8, V.int 16, V.int 32, V.int 64, V.int 128]) p = some (HO.lst [V.int 1, V.int 2, V.int 4, V.int 8, V.int 16, V.int 32, V.int 64, V.int 128]) := upd_same
      generalize upd H4 p (HO.lst [V.int 1, V.int 2, V.int 4, V.int 8, V.int 16, V.int 32, V.int 64, V.int 128]) = H5 at s5 h5 ⊢
      have h5 : H5 p = some (.lst (lates.map V.int)) := h5
      refine ⟨p, rfl, ⟨_, SqL.of h5⟩, fun M nM => ?_⟩
      refine lc_list (K := K) (a := p) (xs := lates.map V.int) (fun i H' => Same H5 (hd1 M H') ∧ ∃ xs, H' M = some (.lst xs) ∧ TkAll H' xs ((goesD.take i).map rowD))
        ⟨hd1_of (same_upd nM) nM, [], upd_same, .nil⟩ (fun i H' _ z => SqL.of (hd1_le _ _ (z.1 _ _ h5))) ?_ ?_
      · rintro i v H6 hv ⟨s6, ys, hM, tys⟩
        obtain ⟨x, hx, rfl⟩ := vint_at hv
        have hi : i < 8 := (List.getElem?_eq_some_iff.mp hx).1
        have lys : ys.length ≤ i := by rw [tys.length, List.length_map, List.length_take]; omega
        refine ⟨rfl, .int x, rfl, sl2, fun t1 nt1 => ?_⟩
        have s7 := same_upd (o := (HO.tup [V.int 0, V.int x])) nt1
        have h7 : upd H6 t1 (HO.tup [V.int 0, V.int x]) t1 = some (HO.tup [V.int 0, V.int x]) := upd_same
        generalize upd H6 t1 (HO.tup [V.int 0, V.int x]) = H7 at s7 h7 ⊢
        have hM7 := s7 _ _ hM
        have ts := Ts.set (ys := ys ++ [V.ref t1]) hM7
        refine ⟨ys, hM7, ?_, (s6.trans (hd1_same s7)).trans hd1_upd, ys ++ [.ref t1], upd_same, ?_⟩
        · exact Nat.lt_of_lt_of_le (show ys.length < 64 by omega) (by decide)
        · rw [List.take_add_one, goesD_at hx, List.map_append]
          exact ((tys.same s7).ts ts (noLs_map noL_row _)).append (.cons (.tup (ts _ _ h7) (TkAll.ints [0, x])) .nil)
      rintro H6 ⟨s6, ys, hM, tys⟩
      have k6 : Same H5 H6 := fun b o e => hd1_le _ _ (s6 b o e)
      have tys : TkAll H6 ys (goesD.map rowD) := tys
      refine ⟨M, ys, rfl, .inl ⟨SqL.of hM, fun td ntd => ?_⟩⟩
      have s7 := same_upd (o := (HO.tup ys)) ntd
      have h7 : upd H6 td (HO.tup ys) td = some (HO.tup ys) := upd_same
      generalize upd H6 td (HO.tup ys) = H7 at s7 h7 ⊢
      have tds : Tk H7 (.ref td) (delsD goesD) := .tup h7 (tys.same s7)
      refine ⟨.int u, rfl, sl1, fun c1 nc1 => ?_⟩
      have s18 := same_upd (o := (HO.tup [V.int u])) nc1
      have h18 : upd H7 c1 (HO.tup [V.int u]) c1 = some (HO.tup [V.int u]) := upd_same
      generalize upd H7 c1 (HO.tup [V.int u]) = H18 at s18 h18 ⊢
      refine ⟨.int u, rfl, _, _, rfl, rfl, sl1, fun c2 nc2 => ?_⟩
      have s19 := same_upd (o := (HO.tup [V.int (1 - u)])) nc2
      have h19 : upd H18 c2 (HO.tup [V.int (1 - u)]) c2 = some (HO.tup [V.int (1 - u)]) := upd_same
      generalize upd H18 c2 (HO.tup [V.int (1 - u)]) = H19 at s19 h19 ⊢
      refine ⟨sl2, fun c3 nc3 => ?_⟩
      have s20 := same_upd (o := (HO.tup [V.ref c1, V.ref c2])) nc3
      have h20 : upd H19 c3 (HO.tup [V.ref c1, V.ref c2]) c3 = some (HO.tup [V.ref c1, V.ref c2]) := upd_same
      generalize upd H19 c3 (HO.tup [V.ref c1, V.ref c2]) = H20 at s20 h20 ⊢
      have sF := s18.trans (s19.trans s20)
      have tc : Tk H20 (.ref c3) (chD [u] [1 - u]) := .tup h20 (.cons (.tup (s20 _ _ (s19 _ _ h18)) (TkAll.ints [u])) (.cons (.tup (s20 _ _ h19) (TkAll.ints [1 - u])) .nil))
      have sG := s5.trans (k6.trans (s7.trans sF))
      have tn20 := tn.same sG
      have td20 := tds.same sF
      have R := goes_run u0 u1
      have G8 := goes_8 u0 u1
      have lg : goesG.length = 8 := rfl
      generalize goesG = gs at R tn20 lg G8
      generalize goesD = DD at R td20 G8
      refine ⟨.ref nn, rfl, .ref td, rfl, .ref c3, rfl, .ref nn, .ref td, .ref c3, 1, gs, DD, [u], [1 - u], 260, rfl, tn20, td20, tc, R, by decide, by omega, by decide, fun r H21 vs nr s21 hvs tvs => ?_⟩
      refine ⟨.ref nn, rfl, .ref td, rfl, .ref c3, rfl, fun p dx np ndx nex => ?_⟩
      have s0 : Same H21 (upd (upd H21 dx (.own p)) p (.ins T.C_Machine dx [])) := fun b' o e => by
        rw [upd_ne (ne_of_none e np), upd_ne (ne_of_none e ndx)]
        exact e
      refine ⟨H21, p, dx, .ref nn, .ref td, .ref c3, 1, gs, DD, [u], [1 - u], rfl, s0, np, upd_same, tn20.same s21, td20.same s21, tc.same s21, R, by decide, by omega, fun H22 o Mc s22 own0 => ⟨rfl, ?_⟩⟩
      refine ⟨261, rfl, by decide, by decide, ?_⟩
      refine for_range (lo := 0) (n := (261 : Int).toNat) (fun k σ H' => ∃ y, σ = [some (.ref d), some (.int u), some (.ref nn), some (.ref td), some (.ref c3), some (.ref r), some (.ref p), y, none, none] ∧ Same H21 H' ∧ MState T.C_Machine H' p o 1 gs DD [u] [1 - u] ((k : Int) - 1)) ⟨_, rfl, s22, (by rw [show ((0 : Nat) : Int) - 1 = -1 by decide]; exact Mc)⟩ ?_ ?_
      · rintro k σ H23 hk ⟨y8, rfl, s23, M⟩
        have hk' : k < 261 := hk
        obtain ⟨U, E', MA, _⟩ := id M
        refine ⟨.ref p, rfl, p, o.dx, _, rfl, MA.hp, o.no_worths _, p, o, 1, gs, DD, [u], [1 - u], _, rfl, M, fun rr H24 nrr hrr s24 => ?_⟩
        have s234 := s23.trans s24
        have e0 : (0 : Int) + (k : Int) = (k : Int) := Int.zero_add _
        obtain ⟨rv, hrv, trv⟩ := tvs.at' (rowsV_at (gs := gs) (D := DD) (a := [u]) (b := [1 - u]) (k := 1 + gs.length) (show k < 260 + 2 by omega))
        obtain ⟨rw', rfl, hrw⟩ := trv.row_inv
        refine ⟨.ref r, rfl, .int (0 + (k : Int)), rfl, r, vs, _, .ref rw', rfl, rfl, SqL.of (s234 _ _ hvs), (by rw [e0]; exact atI_nat hrv), ?_⟩
        refine ne_same (d := .tuple ((rowV gs DD [u] [1 - u] (1 + gs.length) ((k : Int) - 1)).map .int)) (.tup (SqT.of hrr) (dpInts _)) (.tup (SqT.of (s234 _ _ hrw)) (dpInts _)) (shRow _) ⟨_, rfl, iteF ?_⟩
        have M4 := M.same s24
        obtain ⟨U4, E4, MA4, _⟩ := id M4
        refine ⟨.ref p, rfl, p, o.dx, _, rfl, MA4.hp, o.no_step _, p, o, 1, gs, DD, [u], [1 - u], _, rfl, M4, R, by omega, by omega, by omega, by omega, fun H25 M5 k5 => ⟨_, rfl, same_keep s234 k5 own0, ?_⟩⟩
        rw [show (((k + 1 : Nat)) : Int) - 1 = (k : Int) - 1 + 1 by omega]
        exact M5
      · rintro σ H23 ⟨y8, rfl, s23, M⟩
        rw [show (((261 : Int).toNat : Nat) : Int) - 1 = 260 by decide] at M
        have hvs' := s23 _ _ hvs
        have tvs' := tvs.same s23
        refine ⟨256, rfl, by decide, by decide, fun Z nZ => ?_⟩
        refine lc_range (lo := 0) (n := (256 : Int).toNat) (fun i H' => Same H23 (hd1 Z H') ∧ H' Z = some (.lst (List.replicate i (V.int 1))))
          ⟨hd1_of (same_upd nZ) nZ, upd_same⟩ ?_ ?_
        · rintro i H24 hi ⟨s24, hZ⟩
          have hi' : i < 256 := hi
          have k24 : Same H23 H24 := fun b o e => hd1_le _ _ (s24 b o e)
          have e0 : (0 : Int) + (i : Int) = (i : Int) := Int.zero_add _
          obtain ⟨rv, hrv, trv⟩ := (tvs'.same k24).at' (rowsV_at (gs := gs) (D := DD) (a := [u]) (b := [1 - u]) (k := 1 + gs.length) (show i < 260 + 2 by omega))
          obtain ⟨ra, rfl, hra⟩ := trv.row_inv
          obtain ⟨rv, hrv2, trv⟩ := (tvs'.same k24).at' (rowsV_at (gs := gs) (D := DD) (a := [u]) (b := [1 - u]) (k := 1 + gs.length) (show i + 1 < 260 + 2 by omega))
          obtain ⟨rb, rfl, hrb⟩ := trv.row_inv
          have w1 : ((rowV gs DD [u] [1 - u] (1 + gs.length) ((i : Int) - 1)).map V.int)[8]? = some (.int (valAt gs DD [u] [1 - u] 8 ((i : Int) - 1))) := by rw [List.getElem?_map, rowV_at (show 8 < 1 + gs.length by omega)]; rfl
          have w2 : ((rowV gs DD [u] [1 - u] (1 + gs.length) (((i + 1 : Nat) : Int) - 1)).map V.int)[8]? = some (.int (valAt gs DD [u] [1 - u] 8 (((i + 1 : Nat) : Int) - 1))) := by rw [List.getElem?_map, rowV_at (show 8 < 1 + gs.length by omega)]; rfl
          have ne : valAt gs DD [u] [1 - u] 8 ((i : Int) - 1) ≠ valAt gs DD [u] [1 - u] 8 (((i + 1 : Nat) : Int) - 1) := by
            rw [G8, G8, if_pos (show 0 ≤ ((i + 1 : Nat) : Int) - 1 ∧ ((i + 1 : Nat) : Int) - 1 < 256 by omega)]
            split <;> omega
          refine ⟨rfl, .ref r, rfl, .int (0 + (i : Int)), rfl, r, vs, _, .ref ra, rfl, rfl, SqL.of (k24 _ _ hvs'), (by rw [e0]; exact atI_nat hrv), ra, _, ((8 : Nat) : Int), _, rfl, rfl, SqT.of hra, atI_nat w1, ?_⟩
          have e1 : (0 : Int) + (i : Int) + 1 = ((i + 1 : Nat) : Int) := by push_cast; omega
          refine ⟨.ref r, rfl, .int (0 + (i : Int)), rfl, _, _, rfl, rfl, r, vs, _, .ref rb, rfl, rfl, SqL.of (k24 _ _ hvs'), (by rw [e1]; exact atI_nat hrv2), rb, _, ((8 : Nat) : Int), _, rfl, rfl, SqT.of hrb, atI_nat w2, rfl, ?_⟩
          rw [decide_eq_false (fun z => ne (V.int.inj z))]
          refine ⟨_, rfl, iteT ⟨_, hZ, ?_, s24.trans hd1_upd, ?_⟩⟩
          · rw [List.length_replicate]
            exact Nat.lt_of_lt_of_le (show i < 256 by omega) (by decide)
          · rw [upd_same, List.replicate_succ']
        · rintro H24 ⟨s24, hZ⟩
          have k24 : Same H23 H24 := fun b o e => hd1_le _ _ (s24 b o e)
          refine ⟨Z, _, rfl, .inl (SqL.of hZ), ?_⟩
          rw [List.length_replicate]
          have M4 := M.same k24
          obtain ⟨U4, E4, MA4, _⟩ := id M4
          refine ⟨rfl, true, (by show V.bl (decide (V.int ((256 : Int).toNat : Int) = V.int 256)) = _; rw [show (((256 : Int).toNat : Nat) : Int) = 256 by decide, decide_eq_true rfl]), ?_⟩
          refine iteT ⟨.ref p, rfl, p, o.dx, _, rfl, MA4.hp, o.no_time _, p, o, 1, gs, DD, [u], [1 - u], _, rfl, M4, rfl, ?_⟩
          rw [decide_eq_true rfl]
          exact q H24

end
end Gk

set_option Elab.async false
set_option linter.all false
set_option maxRecDepth 100000
set_option maxHeartbeats 1000000
set_option pp.maxSteps 1500
set_option pp.deepTerms false
namespace Gk
open PySem PySem.Spec PyProof.Rows L2
/-! ### x in a tuple of data -/
def rInT (K : PySem.W.Frag) : R2 := fun x y H Q => ∃ d ds, Dp K H x d ∧ Dp K H y (.tuple ds) ∧ SeqAt.shaped d = true ∧ SeqAt.shaped (.tuple ds) = true ∧ Q (.bl (ds.any fun z => PyData.eqv z d)) H
theorem op_inT {X : Cx} (hu : X.A.units + 65 < cLine) : OpR X (compareOp .In) (rInT X.K) := by
  intro pins s σ H x y v u Q I rx ry h
  obtain ⟨d, ds, hd, he, sd, se, q⟩ := h
  obtain ⟨as, r1⟩ := Dp.reads I d x v hd rx
  obtain ⟨bs, r2⟩ := Dp.reads I (.tuple ds) y u he ry
  exact SeqAt.in_tuple_reads r2 r1 (SeqAt.canLay_of_shaped se) (SeqAt.canLay_of_shaped sd) (room_in_shaped sd hu) ⟨.bl _, H, I, rfl, q⟩

section
variable {P : Program} {w : World} {K : PySem.W.Frag} {mg : Str → Option Value} {base : Heap}
theorem noL_dels (D : List (List Int)) : noL (delsD D) = true := noLs_map noL_row _
theorem far_at {late u v : Int} (u0 : 0 ≤ u) (u1 : u < 251) (v0 : 0 ≤ v) (v1 : v < 1501) : ∃ far : Nat, far ≤ 3000 ∧ atI [V.int (150 + u), V.int (500 + v)] (if decide (late > 5) = true then 1 else 0) = some (.int (far : Nat)) := by
  by_cases z : late > 5
  · rw [if_pos (decide_eq_true z)]
    exact ⟨(500 + v).toNat, by omega, by rw [show (((500 + v).toNat : Nat) : Int) = 500 + v by omega]; rfl⟩
  · rw [if_neg (fun y => z (of_decide_eq_true y))]
    exact ⟨(150 + u).toNat, by omega, by rw [show (((150 + u).toNat : Nat) : Int) = 150 + u by omega]; rfl⟩
structure NetR where
  m : Nat
  gs : List Gt
  D : List (List Int)
def NetR.d (x : NetR) : PyData := .tuple [netD x.m x.gs, delsD x.D]
structure NetR.Ok (x : NetR) : Prop where
  okn : NetOk x.m x.gs
  sh : Shape x.gs x.D
  nn : NonNeg x.D
  m1 : 1 ≤ x.m
  m4 : x.m ≤ 4
  g6 : x.gs.length ≤ 6
theorem noL_netR (x : NetR) : noL x.d = true := by
  show (noL (netD x.m x.gs) && (noL (delsD x.D) && true)) = true
  rw [noL_net, noL_dels]
  rfl
theorem steps_at {v : Int} (h0 : 0 ≤ v) (h1 : v < 2) : ∃ e : Nat, e ≤ 60 ∧ atI [V.int 20, V.int 60] v = some (.int (e : Nat)) := by
  have : v = 0 ∨ v = 1 := by omega
  rcases this with rfl | rfl
  · exact ⟨20, by decide, rfl⟩
  · exact ⟨60, by decide, rfl⟩
theorem most_at {v : Int} (h0 : 0 ≤ v) (h1 : v < 4) : ∃ e : Int, 0 < e ∧ e ≤ 1000000000000000000000000000000000000 ∧ atI [V.int 2, V.int 4, V.int 10, V.int (10 ^ (30 : Int).toNat + 1)] v = some (.int e) := by
  have : v = 0 ∨ v = 1 ∨ v = 2 ∨ v = 3 := by omega
  rcases this with rfl | rfl | rfl | rfl
  · exact ⟨2, by decide, by decide, rfl⟩
  · exact ⟨4, by decide, by decide, rfl⟩
  · exact ⟨10, by decide, by decide, rfl⟩
  · exact ⟨10 ^ (30 : Int).toNat + 1, by decide, by decide, rfl⟩
theorem Many.more {C A : Addr} {H : Hp} {F : List Addr} {e : Nat} {L : List Mr} (h : Many C H F e L) (nA : H A = none) : Many C H (A :: F) e L :=
  ⟨h.run, fun i j x y hi hj q hq => by
    obtain ⟨a1, a2, a3⟩ := h.sep i j x y hi hj q hq
    refine ⟨fun z => ?_, a2, a3⟩
    rcases List.mem_cons.mp z with rfl | z
    · obtain ⟨m, gs, D, a, b, vs, R⟩ := h.run x (List.mem_of_getElem? hi)
      obtain ⟨u, hu, _⟩ := R.st.own_at _ hq
      rw [nA] at hu
      cases hu
    · exact a1 z, fun x hx z => by
    rcases List.mem_cons.mp z with z | z
    · obtain ⟨m, gs, D, a, b, vs, R⟩ := h.run x hx
      have := R.hr
      rw [z, nA] at this
      cases this
    · exact h.rF x hx z⟩
theorem Many.add2 {C : Addr} {H H1 H2 : Hp} {F : List Addr} {e : Nat} {L : List Mr} (h : Many C H F e L) (k1 : KeepO F H H1) (t1 : Ts H H1) (k2 : KeepO F H1 H2) (t2 : Ts H1 H2) {x : Mr} {m : Nat} {gs : List Gt} {D : List (List Int)} {a b : List Int} {vs : List V} (R : RunAt C H2 e x m gs D a b vs) (n1 : ∀ q ∈ x.own, H q = none) (o1 : ∀ q ∈ x.own, ∃ y, H1 q = some y) (nr : H1 x.r = none) (hF : ∀ q ∈ F, ∃ y, H q = some y) (hF1 : ∀ q ∈ F, ∃ y, H1 q = some y) : Many C H2 F e (L ++ [x]) := by
  have h2 := (h.keep k1 t1).keep k2 t2
  have old : ∀ y ∈ L, ∀ q ∈ y.own, ∃ u, H q = some u := fun y hy q hq => by
    obtain ⟨m, gs, D, a, b, vs, R⟩ := h.run y hy
    obtain ⟨u, hu, _⟩ := R.st.own_at q hq
    exact ⟨u, hu⟩
  have oldr : ∀ y ∈ L, ∃ u, H y.r = some u := fun y hy => by
    obtain ⟨m, gs, D, a, b, vs, R⟩ := h.run y hy
    exact ⟨_, R.hr⟩
  have nr0 : H x.r = none := by
    cases z : H x.r with
    | none => rfl
    | some u =>
      by_cases y : x.r ∈ F
      · obtain ⟨u', hu'⟩ := hF1 _ y
        rw [nr] at hu'
        cases hu'
      · have := k1 _ _ y z
        rw [nr] at this
        cases this
  have split : ∀ (i : Nat) (y : Mr), (L ++ [x])[i]? = some y → (y ∈ L ∧ L[i]? = some y) ∨ (i = L.length ∧ y = x) := fun i y hi => by
    by_cases z : i < L.length
    · rw [List.getElem?_append_left z] at hi
      exact .inl ⟨List.mem_of_getElem? hi, hi⟩
    · have il := (List.getElem?_eq_some_iff.mp hi).1
      rw [List.length_append] at il
      have ei : i = L.length := by simp at il; omega
      subst ei
      rw [List.getElem?_append_right (Nat.le_refl _), Nat.sub_self] at hi
      exact .inr ⟨rfl, (Option.some.inj hi).symm⟩
  refine ⟨fun y hy => ?_, fun i j y z hi hj q hq => ?_, fun y hy => ?_⟩
  · rcases List.mem_append.mp hy with hy | hy
    · exact h2.run y hy
    · rw [List.mem_singleton.mp hy]
      exact ⟨m, gs, D, a, b, vs, R⟩
  · rcases split i y hi with ⟨yL, hi'⟩ | ⟨ei, rfl⟩ <;> rcases split j z hj with ⟨zL, hj'⟩ | ⟨ej, rfl⟩
    · exact h.sep i j y z hi' hj' q hq
    · obtain ⟨u, hu⟩ := old y yL q hq
      exact ⟨h.own yL q hq, ne_of_none hu nr0, fun _ k => by rw [n1 q k] at hu; cases hu⟩
    · have nq := n1 q hq
      obtain ⟨v, hv⟩ := oldr z zL
      refine ⟨fun k => ?_, (ne_of_none hv nq).symm, fun _ k => ?_⟩
      · obtain ⟨u, hu⟩ := hF q k
        rw [nq] at hu
        cases hu
      · obtain ⟨u, hu⟩ := old z zL q k
        rw [nq] at hu
        cases hu
    · have nq := n1 q hq
      obtain ⟨u, hu⟩ := o1 q hq
      refine ⟨fun k => ?_, ne_of_none hu nr, fun k => absurd (ei.trans ej.symm) k⟩
      obtain ⟨u, hu⟩ := hF q k
      rw [nq] at hu
      cases hu
  · rcases List.mem_append.mp hy with hy | hy
    · exact h.rF y hy
    · rw [List.mem_singleton.mp hy]
      intro k
      obtain ⟨u, hu⟩ := hF _ k
      rw [nr0] at hu
      cases hu
theorem many_nil {C : Addr} {H : Hp} {F : List Addr} {e : Nat} : Many C H F e [] := ⟨fun x h => (List.not_mem_nil h).elim, fun i j x y h => by simp at h, fun x h => (List.not_mem_nil h).elim⟩
theorem set_same {α : Type} {l : List α} {k : Nat} {v : α} (h : l[k]? = some v) : l.set k v = l := by
  refine List.ext_getElem? fun i => ?_
  by_cases z : i = k
  · subst z
    rw [List.getElem?_set_self (List.getElem?_eq_some_iff.mp h).1, h]
  · rw [List.getElem?_set_ne (fun q => z q.symm)]
theorem mem_at {L : List Mr} {k : Nat} (h : k < L.length) : ∃ x, L[k]? = some x := ⟨_, List.getElem?_eq_getElem h⟩
theorem DeckF.keepO {H H' : Hp} {O : List Addr} {d l : Addr} {n : Int} (D : DeckF H d l n) (k : KeepO O H H') (hd : d ∉ O) (hl : l ∉ O) : DeckF H' d l n := by
  obtain ⟨ne, cs, y, z, e1, e2, r⟩ := D
  exact ⟨ne, cs, y, z, k _ _ hd e1, k _ _ hl e2, r⟩
def sp_law (K : PySem.W.Frag) (Ps : List Addr) : Sp := fun vs H Q _ => ∃ (a : Addr) (ns : List Int), vs = [.ref a] ∧ SqL K H a (ns.map V.int) ∧ ns.length ≤ 63 ∧ Tabs H Ps ∧ ∀ H', Q (.bl true) H'
theorem ok_law (T : Tx K mg) (B : Tb base T) : FnG P w K mg base CX0 10 T.f_law T.fd_law ["_law_script"] (sp_law K T.tabs) := by
  refine okG0 T.F_law sc_law (fun vs H Q E h => ?_) (fun cdv A outer s H vs Q E nothing hr h => ?_)
  · obtain ⟨a, ns, rfl, _⟩ := h
    rfl
  · obtain ⟨a, ns, rfl, hS, hlen, tabs, q⟩ := h
    refine ⟨_, (pss_cons (ps_set (i := 1) sc_law.nd rfl (by first | exact .inl rfl | exact .inr rfl) (pe_call (ok_deck T) (hr.mono (by decide)) (by rfl) T.g_deck T.F_deck.kp T.b_deck .nil pass0 (pa_cons (pv 0) pa_nil))) (pss_cons (ps_set (i := 2) sc_law.nd rfl (by first | exact .inl rfl | exact .inr rfl) (pe_call (ok_draw T) (hr.mono (by decide)) (by rfl) T.g_draw T.F_draw.kp T.b_draw .nil pass0 (pa_cons (pv 1) (pa_cons pe_int pa_nil)))) (pss_cons (ps_set (i := 3) sc_law.nd rfl (by first | exact .inl rfl | exact .inr rfl) (pe_ix ix_list (pe_lst (pa_cons (pe_op op_add pe_int (pe_call (ok_draw T) (hr.mono (by decide)) (by rfl) T.g_draw T.F_draw.kp T.b_draw .nil pass0 (pa_cons (pv 1) (pa_cons pe_int pa_nil)))) (pa_cons (pe_op op_add pe_int (pe_call (ok_draw T) (hr.mono (by decide)) (by rfl) T.g_draw T.F_draw.kp T.b_draw .nil pass0 (pa_cons (pv 1) (pa_cons pe_int pa_nil)))) pa_nil))) (pe_callTy call_int1 (by rfl) T.m_int (by decide +kernel) (pa_cons (pe_cmpR op_gt (pv 2) pe_int (nomark _)) pa_nil)) (fun _ _ => rfl))) (C8.pss_cut (ps_if (pw_and (pt_cmpR (op_inT (units65 hr)) (pv 2) (pe_tup (pa_cons pe_int (pa_cons pe_int (pa_cons pe_int pa_nil)))) rfl) (pw_and1 (pt_not (pt_val (pe_call (ok_comes_late T) (hr.mono (by decide)) (by rfl) T.g_comes_late T.F_comes_late.kp T.b_comes_late .nil pass0 (pa_cons (pv 1) (pa_cons (pv 3) pa_nil))))))).pt (pss_one (ps_ret pe_bl)) pss_nil) (pss_cons (ps_set (i := 4) sc_law.nd rfl (by first | exact .inl rfl | exact .inr rfl) (pe_ix ix_list (pe_lst (pa_cons pe_int (pa_cons pe_int pa_nil))) (pe_call (ok_draw T) (hr.mono (by decide)) (by rfl) T.g_draw T.F_draw.kp T.b_draw .nil pass0 (pa_cons (pv 1) (pa_cons pe_int pa_nil))) (fun _ _ => rfl))) (pss_cons (ps_set (i := 5) sc_law.nd rfl (by first | exact .inl rfl | exact .inr rfl) (pe_lst pa_nil)) (pss_cons (ps_for PassesOwn.never rfl (pi_range1 (by rfl) T.m_range (pa_cons pe_int pa_nil)) (pg_name (i := 6) sc_law.nd rfl (by first | exact .inl rfl | exact .inr rfl)) (pss_cons (ps_set (i := 7) sc_law.nd rfl (by first | exact .inl rfl | exact .inr rfl) (pe_cmpR op_eq (pe_call (ok_draw T) (hr.mono (by decide)) (by rfl) T.g_draw T.F_draw.kp T.b_draw .nil pass0 (pa_cons (pv 1) (pa_cons pe_int pa_nil))) pe_int (nomark _))) (pss_cons (ps_set (i := 8) sc_law.nd rfl (by first | exact .inl rfl | exact .inr rfl) (pe_call (ok_net T) (hr.mono (by decide)) (by rfl) T.g_net T.F_net.kp T.b_net .nil pass0 (pa_cons (pv 1) (pa_cons (pe_op op_add pe_int (pe_call (ok_draw T) (hr.mono (by decide)) (by rfl) T.g_draw T.F_draw.kp T.b_draw .nil pass0 (pa_cons (pv 1) (pa_cons pe_int pa_nil)))) (pa_cons (pv 7) pa_nil))))) (pss_cons (ps_set (i := 9) sc_law.nd rfl (by first | exact .inl rfl | exact .inr rfl) (pe_call (ok_delays T) (hr.mono (by decide)) (by rfl) T.g_delays T.F_delays.kp T.b_delays .nil pass0 (pa_cons (pv 1) (pa_cons (pv 8) (pa_cons (pe_ix ix_list (pe_lst (pa_cons pe_int (pa_cons pe_int (pa_cons pe_int (pa_cons (pe_op op_add (pe_op op_pow pe_int pe_int) pe_int) pa_nil))))) (pe_call (ok_draw T) (hr.mono (by decide)) (by rfl) T.g_draw T.F_draw.kp T.b_draw .nil pass0 (pa_cons (pv 1) (pa_cons pe_int pa_nil))) (fun _ _ => rfl)) pa_nil))))) (pss_one (ps_expr (pe_bm PySem.F.plainAttrs_list PySem.F.slot_list_append PySem.F.type_list_append mt_append (pv 5) (pa_cons (pe_tup (pa_cons (pv 8) (pa_cons (pe_callTy call_tuple_of (by rfl) T.m_tuple (by decide +kernel) (pa_cons (pe_lc (own := [("_law_part", 17)]) (by rfl) sc_law.nd (pi_tup (pv 9)) (blkOk_by (own := [("_law_part", 17)]) (N := ["_law_script", "_law_deck_here", "_law_late", "_law_far", "_law_steps", "_law_made", "_law_turn", "_law_formula", "_law_net_here", "_law_delays_here", "_law_machines", "_law_rows_here", "_law_change", "_law_ats", "_law_k", "_law_held", "_law_j", "_law_part", "_law_one"]) (sc := defScope s_law) (by decide +kernel)) (fun _ _ _ _ _ => (pg_name (i := 17) sc_law.nd rfl (by first | exact .inl rfl | exact .inr rfl))) (fun _ _ _ _ _ => pts_nil) (fun _ _ _ _ _ => (pe_callTy (show CallR _ _ (rTupK K) from call_tuple_of) (by rfl) T.m_tuple (by decide +kernel) (pa_cons (pe_lc (own := [("_law_one", 18)]) (by rfl) sc_law.nd (show PI _ _ _ (iTup K _) from pi_tup (pv 17)) (blkOk_by (own := [("_law_one", 18)]) (N := ["_law_script", "_law_deck_here", "_law_late", "_law_far", "_law_steps", "_law_made", "_law_turn", "_law_formula", "_law_net_here", "_law_delays_here", "_law_machines", "_law_rows_here", "_law_change", "_law_ats", "_law_k", "_law_held", "_law_j", "_law_part", "_law_one"]) (sc := { kind := PySem.ScopeKind.function, names := [ (PySem.Str.ofString ".0", PySem.NameKind.local), (PySem.Str.ofString "_law_part", PySem.NameKind.local), (PySem.Str.ofString "tuple", PySem.NameKind.globalImplicit)], isGenerator := false, isCoroutine := false, more := [] : PySem.Scope }) (by decide +kernel)) (fun _ _ _ _ _ => (pg_name (i := 18) sc_law.nd rfl (by first | exact .inl rfl | exact .inr rfl))) (fun _ _ _ _ _ => pts_nil) (fun _ _ _ _ _ => (pe_call (ok_near T) (hr.mono (by decide)) (by rfl) T.g_near T.F_near.kp T.b_near .nil pass0 (pa_cons (pv 18) pa_nil)))) pa_nil)))) pa_nil)) pa_nil))) pa_nil)))))))) (pss_cons (ps_expr (pe_bm PySem.F.plainAttrs_list PySem.F.slot_list_append PySem.F.type_list_append mt_append (pv 5) (pa_cons (pe_ix ix_list (pv 5) pe_int (fun _ _ => rfl)) pa_nil))) (pss_cons (ps_set (i := 10) sc_law.nd rfl (by first | exact .inl rfl | exact .inr rfl) (pe_lst pa_nil)) (pss_cons (ps_set (i := 11) sc_law.nd rfl (by first | exact .inl rfl | exact .inr rfl) (pe_lst pa_nil)) (pss_cons (ps_for PassesOwn.never rfl (pi_list (pv 5)) (pg_tup rfl (pgs_cons (pg_name (i := 8) sc_law.nd rfl (by first | exact .inl rfl | exact .inr rfl)) (pgs_cons (pg_name (i := 9) sc_law.nd rfl (by first | exact .inl rfl | exact .inr rfl)) pgs_nil))) (pss_cons (ps_set (i := 12) sc_law.nd rfl (by first | exact .inl rfl | exact .inr rfl) (pe_call (ok_rows T) (hr.mono (by decide)) (by rfl) T.g_rows T.F_rows.kp T.b_rows .nil pass0 (pa_cons (pv 1) (pa_cons (pe_ix ix_tup (pv 8) pe_int (fun _ _ => rfl)) pa_nil)))) (pss_cons (ps_expr (pe_bm PySem.F.plainAttrs_list PySem.F.slot_list_append PySem.F.type_list_append mt_append (pv 10) (pa_cons (pe_make T.mk_Machine (ok_Machine___init__ T) (hr.mono (by decide)) (by rfl) T.gC_Machine T.b_Machine___init__ .nil pass0 (pa_cons (pv 8) (pa_cons (pv 9) (pa_cons (pv 12) pa_nil)))) pa_nil))) (pss_one (ps_expr (pe_bm PySem.F.plainAttrs_list PySem.F.slot_list_append PySem.F.type_list_append mt_append (pv 11) (pa_cons (pe_call (ok_slow T) (hr.mono (by decide)) (by rfl) T.g_slow T.F_slow.kp T.b_slow .nil pass0 (pa_cons (pv 8) (pa_cons (pv 9) (pa_cons (pv 12) (pa_cons (pv 4) pa_nil))))) pa_nil))))))) (pss_cons (ps_set (i := 13) sc_law.nd rfl (by first | exact .inl rfl | exact .inr rfl) (pe_lst (pa_cons pe_int (pa_cons pe_int (pa_cons pe_int pa_nil))))) (pss_cons (ps_for PassesOwn.never rfl (pi_range1 (by rfl) T.m_range (pa_cons (pv 4) pa_nil)) (pg_name (i := 6) sc_law.nd rfl (by first | exact .inl rfl | exact .inr rfl)) (pss_cons (ps_set (i := 14) sc_law.nd rfl (by first | exact .inl rfl | exact .inr rfl) (pe_call (ok_draw T) (hr.mono (by decide)) (by rfl) T.g_draw T.F_draw.kp T.b_draw .nil pass0 (pa_cons (pv 1) (pa_cons pe_int pa_nil)))) (pss_cons (ps_if (pt_cmpR (NeL.op_neN hr.units) (pe_lc (own := [("_law_j", 16)]) (by rfl) sc_law.nd (pi_range1 (by rfl) T.m_range (pa_cons pe_int pa_nil)) (blkOk_by (own := [("_law_j", 16)]) (N := ["_law_script", "_law_deck_here", "_law_late", "_law_far", "_law_steps", "_law_made", "_law_turn", "_law_formula", "_law_net_here", "_law_delays_here", "_law_machines", "_law_rows_here", "_law_change", "_law_ats", "_law_k", "_law_held", "_law_j", "_law_part", "_law_one"]) (sc := defScope s_law) (by decide +kernel)) (fun _ _ _ _ _ => (pg_name (i := 16) sc_law.nd rfl (by first | exact .inl rfl | exact .inr rfl))) (fun _ _ _ _ _ => (pts_one (pt_not (pt_val (pe_callG (ok_is_at T) nothing (hr.mono (by decide)) (by rfl) T.g_is_at T.F_is_at.kp T.b_is_at .nil pass0 (pa_cons (pe_ix (show IxR _ (rIxL K) from ix_list) (pv 10) (pv 16) (fun _ _ => rfl)) (pa_cons (pe_ix (show IxR _ (rIxL K) from ix_list) (pv 11) (pv 16) (fun _ _ => rfl)) (pa_cons (pe_ix (show IxR _ (rIxL K) from ix_list) (pv 13) (pv 16) (fun _ _ => rfl)) pa_nil)))))))) (fun _ _ _ _ _ => pe_int)) (pe_lst pa_nil) (nomark _)) (pss_one (ps_ret pe_bl)) pss_nil) (pss_cons (ps_set (i := 15) sc_law.nd rfl (by first | exact .inl rfl | exact .inr rfl) (pe_meth0 (pe_ix ix_list (pv 10) (pv 14) (fun _ _ => rfl)) T.cl_Machine T.me_Machine_worths (ok_Machine_worths T) (hr.mono (by decide)) T.b_Machine_worths .nil pass0)) (pss_cons (ps_if (pt_cmpR op_notN (pe_meth0 (pe_ix ix_list (pv 10) (pv 14) (fun _ _ => rfl)) T.cl_Machine T.me_Machine_step (ok_Machine_step T) (hr.mono (by decide)) T.b_Machine_step .nil pass0) pe_non (nomark _)) (pss_one (ps_ret pe_bl)) pss_nil) (pss_cons (ps_if (pt_cmpR (op_neD hr.units) (pv 15) (pe_ix ix_list (pe_ix ix_list (pv 11) (pv 14) (fun _ _ => rfl)) (pe_ix ix_list (pv 13) (pv 14) (fun _ _ => rfl)) (fun _ _ => rfl)) (nomark _)) (pss_one (ps_ret pe_bl)) pss_nil) (pss_one (ps_asg (pe_op op_add (pe_ix ix_list (pv 13) (pv 14) (fun _ _ => rfl)) pe_int) (pg_sub (pv 13) (pv 14) set_list))))))))) (pss_cons (ps_if (pt_cmpR (NeL.op_neN hr.units) (pe_lc (own := [("_law_j", 16)]) (by rfl) sc_law.nd (pi_range1 (by rfl) T.m_range (pa_cons pe_int pa_nil)) (blkOk_by (own := [("_law_j", 16)]) (N := ["_law_script", "_law_deck_here", "_law_late", "_law_far", "_law_steps", "_law_made", "_law_turn", "_law_formula", "_law_net_here", "_law_delays_here", "_law_machines", "_law_rows_here", "_law_change", "_law_ats", "_law_k", "_law_held", "_law_j", "_law_part", "_law_one"]) (sc := defScope s_law) (by decide +kernel)) (fun _ _ _ _ _ => (pg_name (i := 16) sc_law.nd rfl (by first | exact .inl rfl | exact .inr rfl))) (fun _ _ _ _ _ => (pts_one (pt_not (pt_val (pe_callG (ok_is_at T) nothing (hr.mono (by decide)) (by rfl) T.g_is_at T.F_is_at.kp T.b_is_at .nil pass0 (pa_cons (pe_ix (show IxR _ (rIxL K) from ix_list) (pv 10) (pv 16) (fun _ _ => rfl)) (pa_cons (pe_ix (show IxR _ (rIxL K) from ix_list) (pv 11) (pv 16) (fun _ _ => rfl)) (pa_cons (pe_ix (show IxR _ (rIxL K) from ix_list) (pv 13) (pv 16) (fun _ _ => rfl)) pa_nil)))))))) (fun _ _ _ _ _ => pe_int)) (pe_lst pa_nil) (nomark _)) (pss_one (ps_ret pe_bl)) pss_nil) (pss_one (ps_ret (pe_call (ok_goes_on T) (hr.mono (by decide)) (by rfl) T.g_goes_on T.F_goes_on.kp T.b_goes_on .nil pass0 (pa_cons (pv 1) pa_nil)))))))))))))))))), ?_⟩
    refine ⟨.ref a, rfl, a, ns, rfl, hS, hlen, fun H1 d l s1 D1 => ?_⟩
    refine ⟨.ref d, rfl, d, l, 8, _, rfl, D1, by omega, by decide, by decide, fun H2 late D2 fr2 la0 la1 => ?_⟩
    refine ⟨.ref d, rfl, d, l, 251, _, rfl, D2, by omega, by decide, by decide, fun H3 u D3 fr3 u0 u1 => ⟨_, _, rfl, rfl, ?_⟩⟩
    refine ⟨.ref d, rfl, d, l, 1501, _, rfl, D3, by omega, by decide, by decide, fun H4 v D4 fr4 v0 v1 => ⟨_, _, rfl, rfl, ?_⟩⟩
    refine ⟨sl2, fun p np => ?_⟩
    have s5 := same_upd (o := (HO.lst [V.int (150 + u), V.int (500 + v)])) np
    have h5 : upd H4 p (HO.lst [V.int (150 + u), V.int (500 + v)]) p = some (HO.lst [V.int (150 + u), V.int (500 + v)]) := upd_same
    generalize upd H4 p (HO.lst [V.int (150 + u), V.int (500 + v)]) = H5 at s5 h5 ⊢
    obtain ⟨far, f3, hat⟩ := far_at (late := late) u0 u1 v0 v1
    refine ⟨.int late, rfl, _, _, rfl, rfl, .inr ⟨_, rfl, p, _, _, .int (far : Nat), rfl, rfl, SqL.of h5, hat, ?_⟩⟩
    have D5 := D4.same s5
    have fr5 : Fr d l H1 H5 := ((fr2.trans fr3).trans fr4).trans (Fr.of s5)
    refine ⟨fun σ H' => σ = [some (.ref a), some (.ref d), some (.int late), some (.int (far : Nat)), none, none, none, none, none, none, none, none, none, none, none, none, none, none, none] ∧ DeckF H' d l 500, ?_, ?_⟩
    · refine ⟨.int late, rfl, sl3, fun p6 np6 => ?_⟩
      have s6 := same_upd (o := (HO.tup [V.int 3, V.int 6, V.int 7])) np6
      have h6 : upd H5 p6 (HO.tup [V.int 3, V.int 6, V.int 7]) p6 = some (HO.tup [V.int 3, V.int 6, V.int 7]) := upd_same
      generalize upd H5 p6 (HO.tup [V.int 3, V.int 6, V.int 7]) = H6 at s6 h6 ⊢
      have D6 := D5.same s6
      refine ⟨.int late, [.int 3, .int 6, .int 7], .int late, .tup (SqT.of h6) (dpInts [3, 6, 7]), rfl, rfl, ?_⟩
      refine ⟨_, rfl, ite2 (fun _ => ?_) (fun _ => iteF ⟨rfl, D6.mono (by omega)⟩)⟩
      exact ⟨.ref d, rfl, .int (far : Nat), rfl, d, l, _, far, rfl, D6, by omega, by omega, fun H7 D7 fr7 => ⟨true, rfl, iteF ⟨rfl, D7.mono (by omega)⟩⟩⟩
    rintro σ H6 ⟨rfl, D6⟩
    refine ⟨sl2, fun p8 np8 => ?_⟩
    have o8 := D6.off np8
    have s7 := same_upd (o := (HO.lst [V.int 20, V.int 60])) np8
    have h7 : upd H6 p8 (HO.lst [V.int 20, V.int 60]) p8 = some (HO.lst [V.int 20, V.int 60]) := upd_same
    generalize upd H6 p8 (HO.lst [V.int 20, V.int 60]) = H7 at s7 h7 ⊢
    have D7 := D6.same s7
    refine ⟨.ref d, rfl, d, l, 2, _, rfl, D7, by omega, by decide, by decide, fun H8 v8 D8 fr8 v80 v81 => ?_⟩
    obtain ⟨e, e60, hat8⟩ := steps_at v80 v81
    refine ⟨p8, _, v8, .int (e : Nat), rfl, rfl, SqL.of (fr8 _ _ o8.1 o8.2 h7), hat8, ?_⟩
    refine ⟨Nat.zero_le _, fun M nM => ?_⟩
    have oM := D8.off nM
    have s9 := same_upd (o := (HO.lst [])) nM
    have hM : upd H8 M (HO.lst []) M = some (HO.lst []) := upd_same
    generalize upd H8 M (HO.lst []) = H9 at s9 hM ⊢
    have D9 := D8.same s9
    refine ⟨2, rfl, by decide, by decide, ?_⟩
    refine for_range (lo := 0) (n := (2 : Int).toNat) (fun i σ H' => ∃ y6 y7 y8 y9 vs X, σ = [some (.ref a), some (.ref d), some (.int late), some (.int (far : Nat)), some (.int (e : Nat)), some (.ref M), y6, y7, y8, y9, none, none, none, none, none, none, none, none, none] ∧ DeckF H' d l (532 + 6000 * i) ∧ H' M = some (.lst vs) ∧ TkAll H' vs (X.map NetR.d) ∧ X.length = i ∧ ∀ x ∈ X, NetR.Ok x)
      ⟨_, _, _, _, [], [], rfl, D9.mono (by omega), hM, .nil, rfl, fun x hx => by cases hx⟩ ?_ ?_
    · rintro i σ H10 hi ⟨y6, y7, y8, y9, vs, X, rfl, D10, hM10, tX, lX, okX⟩
      have hi' : i < 2 := hi
      refine ⟨.ref d, rfl, d, l, 2, _, rfl, D10, by omega, by decide, by decide, fun H11 f D11 fr11 f0 f1 => ⟨rfl, ?_⟩⟩
      have hM11 := fr11 _ _ oM.1 oM.2 hM10
      have tX11 := tX.ts (Ts.frF D10 fr11) (noLs_map noL_netR _)
      generalize decide (V.int f = V.int 1) = fo
      refine ⟨.ref d, rfl, .ref d, rfl, d, l, 6, _, rfl, D11, by omega, by decide, by decide, fun H12 x D12 fr12 x0 x1 => ⟨_, _, rfl, rfl, _, rfl, ?_⟩⟩
      have hM12 := fr12 _ _ oM.1 oM.2 hM11
      have tX12 := tX11.ts (Ts.frF D11 fr12) (noLs_map noL_netR _)
      obtain ⟨c, hc, c1, c6⟩ : ∃ c : Nat, 1 + x = (c : Int) ∧ 1 ≤ c ∧ c ≤ 6 := ⟨(1 + x).toNat, by omega, by omega, by omega⟩
      refine ⟨d, l, _, c, fo, (by show [V.ref d, V.int (1 + x), V.bl fo] = _; rw [hc]), D12, by omega, c1, by omega, fun r H13 m gs D13 fr13 tn m1 m4 lg okn => ?_⟩
      have hM13 := fr13 _ _ oM.1 oM.2 hM12
      have tX13 := tX12.ts (Ts.frF D12 fr13) (noLs_map noL_netR _)
      refine ⟨.ref d, rfl, .ref r, rfl, _, _, rfl, rfl, ⟨by decide, by decide, by decide⟩, _, _, rfl, rfl, sl4, fun p2 np2 => ?_⟩
      have op2 := D13.off np2
      have s14 := same_upd (o := (HO.lst [V.int 2, .int 4, .int 10, .int (10 ^ (30 : Int).toNat + 1)])) np2
      have hp14 : upd H13 p2 (HO.lst [V.int 2, .int 4, .int 10, .int (10 ^ (30 : Int).toNat + 1)]) p2 = some (HO.lst [V.int 2, .int 4, .int 10, .int (10 ^ (30 : Int).toNat + 1)]) := upd_same
      generalize upd H13 p2 (HO.lst [V.int 2, .int 4, .int 10, .int (10 ^ (30 : Int).toNat + 1)]) = H14 at s14 hp14 ⊢
      have D14 := D13.same s14
      refine ⟨.ref d, rfl, d, l, 4, _, rfl, D14, by omega, by decide, by decide, fun H15 v2 D15 fr15 w0 w1 => ?_⟩
      obtain ⟨most, mo0, mo6, hmost⟩ := most_at w0 w1
      have tn15 := (tn.same s14).ts (Ts.frF D14 fr15) (noL_net _ _)
      have hM15 := fr15 _ _ oM.1 oM.2 (s14 _ _ hM13)
      have tX15 := (tX13.same s14).ts (Ts.frF D14 fr15) (noLs_map noL_netR _)
      refine ⟨p2, _, v2, .int most, rfl, rfl, SqL.of (fr15 _ _ op2.1 op2.2 hp14), hmost, d, l, _, .ref r, m, gs, most, rfl, D15, by omega, tn15, okn, by omega, mo0, mo6, fun r2 H16 DD D16 fr16 td sh okD => ?_⟩
      have tn16 := tn15.ts (Ts.frF D15 fr16) (noL_net _ _)
      have hM16 := fr16 _ _ oM.1 oM.2 hM15
      have tX16 := tX15.ts (Ts.frF D15 fr16) (noLs_map noL_netR _)
      obtain ⟨da, ds, ed, hd, tds⟩ := td.tup_inv
      cases ed
      have lds : ds.length = DD.length := by rw [tds.length, List.length_map]
      have lDD := sh.1
      refine ⟨.ref M, rfl, .inl ⟨rfl, _, SqL.of hM16⟩, .ref r, rfl, .ref r2, rfl, r2, rfl, ⟨_, SqT.of hd⟩, fun W nW => ?_⟩
      refine lc_tup (g := gName 17) (K := K) (a := r2) (xs := ds) (fun i H' => Same H16 (hd1 W H') ∧ ∃ vs, H' W = some (.lst vs) ∧ ∃ E : List (List Int), E.length = i ∧ TkAll H' vs (E.map rowD) ∧ ∀ (j : Nat) d e, DD[j]? = some d → E[j]? = some e → e.length = d.length ∧ ∀ y ∈ e, 0 ≤ y) ⟨hd1_of (same_upd nW) nW, [], upd_same, [], rfl, .nil, fun j d e _ h => by cases h⟩ (fun i H' _ z => SqT.of (hd1_le _ _ (z.1 _ _ hd))) ?_ ?_
      · rintro i v H2 hv ⟨s2, vs, hW2, E, lE, tv2, okE⟩
        obtain ⟨dd, hdd, tdd⟩ := tds.at hv
        obtain ⟨dl, rfl, hdl⟩ := tdd.row_inv
        have hi := (List.getElem?_eq_some_iff.mp hdd).1
        have ddm := List.mem_of_getElem? hdd
        have ld3 : dd.length ≤ 3 := by
          have hgl : i < gs.length := by omega
          rw [sh.2 i _ dd (List.getElem?_eq_getElem hgl) hdd]
          exact (okn i _ (List.getElem?_eq_getElem hgl)).2.2.1
        have k2 : ∀ {b o}, H16 b = some o → H2 b = some o := fun e => hd1_le _ _ (s2 _ _ e)
        have lvs : vs.length = i := by rw [tv2.length, List.length_map, lE]
        refine ⟨rfl, .ref dl, rfl, dl, rfl, ⟨_, SqT.of (k2 hdl)⟩, fun C nC => ?_⟩
        have WC : W ≠ C := ne_of_none hW2 nC
        refine lc_tup (g := gName 18) (K := K) (a := dl) (xs := dd.map V.int) (fun j H' => Same H2 (hd1 C H') ∧ ∃ ys : List Int, H' C = some (.lst (ys.map V.int)) ∧ ys.length = j ∧ ∀ y ∈ ys, 0 ≤ y) ⟨hd1_of (same_upd nC) nC, [], upd_same, rfl, fun y h => by cases h⟩ (fun j H' _ z => SqT.of (hd1_le _ _ (z.1 _ _ (k2 hdl)))) ?_ ?_
        · rintro j v H4 hv ⟨s4, ys, hC4, lys, ysn⟩
          obtain ⟨x, hx, rfl⟩ := vint_at hv
          have hj := (List.getElem?_eq_some_iff.mp hx).1
          have okx := okD dd ddm x (List.mem_of_getElem? hx)
          refine ⟨rfl, .int x, rfl, x, rfl, okx.1, fun y y0 => ⟨_, hC4, ?_, s4.trans hd1_upd, ys ++ [y], ?_, by rw [List.length_append, lys]; rfl, fun z hz => ?_⟩⟩
          · rw [List.length_map]
            exact Nat.lt_of_le_of_lt (show ys.length ≤ 3 by omega) (by decide)
          · rw [upd_same, List.map_append]
            rfl
          · rcases List.mem_append.mp hz with k | k
            · exact ysn z k
            · rw [List.mem_singleton.mp k]
              exact y0
        · rintro H4 ⟨s4, ys, hC4, lys, ysn⟩
          rw [List.length_map] at lys
          have s24 : Same H2 H4 := fun b o e => hd1_le _ _ (s4 b o e)
          have hW4 := s24 _ _ hW2
          refine ⟨C, _, rfl, .inl ⟨SqL.of hC4, fun tp ntp => ?_⟩⟩
          have s5' := same_upd (o := (HO.tup (ys.map V.int))) ntp
          have h5' : upd H4 tp (HO.tup (ys.map V.int)) tp = some (HO.tup (ys.map V.int)) := upd_same
          generalize upd H4 tp (HO.tup (ys.map V.int)) = H5' at s5' h5' ⊢
          have sA := s24.trans s5'
          have hW5 := s5' _ _ hW4
          have ts := Ts.set (ys := vs ++ [V.ref tp]) hW5
          refine ⟨_, hW5, ?_, (s2.trans (hd1_same sA)).trans hd1_upd, _, upd_same, E ++ [ys], by rw [List.length_append, lE]; rfl, ?_, fun j d0 e0 h1 h2 => ?_⟩
          · exact Nat.lt_of_lt_of_le (show vs.length < 200 by omega) (by decide)
          · rw [List.map_append]
            exact ((tv2.same sA).ts ts (noLs_map noL_row _)).append (.cons (.tup (ts _ _ h5') (TkAll.ints _)) .nil)
          · by_cases z : j < E.length
            · rw [List.getElem?_append_left z] at h2
              exact okE j d0 e0 h1 h2
            · have jl := (List.getElem?_eq_some_iff.mp h2).1
              rw [List.length_append] at jl
              have ej : j = E.length := by simp at jl; omega
              subst ej
              rw [List.getElem?_append_right (Nat.le_refl _), Nat.sub_self] at h2
              cases Option.some.inj h2
              rw [lE] at h1
              cases Option.some.inj (hdd.symm.trans h1)
              exact ⟨lys, ysn⟩
      rintro H17 ⟨s17, us, hW17, E, lE, tE, okE⟩
      have k17 : Same H16 H17 := fun b o e => hd1_le _ _ (s17 b o e)
      refine ⟨W, _, rfl, .inl ⟨SqL.of hW17, fun tp ntp => ?_⟩⟩
      have s18 := same_upd (o := (HO.tup us)) ntp
      have h18 : upd H17 tp (HO.tup us) tp = some (HO.tup us) := upd_same
      generalize upd H17 tp (HO.tup us) = H18 at s18 h18 ⊢
      refine ⟨sl2, fun tq ntq => ?_⟩
      have s19 := same_upd (o := (HO.tup [V.ref r, V.ref tp])) ntq
      have h19 : upd H18 tq (HO.tup [V.ref r, V.ref tp]) tq = some (HO.tup [V.ref r, V.ref tp]) := upd_same
      generalize upd H18 tq (HO.tup [V.ref r, V.ref tp]) = H19 at s19 h19 ⊢
      have sA := k17.trans (s18.trans s19)
      have hM19 := sA _ _ hM16
      have ts := Ts.set (ys := vs ++ [V.ref tq]) hM19
      have lvs : vs.length = i := by rw [tX.length, List.length_map, lX]
      have tE19 : Tk H19 (.ref tp) (delsD E) := .tup (s19 _ _ h18) (tE.same (s18.trans s19))
      have okx : NetR.Ok ⟨m, gs, E⟩ := ⟨okn, ⟨by show E.length = gs.length; omega, fun g gt e0 h1 h2 => by
        have hgl : g < E.length := (List.getElem?_eq_some_iff.mp h2).1
        have : g < DD.length := by omega
        rw [(okE g _ e0 (List.getElem?_eq_getElem this) h2).1]
        exact sh.2 g gt _ h1 (List.getElem?_eq_getElem this)⟩, fun dd hd' y hy => by
        obtain ⟨g, hg⟩ := List.getElem?_of_mem hd'
        have hgl : g < E.length := (List.getElem?_eq_some_iff.mp hg).1
        have : g < DD.length := by omega
        exact (okE g _ dd (List.getElem?_eq_getElem this) hg).2 y hy, m1, m4, by show gs.length ≤ 6; omega⟩
      refine ⟨M, _, _, rfl, rfl, hM19, ?_, _, _, _, _, vs ++ [.ref tq], X ++ [⟨m, gs, E⟩], rfl, (((D16.same sA).upd oM.1 oM.2).mono (by push_cast; omega)), upd_same, ?_, by rw [List.length_append, lX]; rfl, fun x hx => ?_⟩
      · exact Nat.lt_of_lt_of_le (show vs.length < 64 by omega) (by decide)
      · rw [List.map_append]
        exact ((tX16.same sA).ts ts (noLs_map noL_netR _)).append (.cons ((Tk.tup h19 (.cons (tn16.same sA) (.cons tE19 .nil))).ts ts (noL_netR ⟨m, gs, E⟩)) .nil)
      · rcases List.mem_append.mp hx with k | k
        · exact okX x k
        · rw [List.mem_singleton.mp k]
          exact okx
    · rintro σ H10 ⟨y6, y7, y8, y9, vs, X, rfl, D10, hM10, tX, lX, okX⟩
      have lX2 : X.length = 2 := lX
      obtain ⟨x0, x1, rfl⟩ : ∃ x0 x1, X = [x0, x1] := by
        match X, lX2 with
        | [p, q], _ => exact ⟨p, q, rfl⟩
      have okX' : ∀ x ∈ [x0, x1, x0], NetR.Ok x := fun x hx => by
        rcases List.mem_cons.mp hx with rfl | hx
        · exact okX _ List.mem_cons_self
        · rcases List.mem_cons.mp hx with rfl | hx
          · exact okX _ (List.mem_cons_of_mem _ List.mem_cons_self)
          · rw [List.mem_singleton.mp hx]
            exact okX _ List.mem_cons_self
      have lvs : vs.length = 2 := by rw [tX.length]; rfl
      obtain ⟨v0, hv0, tv0⟩ := tX.at' (j := 0) (x := x0) rfl
      refine ⟨.ref M, rfl, .inl ⟨rfl, _, SqL.of hM10⟩, .ref M, rfl, M, vs, ((0 : Nat) : Int), v0, rfl, rfl, SqL.of hM10, atI_nat hv0, M, _, _, rfl, rfl, hM10, Nat.lt_of_lt_of_le (show vs.length < 64 by omega) (by decide), ?_⟩
      have ts10 := Ts.set (ys := vs ++ [v0]) hM10
      have tX11 : TkAll (upd H10 M (.lst (vs ++ [v0]))) (vs ++ [v0]) ([x0, x1, x0].map NetR.d) := (tX.ts ts10 (noLs_map noL_netR _)).append (.cons (tv0.ts ts10 (noL_netR _)) .nil)
      have D11 := D10.upd (o := .lst (vs ++ [v0])) oM.1 oM.2
      have hM11 : upd H10 M (.lst (vs ++ [v0])) M = some (.lst (vs ++ [v0])) := upd_same
      generalize upd H10 M (.lst (vs ++ [v0])) = H11 at tX11 D11 hM11 ⊢
      refine ⟨Nat.zero_le _, fun Z nZ => ?_⟩
      have oZ := D11.off nZ
      have s12 := same_upd (o := (HO.lst [])) nZ
      have hZ : upd H11 Z (HO.lst []) Z = some (HO.lst []) := upd_same
      generalize upd H11 Z (HO.lst []) = H12 at s12 hZ ⊢
      refine ⟨Nat.zero_le _, fun R nR => ?_⟩
      have oR := (D11.same s12).off nR
      have ZR : Z ≠ R := ne_of_none hZ nR
      have s13 := same_upd (o := (HO.lst [])) nR
      have hR : upd H12 R (HO.lst []) R = some (HO.lst []) := upd_same
      generalize upd H12 R (HO.lst []) = H13 at s13 hR ⊢
      have D13 := D11.same (s12.trans s13)
      have hM13 := s13 _ _ (s12 _ _ hM11)
      have tX13 := tX11.same (s12.trans s13)
      have hZ13 := s13 _ _ hZ
      have MZ : M ≠ Z := ne_of_none hM11 nZ
      have MR : M ≠ R := ne_of_none (s12 _ _ hM11) nR
      refine ⟨.ref M, rfl, M, rfl, ⟨_, SqL.of hM13⟩, ?_⟩
      refine for_list (K := K) (a := M) (xs := vs ++ [v0]) (fun i σ H' => ∃ y8 y9 y12 L, σ = [some (.ref a), some (.ref d), some (.int late), some (.int (far : Nat)), some (.int (e : Nat)), some (.ref M), y6, y7, y8, y9, some (.ref Z), some (.ref R), y12, none, none, none, none, none, none] ∧ DeckF H' d l (13000 + 1000 * i) ∧ H' M = some (.lst (vs ++ [v0])) ∧ TkAll H' (vs ++ [v0]) ([x0, x1, x0].map NetR.d) ∧ H' Z = some (.lst (L.map fun x : Mr => V.ref x.p)) ∧ H' R = some (.lst (L.map fun x : Mr => V.ref x.r)) ∧ Many T.C_Machine H' [d, l, Z, R] e L ∧ L.length = i ∧ ∀ x ∈ L, x.t = 0)
        ⟨_, _, _, [], rfl, D13.mono (by decide), hM13, tX13, hZ13, hR, many_nil, rfl, fun x h => by cases h⟩ (fun i σ H' _ ⟨_, _, _, _, _, _, z, _⟩ => SqL.of z) ?_ ?_
      · rintro i v σ H14 hv ⟨y8, y9, y12, L, rfl, D14, hM14, tX14, hZ14, hR14, many, lL, tL⟩
        have hi : i < 3 := by
          have := (List.getElem?_eq_some_iff.mp hv).1
          rw [List.length_append, lvs] at this
          exact this
        obtain ⟨x, hx, tx⟩ := tX14.at hv
        have okx := okX' x (List.mem_of_getElem? hx)
        obtain ⟨tq, zs, eq, hq, tzs⟩ := Tk.tup_inv (ds := [netD x.m x.gs, delsD x.D]) tx
        cases eq
        obtain ⟨nv, dv, rfl, tn, td⟩ : ∃ nv dv, zs = [nv, dv] ∧ Tk H14 nv (netD x.m x.gs) ∧ Tk H14 dv (delsD x.D) := by
          match zs, tzs with
          | [nv, dv], .cons tn (.cons td .nil) => exact ⟨nv, dv, rfl, tn, td⟩
        obtain ⟨okn, sh, nn, m1, m4, g6⟩ := id okx
        obtain ⟨n, g, gsx, rfl, hn, hg, tg⟩ := tn.net_inv
        refine ⟨tq, _, rfl, SqT.of hq, rfl, _, _, rfl, _, _, rfl, rfl, ?_⟩
        refine ⟨.ref d, rfl, .ref n, rfl, n, _, 0, .int x.m, rfl, rfl, SqT.of hn, rfl, d, l, _, x.m, rfl, D14, by omega, by omega, fun r3 H15 a' b' D15 fr15 tc la lb ha hb => ?_⟩
        have ts15 := Ts.frF D14 fr15
        have tn15 := tn.ts ts15 (noL_net _ _)
        have td15 := td.ts ts15 (noL_dels _)
        have hM15 := fr15 _ _ oM.1 oM.2 hM14
        have tX15 := tX14.ts ts15 (noLs_map noL_netR _)
        have hZ15 := fr15 _ _ oZ.1 oZ.2 hZ14
        have hR15 := fr15 _ _ oR.1 oR.2 hR14
        have many15 := many.keep (KeepO.fr fr15 (by simp) (by simp)) ts15
        have RO : RunOk x.m x.gs x.D a' b' := ⟨okn, sh, nn, la, lb, ha, hb⟩
        refine ⟨.ref Z, rfl, .inl ⟨rfl, _, SqL.of hZ15⟩, .ref n, rfl, dv, rfl, .ref r3, rfl, fun p dx np ndx nex => ?_⟩
        have s0 : Same H15 (upd (upd H15 dx (.own p)) p (.ins T.C_Machine dx [])) := fun b' o e => by
          rw [upd_ne (ne_of_none e np), upd_ne (ne_of_none e ndx)]
          exact e
        refine ⟨H15, p, dx, .ref n, dv, .ref r3, x.m, x.gs, x.D, a', b', rfl, s0, np, upd_same, tn15, td15, tc, RO, by omega, by omega, fun H16 o Mc s16 own0 => ⟨rfl, ?_⟩⟩
        have hZ16 := s16 _ _ hZ15
        refine ⟨Z, _, _, rfl, rfl, hZ16, Nat.lt_of_lt_of_le (show (L.map fun x : Mr => V.ref x.p).length < 64 by rw [List.length_map]; omega) (by decide), ?_⟩
        have k16 : KeepO [Z, R] H16 (upd H16 Z (.lst ((L.map fun x : Mr => V.ref x.p) ++ [V.ref p]))) := KeepO.upd (by simp)
        have ts16 := Ts.set (ys := (L.map fun x : Mr => V.ref x.p) ++ [V.ref p]) hZ16
        have D17 := (D15.same s16).upd (o := .lst ((L.map fun x : Mr => V.ref x.p) ++ [V.ref p])) oZ.1 oZ.2
        have hZ17 : upd H16 Z (.lst ((L.map fun x : Mr => V.ref x.p) ++ [V.ref p])) Z = some (.lst ((L.map fun x : Mr => V.ref x.p) ++ [V.ref p])) := upd_same
        have hM17 : upd H16 Z (.lst ((L.map fun x : Mr => V.ref x.p) ++ [V.ref p])) M = _ := (upd_ne MZ).trans (s16 _ _ hM15)
        have hR17 : upd H16 Z (.lst ((L.map fun x : Mr => V.ref x.p) ++ [V.ref p])) R = _ := (upd_ne ZR.symm).trans (s16 _ _ hR15)
        generalize upd H16 Z (.lst ((L.map fun x : Mr => V.ref x.p) ++ [V.ref p])) = H17 at k16 ts16 D17 hZ17 hM17 hR17 ⊢
        have ts1 : Ts H15 H17 := (Ts.same s16).trans ts16
        have tc17 := tc.ts ts1 (noL_ch _ _)
        refine ⟨.ref R, rfl, .inl ⟨rfl, _, SqL.of hR17⟩, .ref n, rfl, dv, rfl, .ref r3, rfl, .int (e : Nat), rfl, .ref n, dv, .ref r3, x.m, x.gs, x.D, a', b', e, rfl, tn15.ts ts1 (noL_net _ _), td15.ts ts1 (noL_dels _), tc17, RO, by omega, by omega, by omega, fun r4 H18 ws nr4 s18 hws tws => ?_⟩
        have hR18 := s18 _ _ hR17
        refine ⟨R, _, _, rfl, rfl, hR18, Nat.lt_of_lt_of_le (show (L.map fun x : Mr => V.ref x.r).length < 64 by rw [List.length_map]; omega) (by decide), ?_⟩
        have k18 : KeepO [Z, R] H18 (upd H18 R (.lst ((L.map fun x : Mr => V.ref x.r) ++ [V.ref r4]))) := KeepO.upd (by simp)
        have ts18 := Ts.set (ys := (L.map fun x : Mr => V.ref x.r) ++ [V.ref r4]) hR18
        have D19 := (D17.same s18).upd (o := .lst ((L.map fun x : Mr => V.ref x.r) ++ [V.ref r4])) oR.1 oR.2
        have hR19 : upd H18 R (.lst ((L.map fun x : Mr => V.ref x.r) ++ [V.ref r4])) R = some (.lst ((L.map fun x : Mr => V.ref x.r) ++ [V.ref r4])) := upd_same
        have hM19 : upd H18 R (.lst ((L.map fun x : Mr => V.ref x.r) ++ [V.ref r4])) M = _ := (upd_ne MR).trans (s18 _ _ hM17)
        have hZ19 : upd H18 R (.lst ((L.map fun x : Mr => V.ref x.r) ++ [V.ref r4])) Z = _ := (upd_ne ZR).trans (s18 _ _ hZ17)
        have hws19 : upd H18 R (.lst ((L.map fun x : Mr => V.ref x.r) ++ [V.ref r4])) r4 = _ := (upd_ne (ne_of_none hR17 nr4).symm).trans hws
        generalize upd H18 R (.lst ((L.map fun x : Mr => V.ref x.r) ++ [V.ref r4])) = H19 at k18 ts18 D19 hR19 hM19 hZ19 hws19 ⊢
        have sub : ∀ q ∈ [Z, R], q ∈ [d, l, Z, R] := fun q hq => List.mem_cons_of_mem _ (List.mem_cons_of_mem _ hq)
        have oldZ : ∀ q ∈ o.own p, q ∉ [Z, R] := fun q hq z => by
          have := own0 q hq
          rcases List.mem_cons.mp z with rfl | z
          · rw [hZ15] at this; cases this
          · rw [List.mem_singleton.mp z, hR15] at this; cases this
        have Mc17 := Mc.keep k16 ts16 oldZ
        have kB : KeepO [Z, R] H17 H19 := (KeepO.of s18).trans k18
        have tB : Ts H17 H19 := (Ts.same s18).trans ts18
        have Mc19 := Mc17.keep kB tB oldZ
        have ts02 : Ts H15 H19 := ts1.trans tB
        have RA : RunAt T.C_Machine H19 e ⟨p, r4, o, 0⟩ x.m x.gs x.D a' b' ws := ⟨Mc19, RO, m4, g6, hws19, tws.ts ts18 (noLs_map noL_row _)⟩
        have ex : ∀ {H : Hp} {n : Int} {xs ys : List V}, DeckF H d l n → H Z = some (.lst xs) → H R = some (.lst ys) → ∀ q ∈ [d, l, Z, R], ∃ y, H q = some y := fun D h1 h2 q hq => by
          obtain ⟨_, cs, y, z, e1, e2, _⟩ := D
          simp only [List.mem_cons, List.not_mem_nil, or_false] at hq
          rcases hq with rfl | rfl | rfl | rfl
          · exact ⟨_, e1⟩
          · exact ⟨_, e2⟩
          · exact ⟨_, h1⟩
          · exact ⟨_, h2⟩
        have many19 := many15.add2 (((KeepO.of s16).trans k16).mono sub) ts1 (kB.mono sub) tB RA own0 (fun q hq => by
          obtain ⟨u, hu, _⟩ := Mc17.own_at q hq
          exact ⟨u, hu⟩) nr4 (ex D15 hZ15 hR15) (ex D17 hZ17 hR17)
        refine ⟨_, _, _, L ++ [⟨p, r4, o, 0⟩], rfl, D19.mono (by push_cast; omega), hM19, tX15.ts ts02 (noLs_map noL_netR _), ?_, ?_, many19, by rw [List.length_append, lL]; rfl, fun y hy => ?_⟩
        · rw [hZ19, List.map_append]
          rfl
        · rw [hR19, List.map_append]
          rfl
        · rcases List.mem_append.mp hy with k | k
          · exact tL y k
          · rw [List.mem_singleton.mp k]
      · rintro σ H14 ⟨y8, y9, y12, L, rfl, D14, hM14, tX14, hZ14, hR14, many, lL, tL⟩
        have lL : L.length = 3 := by rw [lL, List.length_append, lvs]; rfl
        have D14 : DeckF H14 d l 16000 := D14.mono (by rw [List.length_append, lvs]; show 13000 + 1000 * ((3 : Nat) : Int) ≤ 16000; decide)
        refine ⟨sl3, fun A nA => ?_⟩
        have oA := D14.off nA
        have ZA : Z ≠ A := ne_of_none hZ14 nA
        have RA' : R ≠ A := ne_of_none hR14 nA
        have manyA := many.more nA
        have s15 := same_upd (o := (HO.lst [V.int 0, V.int 0, V.int 0])) nA
        have hA : upd H14 A (HO.lst [V.int 0, V.int 0, V.int 0]) A = some (HO.lst [V.int 0, V.int 0, V.int 0]) := upd_same
        generalize upd H14 A (HO.lst [V.int 0, V.int 0, V.int 0]) = H15 at s15 hA ⊢
        have hA : H15 A = some (.lst (L.map fun x : Mr => V.int x.t)) := by
          rw [hA]
          match L, lL, tL with
          | [x, y, z], _, tL => rw [List.map_cons, List.map_cons, List.map_cons, tL x (by simp), tL y (by simp), tL z (by simp)]; rfl
        have many15 := manyA.same s15
        have hZ15 := s15 _ _ hZ14
        have hR15 := s15 _ _ hR14
        have D15 := D14.same s15
        have elt : (e : Int).toNat = e := by omega
        refine ⟨.int (e : Nat), rfl, e, rfl, by omega, by omega, for_range (lo := 0) (n := (e : Int).toNat) (fun i σ H' => ∃ y6 y14 y15 L, σ = [some (.ref a), some (.ref d), some (.int late), some (.int (far : Nat)), some (.int (e : Nat)), some (.ref M), y6, y7, y8, y9, some (.ref Z), some (.ref R), y12, some (.ref A), y14, y15, none, none, none] ∧ DeckF H' d l (16000 + 100 * i) ∧ H' Z = some (.lst (L.map fun x : Mr => V.ref x.p)) ∧ H' R = some (.lst (L.map fun x : Mr => V.ref x.r)) ∧ H' A = some (.lst (L.map fun x : Mr => V.int x.t)) ∧ Many T.C_Machine H' (A :: [d, l, Z, R]) e L ∧ L.length = 3 ∧ ∀ x ∈ L, x.t ≤ i)
          ⟨_, _, _, L, rfl, D15.mono (by decide), hZ15, hR15, hA, many15, lL, fun x hx => by rw [tL x hx]; exact Nat.le_refl _⟩ ?_ ?_⟩
        · rintro i σ H16 hi ⟨y6, y14, y15, L, rfl, D16, hZ16, hR16, hA16, many, lL, tL⟩
          have hi' : i < e := by omega
          refine ⟨.ref d, rfl, d, l, 3, _, rfl, D16, by omega, by decide, by decide, fun H17 k D17 fr17 k0 k1 => ?_⟩
          obtain ⟨k, rfl⟩ := Int.eq_ofNat_of_zero_le k0
          have k3 : k < 3 := by omega
          have many17 := many.keep (KeepO.fr fr17 (by simp) (by simp)) (Ts.frF D16 fr17)
          have hZ17 := fr17 _ _ oZ.1 oZ.2 hZ16
          have hR17 := fr17 _ _ oR.1 oR.2 hR16
          have hA17 := fr17 _ _ oA.1 oA.2 hA16
          refine ⟨3, rfl, by decide, by decide, fun C nC => ?_⟩
          refine lc_range (lo := 0) (n := (3 : Int).toNat) (fun j H' => Same H17 (hd1 C H') ∧ H' C = some (.lst [])) ⟨hd1_of (same_upd nC) nC, upd_same⟩ ?_ ?_
          · rintro j H18 hj ⟨s18, hC⟩
            have hj' : j < 3 := hj
            have k18 : Same H17 H18 := fun b o e => hd1_le _ _ (s18 b o e)
            obtain ⟨x, hx⟩ := mem_at (L := L) (k := j) (by omega)
            obtain ⟨m, gs, D, a', b', ws, RA⟩ := (many17.same k18).run x (List.mem_of_getElem? hx)
            have e0 : (0 : Int) + (j : Int) = (j : Int) := Int.zero_add _
            rw [e0]
            refine ⟨rfl, .ref Z, rfl, .int (j : Nat), rfl, Z, _, ((j : Nat) : Int), .ref x.p, rfl, rfl, SqL.of (k18 _ _ hZ17), atI_nat (by rw [List.getElem?_map, hx]; rfl), .ref R, rfl, .int (j : Nat), rfl, R, _, ((j : Nat) : Int), .ref x.r, rfl, rfl, SqL.of (k18 _ _ hR17), atI_nat (by rw [List.getElem?_map, hx]; rfl), .ref A, rfl, .int (j : Nat), rfl, A, _, ((j : Nat) : Int), .int x.t, rfl, rfl, SqL.of (k18 _ _ hA17), atI_nat (by rw [List.getElem?_map, hx]; rfl), ?_⟩
            exact ⟨x, e, m, gs, D, a', b', ws, rfl, RA, e60, by have := tL x (List.mem_of_getElem? hx); omega, fun H19 s19 => ⟨true, rfl, iteF ⟨s18.trans (hd1_same s19), s19 _ _ hC⟩⟩⟩
          rintro H18 ⟨s18, hC⟩
          have k18 : Same H17 H18 := fun b o e => hd1_le _ _ (s18 b o e)
          refine ⟨Nat.zero_le _, fun E nE => ?_⟩
          have s19 := same_upd (o := (HO.lst [])) nE
          have hE : upd H18 E (HO.lst []) E = some (HO.lst []) := upd_same
          generalize upd H18 E (HO.lst []) = H19 at s19 hE ⊢
          refine ⟨C, E, [], rfl, rfl, SqL.of (s19 _ _ hC), SqL.of hE, _, rfl, iteF ?_⟩
          have kA := k18.trans s19
          have many19 := many17.same kA
          have hZ19 := kA _ _ hZ17
          have hR19 := kA _ _ hR17
          have hA19 := kA _ _ hA17
          obtain ⟨x, hx⟩ := mem_at (L := L) (k := k) (by omega)
          have tx := tL x (List.mem_of_getElem? hx)
          obtain ⟨m, gs, D, a', b', ws, RA⟩ := many19.run x (List.mem_of_getElem? hx)
          obtain ⟨U, E', MA, _⟩ := id RA.st
          refine ⟨.ref Z, rfl, .int (k : Nat), rfl, Z, _, ((k : Nat) : Int), .ref x.p, rfl, rfl, SqL.of hZ19, atI_nat (by rw [List.getElem?_map, hx]; rfl), ?_⟩
          refine ⟨x.p, x.o.dx, _, rfl, MA.hp, x.o.no_worths _, x.p, x.o, m, gs, D, a', b', _, rfl, RA.st, fun rr H20 nrr hrr s20 => ?_⟩
          have many20 := many19.same s20
          have RA20 := RA.keep (O := []) (KeepO.of s20) (Ts.same s20) (fun q _ h => by cases h) (fun h => by cases h)
          obtain ⟨U2, E2, MA2, _⟩ := id RA20.st
          refine ⟨.ref Z, rfl, .int (k : Nat), rfl, Z, _, ((k : Nat) : Int), .ref x.p, rfl, rfl, SqL.of (s20 _ _ hZ19), atI_nat (by rw [List.getElem?_map, hx]; rfl), ?_⟩
          refine ⟨x.p, x.o.dx, _, rfl, MA2.hp, x.o.no_step _, x.p, x.o, m, gs, D, a', b', _, rfl, RA20.st, RA20.R, by omega, by omega, by have := RA20.m4; omega, by have := RA20.g6; omega, fun H21 st21 ke21 => ?_⟩
          rw [show (x.t : Int) - 1 + 1 = (x.t : Int) by omega] at st21
          obtain ⟨RA21, many21⟩ := many20.step hx RA20 st21 ke21
          have off21 : ∀ q ∈ A :: [d, l, Z, R], q ∉ x.own := fun q hq z => many20.own (List.mem_of_getElem? hx) q z hq
          have hZ21 := ke21 _ _ (off21 _ (by simp)) (s20 _ _ hZ19)
          have hR21 := ke21 _ _ (off21 _ (by simp)) (s20 _ _ hR19)
          have hA21 := ke21 _ _ (off21 _ (by simp)) (s20 _ _ hA19)
          refine ⟨rfl, _, rfl, iteF ?_⟩
          have ts21 := ts_keep ke21 RA20.st.own_at
          obtain ⟨rv, hrv, trv⟩ := RA21.tv.at' (rowsV_at (gs := gs) (D := D) (a := a') (b := b') (k := m + gs.length) (show x.t < e + 2 by omega))
          obtain ⟨rw', rfl, hrw⟩ := trv.row_inv
          have ex : ∀ v : V, (L.map fun x : Mr => V.ref x.r)[k]? = some v ↔ v = .ref x.r := fun v => by rw [List.getElem?_map, hx]; exact ⟨fun z => (Option.some.inj z).symm, fun z => by rw [z]; rfl⟩
          refine ⟨.ref rr, rfl, .ref R, rfl, .int (k : Nat), rfl, R, _, ((k : Nat) : Int), .ref x.r, rfl, rfl, SqL.of hR21, atI_nat ((ex _).mpr rfl), .ref A, rfl, .int (k : Nat), rfl, A, _, ((k : Nat) : Int), .int x.t, rfl, rfl, SqL.of hA21, atI_nat (by rw [List.getElem?_map, hx]; rfl), x.r, _, ((x.t : Nat) : Int), .ref rw', rfl, rfl, SqL.of RA21.hr, atI_nat hrv, ?_⟩
          refine ne_same (d := .tuple ((rowV gs D a' b' (m + gs.length) ((x.t : Int) - 1)).map .int)) (.tup (SqT.of (ts21 _ _ hrr)) (dpInts _)) (.tup (SqT.of hrw) (dpInts _)) (shRow _) ⟨_, rfl, iteF ?_⟩
          have At : (L.map fun x : Mr => V.int x.t)[k]? = some (.int x.t) := by rw [List.getElem?_map, hx]; rfl
          refine ⟨.ref A, rfl, .int (k : Nat), rfl, A, _, ((k : Nat) : Int), .int x.t, rfl, rfl, SqL.of hA21, atI_nat At, _, _, rfl, rfl, .ref A, rfl, .int (k : Nat), rfl, A, _, _, k, rfl, rfl, hA21, ixN_k (by rw [List.length_map]; omega), ?_⟩
          have D21 := (D17.same (kA.trans s20))
          have D21 : DeckF H21 d l _ := D21.keepO ke21 (off21 _ (by simp)) (off21 _ (by simp))
          refine ⟨_, _, _, L.set k { x with t := x.t + 1 }, rfl, (D21.upd oA.1 oA.2).mono (by push_cast; omega), ?_, ?_, ?_, many21.keep (KeepO.upd (by simp)) (Ts.set hA21), by rw [List.length_set]; exact lL, fun y hy => ?_⟩
          · rw [upd_ne ZA, hZ21, List.map_set, set_same (by rw [List.getElem?_map, hx]; rfl)]
          · rw [upd_ne RA', hR21, List.map_set, set_same (by rw [List.getElem?_map, hx]; rfl)]
          · rw [upd_same, List.map_set]
            congr 3
          · rcases List.mem_or_eq_of_mem_set hy with z | z
            · exact Nat.le_succ_of_le (tL y z)
            · rw [z]
              exact Nat.succ_le_succ tx
        · rintro σ H16 ⟨y6, y14, y15, L, rfl, D16, hZ16, hR16, hA16, many, lL, tL⟩
          refine ⟨3, rfl, by decide, by decide, fun C nC => ?_⟩
          refine lc_range (lo := 0) (n := (3 : Int).toNat) (fun j H' => Same H16 (hd1 C H') ∧ H' C = some (.lst [])) ⟨hd1_of (same_upd nC) nC, upd_same⟩ ?_ ?_
          · rintro j H18 hj ⟨s18, hC⟩
            have hj' : j < 3 := hj
            have k18 : Same H16 H18 := fun b o e => hd1_le _ _ (s18 b o e)
            obtain ⟨x, hx⟩ := mem_at (L := L) (k := j) (by omega)
            obtain ⟨m, gs, D, a', b', ws, RA⟩ := (many.same k18).run x (List.mem_of_getElem? hx)
            have e0 : (0 : Int) + (j : Int) = (j : Int) := Int.zero_add _
            rw [e0]
            refine ⟨rfl, .ref Z, rfl, .int (j : Nat), rfl, Z, _, ((j : Nat) : Int), .ref x.p, rfl, rfl, SqL.of (k18 _ _ hZ16), atI_nat (by rw [List.getElem?_map, hx]; rfl), .ref R, rfl, .int (j : Nat), rfl, R, _, ((j : Nat) : Int), .ref x.r, rfl, rfl, SqL.of (k18 _ _ hR16), atI_nat (by rw [List.getElem?_map, hx]; rfl), .ref A, rfl, .int (j : Nat), rfl, A, _, ((j : Nat) : Int), .int x.t, rfl, rfl, SqL.of (k18 _ _ hA16), atI_nat (by rw [List.getElem?_map, hx]; rfl), ?_⟩
            exact ⟨x, e, m, gs, D, a', b', ws, rfl, RA, e60, by have := tL x (List.mem_of_getElem? hx); have ee : (e : Int).toNat = e := (by omega); exact Nat.le_trans this (Nat.le_of_eq ee), fun H19 s19 => ⟨true, rfl, iteF ⟨s18.trans (hd1_same s19), s19 _ _ hC⟩⟩⟩
          rintro H18 ⟨s18, hC⟩
          have k18 : Same H16 H18 := fun b o e => hd1_le _ _ (s18 b o e)
          refine ⟨Nat.zero_le _, fun E nE => ?_⟩
          have s19 := same_upd (o := (HO.lst [])) nE
          have hE : upd H18 E (HO.lst []) E = some (HO.lst []) := upd_same
          generalize upd H18 E (HO.lst []) = H19 at s19 hE ⊢
          refine ⟨C, E, [], rfl, rfl, SqL.of (s19 _ _ hC), SqL.of hE, _, rfl, iteF ?_⟩
          exact ⟨.ref d, rfl, d, l, _, rfl, D16.same (k18.trans s19), by omega, fun H' => q H'⟩

end
def d_table_worth : He.DefD := ⟨("table_worth", none), "table_worth", "table_worth", defArgs s_table_worth, defBody s_table_worth, defScope s_table_worth, [], []⟩
def d_settled : He.DefD := ⟨("settled", none), "settled", "settled", defArgs s_settled, defBody s_settled, defScope s_settled, [], []⟩
def d_Machine___init__ : He.DefD := ⟨("Machine", some "__init__"), "__init__", "Machine.__init__", defArgs s_Machine___init__, defBody s_Machine___init__, defScope s_Machine___init__, [], []⟩
def d_Machine_time : He.DefD := ⟨("Machine", some "time"), "time", "Machine.time", defArgs s_Machine_time, defBody s_Machine_time, defScope s_Machine_time, [], []⟩
def d_Machine_worths : He.DefD := ⟨("Machine", some "worths"), "worths", "Machine.worths", defArgs s_Machine_worths, defBody s_Machine_worths, defScope s_Machine_worths, [], []⟩
def d_Machine_step : He.DefD := ⟨("Machine", some "step"), "step", "Machine.step", defArgs s_Machine_step, defBody s_Machine_step, defScope s_Machine_step, [], []⟩
def d_Machine_worth_read : He.DefD := ⟨("Machine", some "worth_read"), "worth_read", "Machine.worth_read", defArgs s_Machine_worth_read, defBody s_Machine_worth_read, defScope s_Machine_worth_read, [], []⟩
def d_Machine_set_level : He.DefD := ⟨("Machine", some "set_level"), "set_level", "Machine.set_level", defArgs s_Machine_set_level, defBody s_Machine_set_level, defScope s_Machine_set_level, [], []⟩
def d_mixed : He.DefD := ⟨("_law_mixed", none), "_law_mixed", "_law_mixed", defArgs s_mixed, defBody s_mixed, defScope s_mixed, [], []⟩
def d_deck : He.DefD := ⟨("_law_deck", none), "_law_deck", "_law_deck", defArgs s_deck, defBody s_deck, defScope s_deck, [], []⟩
def d_draw : He.DefD := ⟨("_law_draw", none), "_law_draw", "_law_draw", defArgs s_draw, defBody s_draw, defScope s_draw, [], []⟩
def d_table : He.DefD := ⟨("_law_table", none), "_law_table", "_law_table", defArgs s_table, defBody s_table, defScope s_table, [], []⟩
def d_net : He.DefD := ⟨("_law_net", none), "_law_net", "_law_net", defArgs s_net, defBody s_net, defScope s_net, [], []⟩
def d_rows : He.DefD := ⟨("_law_rows", none), "_law_rows", "_law_rows", defArgs s_rows, defBody s_rows, defScope s_rows, [], []⟩
def d_delays : He.DefD := ⟨("_law_delays", none), "_law_delays", "_law_delays", defArgs s_delays, defBody s_delays, defScope s_delays, [], []⟩
def d_slow : He.DefD := ⟨("_law_slow", none), "_law_slow", "_law_slow", defArgs s_slow, defBody s_slow, defScope s_slow, [], []⟩
def d_is_at : He.DefD := ⟨("_law_is_at", none), "_law_is_at", "_law_is_at", defArgs s_is_at, defBody s_is_at, defScope s_is_at, [], []⟩
def d_near : He.DefD := ⟨("_law_near", none), "_law_near", "_law_near", defArgs s_near, defBody s_near, defScope s_near, [], []⟩
def d_goes_on : He.DefD := ⟨("_law_goes_on", none), "_law_goes_on", "_law_goes_on", defArgs s_goes_on, defBody s_goes_on, defScope s_goes_on, [], []⟩
def d_comes_late : He.DefD := ⟨("_law_comes_late", none), "_law_comes_late", "_law_comes_late", defArgs s_comes_late, defBody s_comes_late, defScope s_comes_late, [], []⟩
def d_law : He.DefD := ⟨("law", none), "law", "law", defArgs s_law, defBody s_law, defScope s_law, [], []⟩
def fn : List He.DefD := [d_table_worth, d_settled, d_Machine___init__, d_Machine_time, d_Machine_worths, d_Machine_step, d_Machine_worth_read, d_Machine_set_level, d_mixed, d_deck, d_draw, d_table, d_net, d_rows, d_delays, d_slow, d_is_at, d_near, d_goes_on, d_comes_late, d_law]
def fa : List He.Fa := [.glo "table_worth", .glo "settled", .meth "Machine" "__init__", .meth "Machine" "time", .meth "Machine" "worths", .meth "Machine" "step", .meth "Machine" "worth_read", .meth "Machine" "set_level", .glo "_law_mixed", .glo "_law_deck", .glo "_law_draw", .glo "_law_table", .glo "_law_net", .glo "_law_rows", .glo "_law_delays", .glo "_law_slow", .glo "_law_is_at", .glo "_law_near", .glo "_law_goes_on", .glo "_law_comes_late", .glo "law", .free "enumerate", .free "int", .free "len", .free "list", .free "max", .free "min", .free "range", .free "repr", .free "sum", .free "tuple", .free "zip", .glo "Machine", .cls "Machine", .mkr "Machine", .noat "Machine" "delays", .noat "Machine" "firsts", .noat "Machine" "gates", .noat "Machine" "goal", .noat "Machine" "heard", .noat "Machine" "levels", .noat "Machine" "now", .noat "Machine" "turns"]
def tf : List He.Defn := []
abbrev RR : PySem.W.OpenRow := PySem.W.OpenLaw.row PySem.Challenge.rw_glitchnet_k11_machines
def yes : PySem.W.Frag → Bool := fun _ => true
abbrev hk : PySem.W.Hook := He.hookX 4 fa fn [] tf yes
def ob (s : PySem.W.SharedT) : He.AlX := He.obsX 4 fa fn [] tf yes (HandSHeadRun.getT s)
theorem ob_eq (s : PySem.W.SharedT) : ob s = hk.obs s.abs := He.obsX_eq (HandSHeadRun.getT_eq s)
theorem run (w : World) : HandSHeadRun.RunEq RR (PySem.W.view RR.prog [18]) hk ob 3000 [("table_worth" : PySem.Str), ("settled" : PySem.Str), ("Machine" : PySem.Str), ("_law_mixed" : PySem.Str), ("_law_deck" : PySem.Str), ("_law_draw" : PySem.Str), ("_law_table" : PySem.Str), ("_law_net" : PySem.Str), ("_law_rows" : PySem.Str), ("_law_delays" : PySem.Str), ("_law_slow" : PySem.Str), ("_law_is_at" : PySem.Str), ("_law_near" : PySem.Str), ("_law_goes_on" : PySem.Str), ("_law_comes_late" : PySem.Str)] w := by
  intro os
  kernel_rfl
theorem facts {w : World} {K : PySem.W.Frag} {h : Heap} {mg : Str → Option Value} {f : Addr} (X : K.In h) (G : h.Ns mainGlobals mg) (hfa : mg ("law" : Str) = some (.ref f)) (c : He.SaysX fa fn [] tf yes w h K) : LawAtG PySem.Challenge.rw_glitchnet_k11_machines w K CX0 10 63 "_law_script" mg f h := by
  obtain ⟨fd0, D0⟩ := c.t.d.def_ 0 (d := d_table_worth) rfl
  have F0 : Fun K "table_worth" "table_worth" s_table_worth (He.fAd K ("table_worth", none)) fd0 := fun_of D0
  have b0 := F0.binds (ps := ["table", "worths"]) fun _ _ _ _ _ _ us hl => match us, hl with | [_, _], _ => rfl
  obtain ⟨fd1, D1⟩ := c.t.d.def_ 1 (d := d_settled) rfl
  have F1 : Fun K "settled" "settled" s_settled (He.fAd K ("settled", none)) fd1 := fun_of D1
  have b1 := F1.binds (ps := ["net", "row"]) fun _ _ _ _ _ _ us hl => match us, hl with | [_, _], _ => rfl
  obtain ⟨fd2, D2⟩ := c.t.d.def_ 2 (d := d_Machine___init__) rfl
  have F2 : Fun K "__init__" "Machine.__init__" s_Machine___init__ (He.fAd K ("Machine", some "__init__")) fd2 := fun_of D2
  have b2 := F2.binds (ps := ["self", "net", "delays", "change"]) fun _ _ _ _ _ _ us hl => match us, hl with | [_, _, _, _], _ => rfl
  obtain ⟨fd3, D3⟩ := c.t.d.def_ 3 (d := d_Machine_time) rfl
  have F3 : Fun K "time" "Machine.time" s_Machine_time (He.fAd K ("Machine", some "time")) fd3 := fun_of D3
  have b3 := F3.binds (ps := ["self"]) fun _ _ _ _ _ _ us hl => match us, hl with | [_], _ => rfl
  obtain ⟨fd4, D4⟩ := c.t.d.def_ 4 (d := d_Machine_worths) rfl
  have F4 : Fun K "worths" "Machine.worths" s_Machine_worths (He.fAd K ("Machine", some "worths")) fd4 := fun_of D4
  have b4 := F4.binds (ps := ["self"]) fun _ _ _ _ _ _ us hl => match us, hl with | [_], _ => rfl
  obtain ⟨fd5, D5⟩ := c.t.d.def_ 5 (d := d_Machine_step) rfl
  have F5 : Fun K "step" "Machine.step" s_Machine_step (He.fAd K ("Machine", some "step")) fd5 := fun_of D5
  have b5 := F5.binds (ps := ["self"]) fun _ _ _ _ _ _ us hl => match us, hl with | [_], _ => rfl
  obtain ⟨fd6, D6⟩ := c.t.d.def_ 6 (d := d_Machine_worth_read) rfl
  have F6 : Fun K "worth_read" "Machine.worth_read" s_Machine_worth_read (He.fAd K ("Machine", some "worth_read")) fd6 := fun_of D6
  have b6 := F6.binds (ps := ["self", "gate", "place"]) fun _ _ _ _ _ _ us hl => match us, hl with | [_, _, _], _ => rfl
  obtain ⟨fd7, D7⟩ := c.t.d.def_ 7 (d := d_Machine_set_level) rfl
  have F7 : Fun K "set_level" "Machine.set_level" s_Machine_set_level (He.fAd K ("Machine", some "set_level")) fd7 := fun_of D7
  have b7 := F7.binds (ps := ["self", "wire", "worth"]) fun _ _ _ _ _ _ us hl => match us, hl with | [_, _, _], _ => rfl
  obtain ⟨fd8, D8⟩ := c.t.d.def_ 8 (d := d_mixed) rfl
  have F8 : Fun K "_law_mixed" "_law_mixed" s_mixed (He.fAd K ("_law_mixed", none)) fd8 := fun_of D8
  have b8 := F8.binds (ps := ["_law_number"]) fun _ _ _ _ _ _ us hl => match us, hl with | [_], _ => rfl
  obtain ⟨fd9, D9⟩ := c.t.d.def_ 9 (d := d_deck) rfl
  have F9 : Fun K "_law_deck" "_law_deck" s_deck (He.fAd K ("_law_deck", none)) fd9 := fun_of D9
  have b9 := F9.binds (ps := ["_law_script"]) fun _ _ _ _ _ _ us hl => match us, hl with | [_], _ => rfl
  obtain ⟨fd10, D10⟩ := c.t.d.def_ 10 (d := d_draw) rfl
  have F10 : Fun K "_law_draw" "_law_draw" s_draw (He.fAd K ("_law_draw", none)) fd10 := fun_of D10
  have b10 := F10.binds (ps := ["_law_deck_here", "_law_most"]) fun _ _ _ _ _ _ us hl => match us, hl with | [_, _], _ => rfl
  obtain ⟨fd11, D11⟩ := c.t.d.def_ 11 (d := d_table) rfl
  have F11 : Fun K "_law_table" "_law_table" s_table (He.fAd K ("_law_table", none)) fd11 := fun_of D11
  have b11 := F11.binds (ps := ["_law_deck_here", "_law_many"]) fun _ _ _ _ _ _ us hl => match us, hl with | [_, _], _ => rfl
  obtain ⟨fd12, D12⟩ := c.t.d.def_ 12 (d := d_net) rfl
  have F12 : Fun K "_law_net" "_law_net" s_net (He.fAd K ("_law_net", none)) fd12 := fun_of D12
  have b12 := F12.binds (ps := ["_law_deck_here", "_law_gates", "_law_formula"]) fun _ _ _ _ _ _ us hl => match us, hl with | [_, _, _], _ => rfl
  obtain ⟨fd13, D13⟩ := c.t.d.def_ 13 (d := d_rows) rfl
  have F13 : Fun K "_law_rows" "_law_rows" s_rows (He.fAd K ("_law_rows", none)) fd13 := fun_of D13
  have b13 := F13.binds (ps := ["_law_deck_here", "_law_many"]) fun _ _ _ _ _ _ us hl => match us, hl with | [_, _], _ => rfl
  obtain ⟨fd14, D14⟩ := c.t.d.def_ 14 (d := d_delays) rfl
  have F14 : Fun K "_law_delays" "_law_delays" s_delays (He.fAd K ("_law_delays", none)) fd14 := fun_of D14
  have b14 := F14.binds (ps := ["_law_deck_here", "_law_net_here", "_law_most"]) fun _ _ _ _ _ _ us hl => match us, hl with | [_, _, _], _ => rfl
  obtain ⟨fd15, D15⟩ := c.t.d.def_ 15 (d := d_slow) rfl
  have F15 : Fun K "_law_slow" "_law_slow" s_slow (He.fAd K ("_law_slow", none)) fd15 := fun_of D15
  have b15 := F15.binds (ps := ["_law_net_here", "_law_delays_here", "_law_change", "_law_end"]) fun _ _ _ _ _ _ us hl => match us, hl with | [_, _, _, _], _ => rfl
  obtain ⟨fd16, D16⟩ := c.t.d.def_ 16 (d := d_is_at) rfl
  have F16 : Fun K "_law_is_at" "_law_is_at" s_is_at (He.fAd K ("_law_is_at", none)) fd16 := fun_of D16
  have b16 := F16.binds (ps := ["_law_machine", "_law_rows_here", "_law_at"]) fun _ _ _ _ _ _ us hl => match us, hl with | [_, _, _], _ => rfl
  obtain ⟨fd17, D17⟩ := c.t.d.def_ 17 (d := d_near) rfl
  have F17 : Fun K "_law_near" "_law_near" s_near (He.fAd K ("_law_near", none)) fd17 := fun_of D17
  have b17 := F17.binds (ps := ["_law_delay"]) fun _ _ _ _ _ _ us hl => match us, hl with | [_], _ => rfl
  obtain ⟨fd18, D18⟩ := c.t.d.def_ 18 (d := d_goes_on) rfl
  have F18 : Fun K "_law_goes_on" "_law_goes_on" s_goes_on (He.fAd K ("_law_goes_on", none)) fd18 := fun_of D18
  have b18 := F18.binds (ps := ["_law_deck_here"]) fun _ _ _ _ _ _ us hl => match us, hl with | [_], _ => rfl
  obtain ⟨fd19, D19⟩ := c.t.d.def_ 19 (d := d_comes_late) rfl
  have F19 : Fun K "_law_comes_late" "_law_comes_late" s_comes_late (He.fAd K ("_law_comes_late", none)) fd19 := fun_of D19
  have b19 := F19.binds (ps := ["_law_deck_here", "_law_far"]) fun _ _ _ _ _ _ us hl => match us, hl with | [_, _], _ => rfl
  obtain ⟨fd20, D20⟩ := c.t.d.def_ 20 (d := d_law) rfl
  have F20 : Fun K "law" "law" s_law (He.fAd K ("law", none)) fd20 := fun_of D20
  have b20 := F20.binds (ps := ["_law_script"]) fun _ _ _ _ _ _ us hl => match us, hl with | [_], _ => rfl
  have e := hfa.symm.trans (He.glo_ok X G (c.t.d.fact 20 (f := .glo "law") rfl))
  cases e
  let T : Tx K mg := { f_table_worth := _, fd_table_worth := _, F_table_worth := F0, g_table_worth := He.glo_ok X G (c.t.d.fact 0 (f := .glo "table_worth") rfl), b_table_worth := b0, f_settled := _, fd_settled := _, F_settled := F1, g_settled := He.glo_ok X G (c.t.d.fact 1 (f := .glo "settled") rfl), b_settled := b1, f_Machine___init__ := _, fd_Machine___init__ := _, F_Machine___init__ := F2, b_Machine___init__ := b2, f_Machine_time := _, fd_Machine_time := _, F_Machine_time := F3, me_Machine_time := He.meth_ok (c.t.d.fact 3 (f := .meth "Machine" "time") rfl), b_Machine_time := b3, f_Machine_worths := _, fd_Machine_worths := _, F_Machine_worths := F4, me_Machine_worths := He.meth_ok (c.t.d.fact 4 (f := .meth "Machine" "worths") rfl), b_Machine_worths := b4, f_Machine_step := _, fd_Machine_step := _, F_Machine_step := F5, me_Machine_step := He.meth_ok (c.t.d.fact 5 (f := .meth "Machine" "step") rfl), b_Machine_step := b5, f_Machine_worth_read := _, fd_Machine_worth_read := _, F_Machine_worth_read := F6, me_Machine_worth_read := He.meth_ok (c.t.d.fact 6 (f := .meth "Machine" "worth_read") rfl), b_Machine_worth_read := b6, f_Machine_set_level := _, fd_Machine_set_level := _, F_Machine_set_level := F7, me_Machine_set_level := He.meth_ok (c.t.d.fact 7 (f := .meth "Machine" "set_level") rfl), b_Machine_set_level := b7, f_mixed := _, fd_mixed := _, F_mixed := F8, g_mixed := He.glo_ok X G (c.t.d.fact 8 (f := .glo "_law_mixed") rfl), b_mixed := b8, f_deck := _, fd_deck := _, F_deck := F9, g_deck := He.glo_ok X G (c.t.d.fact 9 (f := .glo "_law_deck") rfl), b_deck := b9, f_draw := _, fd_draw := _, F_draw := F10, g_draw := He.glo_ok X G (c.t.d.fact 10 (f := .glo "_law_draw") rfl), b_draw := b10, f_table := _, fd_table := _, F_table := F11, g_table := He.glo_ok X G (c.t.d.fact 11 (f := .glo "_law_table") rfl), b_table := b11, f_net := _, fd_net := _, F_net := F12, g_net := He.glo_ok X G (c.t.d.fact 12 (f := .glo "_law_net") rfl), b_net := b12, f_rows := _, fd_rows := _, F_rows := F13, g_rows := He.glo_ok X G (c.t.d.fact 13 (f := .glo "_law_rows") rfl), b_rows := b13, f_delays := _, fd_delays := _, F_delays := F14, g_delays := He.glo_ok X G (c.t.d.fact 14 (f := .glo "_law_delays") rfl), b_delays := b14, f_slow := _, fd_slow := _, F_slow := F15, g_slow := He.glo_ok X G (c.t.d.fact 15 (f := .glo "_law_slow") rfl), b_slow := b15, f_is_at := _, fd_is_at := _, F_is_at := F16, g_is_at := He.glo_ok X G (c.t.d.fact 16 (f := .glo "_law_is_at") rfl), b_is_at := b16, f_near := _, fd_near := _, F_near := F17, g_near := He.glo_ok X G (c.t.d.fact 17 (f := .glo "_law_near") rfl), b_near := b17, f_goes_on := _, fd_goes_on := _, F_goes_on := F18, g_goes_on := He.glo_ok X G (c.t.d.fact 18 (f := .glo "_law_goes_on") rfl), b_goes_on := b18, f_comes_late := _, fd_comes_late := _, F_comes_late := F19, g_comes_late := He.glo_ok X G (c.t.d.fact 19 (f := .glo "_law_comes_late") rfl), b_comes_late := b19, f_law := _, fd_law := _, F_law := F20, g_law := He.glo_ok X G (c.t.d.fact 20 (f := .glo "law") rfl), b_law := b20, m_enumerate := He.free_ok X G (c.t.d.fact 21 (f := .free "enumerate") rfl), m_int := He.free_ok X G (c.t.d.fact 22 (f := .free "int") rfl), m_len := He.free_ok X G (c.t.d.fact 23 (f := .free "len") rfl), m_list := He.free_ok X G (c.t.d.fact 24 (f := .free "list") rfl), m_max := He.free_ok X G (c.t.d.fact 25 (f := .free "max") rfl), m_min := He.free_ok X G (c.t.d.fact 26 (f := .free "min") rfl), m_range := He.free_ok X G (c.t.d.fact 27 (f := .free "range") rfl), m_repr := He.free_ok X G (c.t.d.fact 28 (f := .free "repr") rfl), m_sum := He.free_ok X G (c.t.d.fact 29 (f := .free "sum") rfl), m_tuple := He.free_ok X G (c.t.d.fact 30 (f := .free "tuple") rfl), m_zip := He.free_ok X G (c.t.d.fact 31 (f := .free "zip") rfl), C_Machine := _, gC_Machine := He.glo_ok X G (c.t.d.fact 32 (f := .glo "Machine") rfl), cl_Machine := He.cls_ok (c.t.d.fact 33 (f := .cls "Machine") rfl), mk_Machine := He.mkr_ok (c.t.d.fact 34 (f := .mkr "Machine") rfl), na_Machine_delays := He.noat_ok (c.t.d.fact 35 (f := .noat "Machine" "delays") rfl), na_Machine_firsts := He.noat_ok (c.t.d.fact 36 (f := .noat "Machine" "firsts") rfl), na_Machine_gates := He.noat_ok (c.t.d.fact 37 (f := .noat "Machine" "gates") rfl), na_Machine_goal := He.noat_ok (c.t.d.fact 38 (f := .noat "Machine" "goal") rfl), na_Machine_heard := He.noat_ok (c.t.d.fact 39 (f := .noat "Machine" "heard") rfl), na_Machine_levels := He.noat_ok (c.t.d.fact 40 (f := .noat "Machine" "levels") rfl), na_Machine_now := He.noat_ok (c.t.d.fact 41 (f := .noat "Machine" "now") rfl), na_Machine_turns := He.noat_ok (c.t.d.fact 42 (f := .noat "Machine" "turns") rfl) }
  refine ⟨fd20, tf.map (He.cT K), sp_law K T.tabs, ?_, ?_, ?_, ?_, ?_, ?_⟩
  · rintro p hp
    obtain ⟨d, hd, rfl⟩ := List.mem_map.mp hp
    exact c.empty d hd
  · rintro p hp
    obtain ⟨d, hd, rfl⟩ := List.mem_map.mp hp
    exact c.out d hd
  · rintro p hp
    obtain ⟨d, hd, rfl⟩ := List.mem_map.mp hp
    exact PySem.W.codeHd_of_K X (c.hd d hd)
  · obtain ⟨oc, od, kV, doc, pm, an, cdv, ct, osl, rfl, lk, hcd⟩ := F20.ex
    exact fun s v => .of_eq rfl
  · intro H a ns hl hbits hT hS
    refine ⟨a, ns, rfl, hS, hl, fun P hP => ?_, fun _ => rfl⟩
    have hP : P ∈ (tf.map (He.cT K)).map (·.2) := hP
    obtain ⟨p, hp, rfl⟩ := List.mem_map.mp hP
    exact ⟨#[], hT p hp, by trivial⟩
  · intro base KB GB hTB
    have B : Tb base T := ⟨⟩
    exact ok_law T B
end Gk
open PySem PySem.W PyProof.Rows
set_option maxRecDepth 100000 in
set_option maxHeartbeats 0 in
theorem PySem.Challenge.cw_glitchnet_k11_machines_holds : PySem.Challenge.rw_glitchnet_k11_machines.Holds := by
  w_on; o_law
  refine HandSHeadRun.head_any (r := OpenLaw.row PySem.Challenge.rw_glitchnet_k11_machines) (q := view (OpenLaw.row PySem.Challenge.rw_glitchnet_k11_machines).prog [18]) (H := Gk.hk) (ob := Gk.ob) (M := 3000) (loose := [("table_worth" : PySem.Str), ("settled" : PySem.Str), ("Machine" : PySem.Str), ("_law_mixed" : PySem.Str), ("_law_deck" : PySem.Str), ("_law_draw" : PySem.Str), ("_law_table" : PySem.Str), ("_law_net" : PySem.Str), ("_law_rows" : PySem.Str), ("_law_delays" : PySem.Str), ("_law_slow" : PySem.Str), ("_law_is_at" : PySem.Str), ("_law_near" : PySem.Str), ("_law_goes_on" : PySem.Str), ("_law_comes_late" : PySem.Str)]) (d := HandSHeadRun.topDef (OpenLaw.row PySem.Challenge.rw_glitchnet_k11_machines).prog 18) (kwd := []) Gk.ob_eq
    (by kernel_rfl) (fun s => by kernel_rfl) Gk.run (by kernel_rfl) (by kernel_rfl) (by kernel_rfl) (by rfl) (by first | assumption | decide +kernel) (by decide +kernel) ⟨rfl, rfl, rfl, rfl, rfl, by decide +kernel⟩ ?hw ?hc
  case hw => w_witness2
  case hc =>
    refine Gk.walk_GT (l := PySem.Challenge.rw_glitchnet_k11_machines) (n := 63) (k := 10) (x := "_law_script") (CX := fun _ => L2.CX0) rfl (by decide) (by kernel_rfl) ⟨rfl, by decide, by decide⟩ ?F (fun _ _ _ _ _ z => z)
    intro w mg fa h Y G hmg0
    obtain ⟨K, KX, c⟩ := Y
    have hmg : mg ("law" : PySem.Str) = some (.ref fa) := by
      have e : (HandSHeadRun.topDef (OpenLaw.row PySem.Challenge.rw_glitchnet_k11_machines).prog 18).name = ("law" : PySem.Str) := by kernel_rfl
      rw [← e]
      exact hmg0
    exact ⟨K, KX, Gk.facts KX G hmg c⟩
