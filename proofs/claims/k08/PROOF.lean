import PyProof.Rows.All
import Wide.All
import OpenK.AllK
import Wide.FinOn
import KE.GoesMore
import HandS.ForMost
import HandS.IsInst
import HandS.TupLe
import HandS.TupAny
import HandS.TupMul
import HandS.More
import HandS.Codes
import HandS.Conv
import HandS.Deep
import HandS.TupSets
import HandS.Style
import HandS.Strs
import HandS.AnyAll
import HandS.GenList
import HandS.JoinGen
import HandS.Zip
import HandS.Rev
import HandS.SetFor
import HandS.WideBits
import HandS.FStr
import HandS.RevTup
import HandS.Head0
import HandS.Head1
import HandS.Head2
import HandS.HeadEnd
import HandS.HeadHook1
import HandS.HeadHook2
import HandS.HeadHook3
import HandS.HeadHook4
import HandS.HeadWalk
import HandS.Defaults
import HandS.ReplaceLit
import KE.KUnpackStar
import PyProof.ReprLen
import PyProof.ReprRoads
import PyProof.TupleOfStr
import PyProof.ListStr
import PySem.Challenge.RW_glitchnet_k08_waves
set_option Elab.async false
set_option linter.all false
set_option maxRecDepth 100000
set_option maxHeartbeats 1000000
namespace Gk
open PySem PySem.Spec PyProof.Rows L2
/-! ### the text -/
def topS (i : Nat) : Stmt := PySem.Challenge.pw_glitchnet_k08_waves.main.body.getD i (.Pass ⟨0, 0, 0, 0⟩)
abbrev s_is_whole : Stmt := topS 1
abbrev s_is_worth : Stmt := topS 2
abbrev s_is_wave : Stmt := topS 4
abbrev s_worth_at : Stmt := topS 5
abbrev s_mixed : Stmt := topS 7
abbrev s_deck : Stmt := topS 8
abbrev s_draw : Stmt := topS 9
abbrev s_l_is_whole : Stmt := topS 10
abbrev s_is : Stmt := topS 11
abbrev s_wave : Stmt := topS 12
abbrev s_bent : Stmt := topS 13
abbrev s_worth : Stmt := topS 14
abbrev s_times : Stmt := topS 15
abbrev s_right : Stmt := topS 16
abbrev s_law : Stmt := topS 17
theorem sc_is_whole : FnScope ["thing"] ["thing"] (defScope s_is_whole) := ⟨rfl, rfl, rfl, by decide +kernel, rfl, by decide +kernel, by decide +kernel⟩
theorem sc_is_worth : FnScope ["thing"] ["thing"] (defScope s_is_worth) := ⟨rfl, rfl, rfl, by decide +kernel, rfl, by decide +kernel, by decide +kernel⟩
theorem sc_is_wave : FnScope ["thing", "first", "times", "early", "late", "time"] ["thing"] (defScope s_is_wave) := ⟨rfl, rfl, rfl, by decide +kernel, rfl, by decide +kernel, by decide +kernel⟩
theorem sc_worth_at : FnScope ["wave", "time", "first", "times", "done", "turn"] ["wave", "time"] (defScope s_worth_at) := ⟨rfl, rfl, rfl, by decide +kernel, rfl, by decide +kernel, by decide +kernel⟩
theorem sc_mixed : FnScope ["_law_number"] ["_law_number"] (defScope s_mixed) := ⟨rfl, rfl, rfl, by decide +kernel, rfl, by decide +kernel, by decide +kernel⟩
theorem sc_deck : FnScope ["_law_script", "_law_cells"] ["_law_script"] (defScope s_deck) := ⟨rfl, rfl, rfl, by decide +kernel, rfl, by decide +kernel, by decide +kernel⟩
theorem sc_draw : FnScope ["_law_deck_here", "_law_most", "_law_low", "_law_cell"] ["_law_deck_here", "_law_most"] (defScope s_draw) := ⟨rfl, rfl, rfl, by decide +kernel, rfl, by decide +kernel, by decide +kernel⟩
theorem sc_l_is_whole : FnScope ["_law_thing"] ["_law_thing"] (defScope s_l_is_whole) := ⟨rfl, rfl, rfl, by decide +kernel, rfl, by decide +kernel, by decide +kernel⟩
theorem sc_is : FnScope ["_law_thing", "_law_ahead", "_law_time"] ["_law_thing"] (defScope s_is) := ⟨rfl, rfl, rfl, by decide +kernel, rfl, by decide +kernel, by decide +kernel⟩
theorem sc_wave : FnScope ["_law_deck_here", "_law_many", "_law_wide", "_law_times_here", "_law_here", "_law_k"] ["_law_deck_here"] (defScope s_wave) := ⟨rfl, rfl, rfl, by decide +kernel, rfl, by decide +kernel, by decide +kernel⟩
theorem sc_bent : FnScope ["_law_deck_here", "_law_wave_here", "_law_way", "_law_first", "_law_times_here", "_law_at", "_law_odd", "_law_here"] ["_law_deck_here", "_law_wave_here"] (defScope s_bent) := ⟨rfl, rfl, rfl, by decide +kernel, rfl, by decide +kernel, by decide +kernel⟩
theorem sc_worth : FnScope ["_law_wave_here", "_law_time", "_law_worth_here", "_law_one"] ["_law_wave_here", "_law_time"] (defScope s_worth) := ⟨rfl, rfl, rfl, by decide +kernel, rfl, by decide +kernel, by decide +kernel⟩
theorem sc_times : FnScope ["_law_deck_here", "_law_wave_here", "_law_some", "_law_one"] ["_law_deck_here", "_law_wave_here"] (defScope s_times) := ⟨rfl, rfl, rfl, by decide +kernel, rfl, by decide +kernel, by decide +kernel⟩
theorem sc_right : FnScope ["_law_thing", "_law_kept", "_law_again", "_law_found"] ["_law_thing"] (defScope s_right) := ⟨rfl, rfl, rfl, by decide +kernel, rfl, by decide +kernel, by decide +kernel⟩
theorem sc_law : FnScope ["_law_script", "_law_deck_here", "_law_turn", "_law_wave_here", "_law_k", "_law_time", "_law_thing"] ["_law_script"] (defScope s_law) := ⟨rfl, rfl, rfl, by decide +kernel, rfl, by decide +kernel, by decide +kernel⟩
structure Tx (K : PySem.W.Frag) (mg : Str → Option Value) where
  f_is_whole : Addr
  fd_is_whole : FuncData
  F_is_whole : Fun K "is_whole" "is_whole" s_is_whole f_is_whole fd_is_whole
  g_is_whole : mg "is_whole" = some (.ref f_is_whole)
  b_is_whole : Binds K fd_is_whole ["thing"] []
  f_is_worth : Addr
  fd_is_worth : FuncData
  F_is_worth : Fun K "is_worth" "is_worth" s_is_worth f_is_worth fd_is_worth
  g_is_worth : mg "is_worth" = some (.ref f_is_worth)
  b_is_worth : Binds K fd_is_worth ["thing"] []
  f_is_wave : Addr
  fd_is_wave : FuncData
  F_is_wave : Fun K "is_wave" "is_wave" s_is_wave f_is_wave fd_is_wave
  g_is_wave : mg "is_wave" = some (.ref f_is_wave)
  b_is_wave : Binds K fd_is_wave ["thing"] []
  c_is_wave : Addr
  P_is_wave : Addr
  cd_is_wave : fd_is_wave.code = .ref c_is_wave
  f_worth_at : Addr
  fd_worth_at : FuncData
  F_worth_at : Fun K "worth_at" "worth_at" s_worth_at f_worth_at fd_worth_at
  g_worth_at : mg "worth_at" = some (.ref f_worth_at)
  b_worth_at : Binds K fd_worth_at ["wave", "time"] []
  c_worth_at : Addr
  P_worth_at : Addr
  cd_worth_at : fd_worth_at.code = .ref c_worth_at
  f_mixed : Addr
  fd_mixed : FuncData
  F_mixed : Fun K "_law_mixed" "_law_mixed" s_mixed f_mixed fd_mixed
  g_mixed : mg "_law_mixed" = some (.ref f_mixed)
  b_mixed : Binds K fd_mixed ["_law_number"] []
  f_deck : Addr
  fd_deck : FuncData
  F_deck : Fun K "_law_deck" "_law_deck" s_deck f_deck fd_deck
  g_deck : mg "_law_deck" = some (.ref f_deck)
  b_deck : Binds K fd_deck ["_law_script"] []
  f_draw : Addr
  fd_draw : FuncData
  F_draw : Fun K "_law_draw" "_law_draw" s_draw f_draw fd_draw
  g_draw : mg "_law_draw" = some (.ref f_draw)
  b_draw : Binds K fd_draw ["_law_deck_here", "_law_most"] []
  f_l_is_whole : Addr
  fd_l_is_whole : FuncData
  F_l_is_whole : Fun K "_law_is_whole" "_law_is_whole" s_l_is_whole f_l_is_whole fd_l_is_whole
  g_l_is_whole : mg "_law_is_whole" = some (.ref f_l_is_whole)
  b_l_is_whole : Binds K fd_l_is_whole ["_law_thing"] []
  f_is : Addr
  fd_is : FuncData
  F_is : Fun K "_law_is" "_law_is" s_is f_is fd_is
  g_is : mg "_law_is" = some (.ref f_is)
  b_is : Binds K fd_is ["_law_thing"] []
  f_wave : Addr
  fd_wave : FuncData
  F_wave : Fun K "_law_wave" "_law_wave" s_wave f_wave fd_wave
  g_wave : mg "_law_wave" = some (.ref f_wave)
  b_wave : Binds K fd_wave ["_law_deck_here"] []
  f_bent : Addr
  fd_bent : FuncData
  F_bent : Fun K "_law_bent" "_law_bent" s_bent f_bent fd_bent
  g_bent : mg "_law_bent" = some (.ref f_bent)
  b_bent : Binds K fd_bent ["_law_deck_here", "_law_wave_here"] []
  f_worth : Addr
  fd_worth : FuncData
  F_worth : Fun K "_law_worth" "_law_worth" s_worth f_worth fd_worth
  g_worth : mg "_law_worth" = some (.ref f_worth)
  b_worth : Binds K fd_worth ["_law_wave_here", "_law_time"] []
  f_times : Addr
  fd_times : FuncData
  F_times : Fun K "_law_times" "_law_times" s_times f_times fd_times
  g_times : mg "_law_times" = some (.ref f_times)
  b_times : Binds K fd_times ["_law_deck_here", "_law_wave_here"] []
  f_right : Addr
  fd_right : FuncData
  F_right : Fun K "_law_right" "_law_right" s_right f_right fd_right
  g_right : mg "_law_right" = some (.ref f_right)
  b_right : Binds K fd_right ["_law_thing"] []
  f_law : Addr
  fd_law : FuncData
  F_law : Fun K "law" "law" s_law f_law fd_law
  g_law : mg "law" = some (.ref f_law)
  b_law : Binds K fd_law ["_law_script"] []
  m_all : mg "all" = none
  m_bool : mg "bool" = none
  m_int : mg "int" = none
  m_isinstance : mg "isinstance" = none
  m_len : mg "len" = none
  m_list : mg "list" = none
  m_max : mg "max" = none
  m_range : mg "range" = none
  m_repr : mg "repr" = none
  m_sum : mg "sum" = none
  m_tuple : mg "tuple" = none
  m_zip : mg "zip" = none
structure Tb (base : Heap) {K : PySem.W.Frag} {mg : Str → Option Value} (T : Tx K mg) : Prop where
  TB_is_wave : GxR.TabB base mg T.c_is_wave T.P_is_wave
  TB_worth_at : GxR.TabB base mg T.c_worth_at T.P_worth_at
def Tx.tabs {K : PySem.W.Frag} {mg : Str → Option Value} (T : Tx K mg) : List Addr := [T.P_is_wave, T.P_worth_at]
/-! ### generator expressions whose elements may call -/
theorem inv_moved {X : Cx} {cp : List (Addr × Obj)} {σ : L2.St} {H : Hp} {s s' : Shared} (I : Inv X cp σ H s) (os : s'.os = s.os) (bare : AllBare s'.gens) (k : ∀ b o, s.heap.get? b = some o → s'.heap.get? b = some o) : Inv X cp σ H s' :=
  I.call' (ch := []) os (Un.kept k) (I.hok.kept k) bare fun b hb => absurd hb (by simp)
/-- the context of a generator expression's frame: C its frame, s, H the entry, fp its iterator's objects -/
abbrev gblk (X : Cx) (A : Around) (s : Shared) (H : Hp) (cenv : Env) (fp : List Addr) : Cx :=
  { X with A := A, s_0 := s, H_0 := H, env := cenv, outer := X.stack, stack := cenv :: X.stack, ex := fp, fn := fun _ => false, pn := [], xe := fun _ _ => False }
section
variable {X : Cx} {pins : List (Addr × Obj)} {σ : L2.St} {H : Hp} {s : Shared}
theorem gen_start {scope : Scope} {own : List (Str × Nat)} {fp : List Addr} {A : Around} {code it : Value} {s5 : Shared} {cp : List (Addr × Obj)}
    (I : Inv X pins σ H s) (ok : BlkOk X.N X.env.scope scope own) (nocell : ∀ y ∈ scope.names, y.2 ≠ .cell) (hN : X.N.Nodup) (hfp : ∀ b ∈ fp, FpOk X pins H b ∧ b < s.heap.objs.size)
    (hh : A.handled = none) (hfr : A.frames = some (genEnv scope (cloFrom X.env.cells scope.names []) s.heap.objs.size code builtinsNs X.env :: X.stack))
    (os : s5.os = s.os) (bare : AllBare s5.gens) (kp : ∀ b o, s.heap.get? b = some o → s5.heap.get? b = some o)
    (hns : s5.heap.Ns s.heap.objs.size fun y => if y = ".0" then some it else none)
    (hcp : ∀ p ∈ cp, s.heap.objs.size < p.1 ∧ s5.heap.get? p.1 = some p.2 ∧ ∀ v, p.2.data ≠ .cell v) :
    Inv (gblk X A s H (genEnv scope (cloFrom X.env.cells scope.names []) s.heap.objs.size code builtinsNs X.env) fp) cp (wipe σ (own.map (·.2))) H s5 := by
  have hfree : ∀ y ∈ scope.names, y.2 = .free → ∃ c, X.env.cells.lookup y.1 = some c := fun y hy e => by
    rcases ok.free y hy e with k | k
    · exact I.ok.has _ (.inl k)
    · exact I.ok.has _ (.inr k)
  generalize hcenv : genEnv scope (cloFrom X.env.cells scope.names []) s.heap.objs.size code builtinsNs X.env = cenv at hfr ⊢
  have hL : cenv.locals = s.heap.objs.size := by rw [← hcenv]; rfl
  have hcl : cenv.cells = cloFrom X.env.cells scope.names [] := by rw [← hcenv]; rfl
  have hsc : cenv.scope = scope := by rw [← hcenv]; rfl
  have cm : ∀ {y c}, (y, c) ∈ cloFrom X.env.cells scope.names [] → X.env.cells.lookup y = some c ∧ c < s.heap.objs.size := fun {y c} hm => by
    rcases cloFrom_mem hm with hm | ⟨h1, rfl⟩
    · cases hm
    · obtain ⟨c, hc⟩ := hfree _ h1 rfl
      rw [hc]
      obtain ⟨w, z⟩ := I.cell _ _ hc
      exact ⟨rfl, z.lt⟩
  have mem : ∀ {y c}, cenv.cells.lookup y = some c → X.env.cells.lookup y = some c ∧ c < s.heap.objs.size := fun {y c} e => by
    rw [hcl] at e
    exact cm (PySem.mem_of_lookup e)
  have look : ∀ {y}, scope.names.lookup y = some .free → ∃ c, cenv.cells.lookup y = some c ∧ X.env.cells.lookup y = some c := fun {y} hl => by
    have hy : (y, NameKind.free) ∈ scope.names := PySem.mem_of_lookup hl
    obtain ⟨c', e'⟩ := mem_lookup (cloFrom_has (cells := X.env.cells) (acc := []) hy)
    rw [← hcl] at e'
    exact ⟨c', e', (mem e').1⟩
  have okB : (gblk X A s H cenv fp).Ok := by
    refine ⟨I.ok.mod, by show cenv.scope.kind = _; rw [hsc]; exact ok.kind, by show cenv.globals = _; rw [← hcenv]; exact I.ok.glob, by show cenv.builtins = _; rw [← hcenv]; rfl, by show s.heap.objs.size ≤ cenv.locals; rw [hL]; exact Nat.le_refl _,
      fun y z c e1 e2 => I.ok.inj y z c (mem e1).1 (mem e2).1, fun y hy => ?_, fun y c z e => (by cases z), fun _ => hh, hfr, .inr ⟨rfl, by show cenv.frame = some cenv.locals; rw [← hcenv]; rfl⟩, fun b hb => ⟨?_, fun y c e z => ?_⟩, I.bs, Nat.le_trans I.ok.bsz I.sz, fun b o e hb => ?_, fun b hb z => ?_, I.stack, I.stkFree⟩
    · have hy' : scope.names.lookup y = some .cell ∨ scope.names.lookup y = some .free := by
        rw [← hsc]
        exact hy
      rcases hy' with e | e
      · exact absurd rfl (nocell _ (PySem.mem_of_lookup e))
      · obtain ⟨c, h1, _⟩ := look e
        exact ⟨c, h1⟩
    · show b ≠ cenv.locals
      rw [hL]; exact Nat.ne_of_lt (hfp b hb).2
    · exact (hfp b hb).1.2.2.2.2.1 y c (mem e).1 z
    · rcases (hfp b hb).1.2.2.2.1 with z | z
      · exact I.ok.noex b o e z
      · exact absurd (Nat.lt_of_lt_of_le (Heap.lt_size e) (Nat.le_trans I.ok.bsz z)) (Nat.lt_irrefl _)
    · rcases List.mem_cons.mp (I.stkSub b z) with z | z
      · exact (hfp b hb).1.2.1 z
      · exact (hfp b hb).1.2.2.1 z
  refine ⟨okB, os, bare, Un.kept kp, ⟨_, (by show s5.heap.Ns cenv.locals _; rw [hL]; exact hns), fun i y av e1 e2 e3 => ?_⟩, fun y c e => ?_, ?_, fun y c e => I.freeC y c (mem e).1, fun p hp => ?_, I.hok.kept kp, by rw [wipe_length]; exact I.len⟩
  · obtain ⟨e2, hne⟩ := wipe_some e2
    have e3 : Vis scope y := by rw [← hsc]; exact e3
    have no : ∀ k, scope.names.lookup y = some k → ¬ (k = .local ∨ k = .cell) := fun k e hh => by
      rcases ok.own _ (PySem.mem_of_lookup e) hh with e' | e'
      · obtain ⟨p, hp, hpy⟩ := List.mem_map.mp e'
        have e3 := ok.ix p hp
        have : p.1 = y := hpy
        rw [this] at e3
        exact hne (List.mem_map.mpr ⟨p, hp, nodup_ix hN e3 e1⟩)
      · exact e' (List.mem_of_getElem? e1)
    have hfr2 : scope.names.lookup y = some .free := by
      rcases e3 with e | e | e
      · exact absurd (.inl rfl) (no _ e)
      · exact absurd (.inr rfl) (no _ e)
      · exact e
    obtain ⟨m, hn, hl⟩ := I.loc
    have hvis : Vis X.env.scope y := (ok.free _ (PySem.mem_of_lookup hfr2) rfl).elim (fun k => .inr (.inl k)) (fun k => .inr (.inr k))
    obtain ⟨w, r, q⟩ := hl i y av e1 e2 hvis
    refine ⟨w, r, .inr ⟨.inr (by show cenv.scope.names.lookup y = some .free; rw [hsc]; exact hfr2), ?_⟩⟩
    obtain ⟨c, h1, h2⟩ := look hfr2
    rcases q with ⟨k, _⟩ | ⟨_, c', e', z⟩
    · have k : X.env.scope.names.lookup y = some .local := k
      rcases ok.free _ (PySem.mem_of_lookup hfr2) rfl with k' | k' <;> rw [show X.env.scope.names.lookup y = _ from k'] at k <;> cases k
    · rw [h2] at e'; cases e'
      exact ⟨c, h1, z.keeps kp⟩
  · obtain ⟨w, z⟩ := I.cell y c (mem e).1
    exact ⟨w, z.keeps kp⟩
  · show H cenv.locals = none
    rw [hL]; exact I.hok.fresh (Nat.le_refl _)
  · have hp : p ∈ cp := by simpa using hp
    obtain ⟨h1, h2, h3⟩ := hcp p hp
    refine ⟨h2, I.hok.fresh (Nat.le_of_lt h1), by show p.1 ≠ cenv.locals; rw [hL]; exact Nat.ne_of_gt h1, fun z => ?_, h3⟩
    rcases List.mem_cons.mp (I.stkSub _ z) with z | z
    · exact absurd (Nat.lt_trans I.lt h1) (by rw [z]; exact Nat.lt_irrefl _)
    · exact I.nofs (Nat.le_of_lt h1) z
end
/-! ### the talk of a generator and who asks it -/
section
variable {α : Type}
/-- handed out: x; the asker's state a (laid down in the pins cp) goes to one with Nx -/
def YG (Xg : Cx) (fp : List Addr) (tn : Nat → Heap → Prop) (AC : α → List (Addr × Obj) → Prop) (Yd : α → V → Hp → (α → Hp → Prop) → Prop) : Protocol := fun _ s0 v s kap =>
  ∃ (a : α) (x : V) (σ : L2.St) (H : Hp) (i : Nat) (cp : List (Addr × Obj)) (Nx : α → Hp → Prop), RelV x v ∧ AC a cp ∧ (∀ p ∈ cp, s0.heap.get? p.1 = some p.2) ∧ Inv Xg cp σ H s ∧ tn i s.heap ∧ (∀ b ∈ fp, H b = none) ∧ Yd a x H Nx ∧
    ∀ a' cp' s', Nx a' H → AC a' cp' → Inv Xg cp' σ H s' → tn i s'.heap → kap (.send .none) s'
def RG (Xg : Cx) (AC : α → List (Addr × Obj) → Prop) (End : α → Hp → Prop) : GenEnd := fun _ s0 r s =>
  ((r = .ok (.ret .none) ∨ r = .ok .next) ∧ ∃ (a : α) (σ : L2.St) (H : Hp) (cp : List (Addr × Obj)), AC a cp ∧ (∀ p ∈ cp, s0.heap.get? p.1 = some p.2) ∧ Inv Xg cp σ H s ∧ End a H) ∨ ∃ e, r = .error e ∧ False
/-- a generator's turns -/
def tGx (J : It) (g : TG) (tt : TT) (te : TE) (σ0 : L2.St) (vs : List Nat) (End : α → Hp → Prop) (Yd : α → V → Hp → (α → Hp → Prop) → Prop) (W : Nat → Nat → α → Hp → Prop) : Prop :=
  ∀ i m a H, W i m a H → (J.stop i H ∧ End a H) ∨ (J.go i H ∧ ∃ Nx : α → Hp → Prop, (∀ a' H', Nx a' H' → ∃ m', m' < m ∧ W (i + 1) m' a' H') ∧
    ∀ x H', J.yld i H x H' → g x σ0 H' fun σ2 H2 => wipe σ2 vs = σ0 ∧ tt σ2 H2 fun b H3 => if b = true then te σ2 H3 fun y H4 => Yd a y H4 Nx else Nx a H3)
theorem wipe_wipe_some {σ σ2 : L2.St} {vs : List Nat} (h : wipe σ2 vs = σ) : ∀ (j : Nat) v, σ[j]? = some (some v) → σ2[j]? = some (some v) := fun j v e => by
  rw [← h] at e
  exact (wipe_some e).1
theorem seg_gx {X : Cx} {A A' : Around} {s_0 : Shared} {H_0 : Hp} {elt tg iter : Expr} {ifs : List Expr} {scope : Scope} {pos : Pos} {it : Addr} {fp : List Addr} {tn : Nat → Heap → Prop} {J : It} {cenv : Env} {g : TG} {tt : TT} {te : TE} {σ0 : L2.St} {vs : List Nat}
    {AC : α → List (Addr × Obj) → Prop} {End : α → Hp → Prop} {Yd : α → V → Hp → (α → Hp → Prop) → Prop} {W : Nat → Nat → α → Hp → Prop}
    (hA : A.over (.compLoop (.GeneratorExp elt [⟨tg, iter, ifs, 0⟩] scope pos) 0 (.ref it) .none cenv) [] = A') (hc : X.calm = true) (hco : cenv.scope.isCoroutine = false)
    (T : Turn X.prog X.w X.K tg J fp it tn) (pg : PG (gblk X A' s_0 H_0 cenv fp) tg g) (pt : PTs (gblk X A' s_0 H_0 cenv fp) ifs tt) (pe : PE (gblk X A' s_0 H_0 cenv fp) elt te)
    (hAC : ∀ a cp, AC a cp → ∀ p ∈ cp, ∀ b ∈ fp, p.1 ≠ b) (turn : tGx J g tt te σ0 vs End Yd W) :
    ∀ (m n i : Nat) (a : α) (H : Hp) (s₀ s : Shared) (cp : List (Addr × Obj)), m < n → W i m a H → AC a cp → (∀ p ∈ cp, s₀.heap.get? p.1 = some p.2) → Inv (gblk X A' s_0 H_0 cenv fp) cp σ0 H s → tn i s.heap → (∀ b ∈ fp, H b = none) →
      Seg (model X.prog X.w) A (RG (gblk X A' s_0 H_0 cenv fp) AC End) (YG (gblk X A' s_0 H_0 cenv fp) fp tn AC Yd) n s₀
        (.compLoop (.GeneratorExp elt [⟨tg, iter, ifs, 0⟩] scope pos) 0 (.ref it) .none cenv)
        ((model X.prog X.w).den (.compLoop (.GeneratorExp elt [⟨tg, iter, ifs, 0⟩] scope pos) 0 (.ref it) .none cenv)) [] s := by
  have stat : ∀ {a : α} {cp : List (Addr × Obj)} {σ' : L2.St} {H' : Hp} {s' : Shared}, AC a cp → Inv (gblk X A' s_0 H_0 cenv fp) cp σ' H' s' → (∀ b ∈ fp, H' b = none) → ∀ b ∈ fp, FpOk (gblk X A' s_0 H_0 cenv fp) cp H' b := fun {a cp σ' H' s'} hac I' hn b hb =>
    ⟨hn b hb, (I'.ok.exf b hb).1, I'.ok.exfs b hb, .inl hb, fun x c e => (I'.ok.exf b hb).2 x c e, fun p hp => hAC a cp hac p (by simpa using hp) b hb⟩
  intro m
  induction m using Nat.strongRecOn with
  | ind m ih =>
    intro n i a H s₀ s cp hmn w hac tie I st nf
    show Seg _ A _ _ _ s₀ _ ((compTurn (.GeneratorExp elt [⟨tg, iter, ifs, 0⟩] scope pos) 0 (.ref it) .none cenv).onRaise (leaving cenv)) [] s
    rw [compTurn_gen, Sem.onRaise_eq_wrap]
    refine seg_bind_wrap (wpAny_standAt ?_)
    rcases turn i m a H w with ⟨stop, hend⟩ | ⟨go, Nx, hNx, step⟩
    · refine seg_bind_wrap ?_
      rw [hA]
      refine thnF (T.done (gblk X A' s_0 H_0 cenv fp) rfl rfl rfl hc i cp s σ0 H (fun _ _ => False) I (stat hac I nf) st stop) fun r s1 ⟨hr, I1⟩ => ?_
      subst hr
      exact seg_end (.ok .next) (.inl ⟨.inr rfl, a, _, H, cp, hac, tie, I1, hend⟩)
    · refine seg_bind_wrap ?_
      rw [hA]
      refine thnF (T.item (gblk X A' s_0 H_0 cenv fp) rfl rfl rfl hc i cp s σ0 H (fun _ _ => False) I (stat hac I nf) st go) fun r s1 ⟨u, hr, h1⟩ => ?_
      subst hr
      refine seg_bind_wrap ?_
      rw [hA]
      refine thnF h1 fun _ s2 ⟨x, H2, I2, r2, y2, st2, n2⟩ => ?_
      have I2' := I2.pinned (stat hac I2 n2) (T.obj _ _ st2)
      refine seg_bind_wrap ?_
      rw [hA]
      refine thnF (pg.run _ s2 _ H2 x u _ I2' r2 (step x H2 y2)) fun _ s3 ⟨σ3, H3, I3, hw3, q3⟩ => ?_
      refine seg_bind_wrap ?_
      rw [hA]
      refine thnF (pt.run _ s3 σ3 H3 _ I3 q3) fun b s4 ⟨H4, I4, q4⟩ => ?_
      have hl : σ0.length = σ3.length := by rw [← hw3, wipe_length]
      have fin : ∀ {s' : Shared} {H' : Hp}, Inv (gblk X A' s_0 H_0 cenv fp) (cp ++ pinsAt fp s2.heap) σ3 H' s' → Inv (gblk X A' s_0 H_0 cenv fp) cp σ0 H' s' ∧ tn (i + 1) s'.heap ∧ ∀ b ∈ fp, H' b = none := fun {s' H'} I' => by
        have pin' : ∀ b ∈ fp, ∀ o, s2.heap.get? b = some o → s'.heap.get? b = some o ∧ H' b = none := fun b hb o e =>
          let z := I'.pin (b, o) (List.mem_append_right _ (List.mem_append_right _ (mem_pinsAt hb e)))
          ⟨z.1, z.2.1⟩
        refine ⟨(I'.unpinned (pins := cp)).weak hl (wipe_wipe_some hw3), T.keep _ _ _ st2 fun b hb o e => (pin' b hb o e).1, fun b hb => ?_⟩
        obtain ⟨o, e, _⟩ := T.obj _ _ st2 b hb
        exact (pin' b hb o e).2
      cases b with
      | false =>
        simp only [Bool.false_eq_true, if_false] at q4 ⊢
        obtain ⟨m', hm, w'⟩ := hNx a H4 q4
        obtain ⟨J1, J2, J3⟩ := fin I4
        exact seg_again rfl (ih m' hm n (i + 1) a H4 s₀ s4 cp (by omega) w' hac tie J1 J2 J3)
      | true =>
        simp only [if_true] at q4 ⊢
        have hy : ∀ v, yieldOut cenv v = yieldValue v := fun v => by simp only [yieldOut, hco, Bool.false_eq_true, if_false]
        simp only [hy]
        rw [Sem.bind_eq_wrap', Sem.bind_eq_wrap', Sem.wrap_wrap, Sem.wrap_wrap]
        refine seg_wrap ?_
        rw [hA]
        refine thnF (pe.run _ s4 σ3 H4 _ I4 q4) fun yv s5 ⟨y, H5, I5, r5, q5⟩ => ?_
        obtain ⟨J1, J2, J3⟩ := fin I5
        -- at least one more
        cases n with
        | zero => exact absurd hmn (Nat.not_lt_zero _)
        | succ n =>
          refine seg_at (seg_yield rfl rfl rfl ⟨a, y, σ0, H5, i + 1, cp, Nx, r5, hac, tie, J1, J2, J3, q5, fun a' cp' s' nx hac' I' st' => ?_⟩)
          obtain ⟨m', hm, w'⟩ := hNx a' H5 nx
          exact seg_again rfl (ih m' hm n (i + 1) a' H5 s' s' cp' (by omega) w' hac' (fun p hp => (I'.pin p (List.mem_append_right _ hp)).1) I' st' J3)
end
/-! ### a generator that is made -/
section
variable {X : Cx} {pins : List (Addr × Obj)} {σ : L2.St} {H : Hp} {s : Shared}
def GenObj (o : Obj) (g : Nat) : Prop := ∃ nm qn, o.cls = .type "generator" ∧ o.data = .fields #[.int g 0, nm, qn] ∧ o.slots = #[]
theorem GenObj.isGen {o : Obj} {g : Nat} (h : GenObj o g) {a : Addr} {hp : Heap} (e : hp.get? a = some o) : hp.IsGen a g := by
  obtain ⟨nm, qn, h1, h2, h3⟩ := h
  exact ⟨o, nm, qn, e, h1, h2, h3⟩
/-- the generator u, made and not begun, in the state s5 -/
def Gx (X : Cx) (pins : List (Addr × Obj)) (σ : L2.St) (A : Around) (J : It) (g : TG) (tt : TT) (te : TE) (vs : List Nat) (H4 : Hp) (u : Value) (s5 : Shared) : Prop :=
  ∃ (A' : Around) (s_0 : Shared) (H_0 : Hp) (cenv : Env) (fp : List Addr) (ga : Addr) (gn : Nat) (go : Obj) (tn : Nat → Heap → Prop) (gs : GenState),
    u = .ref ga ∧ GenObj go gn ∧ s5.gens[gn]? = some gs ∧ gs.bare = true ∧ Inv (gblk X A' s_0 H_0 cenv fp) [(ga, go)] (wipe σ vs) H4 s5 ∧ tn 0 s5.heap ∧ (∀ b ∈ fp, H4 b = none) ∧ (∀ b ∈ fp, b < ga) ∧
    (∀ i h h', tn i h → (∀ b ∈ fp, ∀ o, h.get? b = some o → h'.get? b = some o) → tn i h') ∧ (∀ cp σ' H' s', Inv (gblk X A' s_0 H_0 cenv fp) cp σ' H' s' → Inv X pins σ H' s') ∧
    ∀ (α : Type) (AC : α → List (Addr × Obj) → Prop) (End : α → Hp → Prop) (Yd : α → V → Hp → (α → Hp → Prop) → Prop) (W : Nat → Nat → α → Hp → Prop) (m n : Nat) (a : α) (cp : List (Addr × Obj)) (s' : Shared),
      tGx J g tt te (wipe σ vs) vs End Yd W → W 0 m a H4 → m < n → (∀ a cp, AC a cp → ∀ p ∈ cp, ∀ b ∈ fp, p.1 ≠ b) → AC a cp → Inv (gblk X A' s_0 H_0 cenv fp) cp (wipe σ vs) H4 s' → tn 0 s'.heap →
      gs.Goes (model X.prog X.w) A (RG (gblk X A' s_0 H_0 cenv fp) AC End) (YG (gblk X A' s_0 H_0 cenv fp) fp tn AC Yd) n (.send .none) s'
/-- what stands about an asker -/
structure Near (A B : Around) : Prop where
  hd : B.handled = A.handled
  fr : B.frames = A.frames
  gd : B.guards = A.guards
  dp : B.depth = A.depth
  un : B.units ≤ A.units + 8
theorem gx_make {c P : Addr} {elt tg iter : Expr} {ifs : List Expr} {gpos : Pos} {scope : Scope} {own : List (Str × Nat)} {wi : TI} {g : TG} {tt : TT} {te : TE} {k : Nat} {Q' : Value → Shared → Prop} {R : It → Hp → Prop} {A : Around}
    (hr : Room (k + 1) X.A) (near : Near X.A A) (hc : X.calm = true) (hN : X.N.Nodup) (TB : GxR.TabB X.base X.mg c P) (hcode : X.env.code = .ref c) (hco : scope.isCoroutine = false) (hdot : scope.names.lookup (".0" : Str) = some NameKind.local)
    (nocell : ∀ y ∈ scope.names, y.2 ≠ .cell) (ok : BlkOk X.N X.env.scope scope own) (hi : PI X tg iter wi)
    (hg : ∀ (A' : Around) (s : Shared) (H : Hp) (C : Addr) (cl : List (Str × Addr)) (code : Value) (fp : List Addr), Room k A' → A'.guards = X.A.guards → PG (gblk X A' s H (genEnv scope cl C code builtinsNs X.env) fp) tg g)
    (ht : ∀ (A' : Around) (s : Shared) (H : Hp) (C : Addr) (cl : List (Str × Addr)) (code : Value) (fp : List Addr), Room k A' → A'.guards = X.A.guards → PTs (gblk X A' s H (genEnv scope cl C code builtinsNs X.env) fp) ifs tt)
    (he : ∀ (A' : Around) (s : Shared) (H : Hp) (C : Addr) (cl : List (Str × Addr)) (code : Value) (fp : List Addr), Room k A' → A'.guards = X.A.guards → PE (gblk X A' s H (genEnv scope cl C code builtinsNs X.env) fp) elt te)
    (hs : ∀ v, genFold iter X.env v = pure v) (I : Inv X pins σ H s) (h : wi σ H fun J H1 => GxR.TabG H1 P ∧ R J H1)
    (hQ : ∀ J H1 H2 u s5, R J H1 → GxR.Tabbed P H1 H2 → Gx X pins σ A J g tt te (own.map (·.2)) H2 u s5 → Q' u s5) :
    wpAny (model X.prog X.w) X.A (eval (.GeneratorExp elt [⟨tg, iter, ifs, 0⟩] scope gpos) X.env) Q' X.xe s := by
  have hfree : ∀ y ∈ scope.names, y.2 = .free → ∃ c, X.env.cells.lookup y.1 = some c := fun y hy e => by
    rcases ok.free y hy e with k | k
    · exact I.ok.has _ (.inl k)
    · exact I.ok.has _ (.inr k)
  refine wpAny_GeneratorExp_make hco (closure_ok hfree) nocell hdot ok.kind (by have := hr.dp; omega) ?_ hs
  refine thn (hi.run pins s σ H _ I h) fun xv s1 hx => thn hx fun itv s2 h2 => ?_
  obtain ⟨it, fp, tn, J, H2, rfl, I2, T, st2, f2, ⟨ps, hP, ht3⟩, q⟩ := h2
  refine ⟨I2.nolimit, ?_⟩
  have hPs : s2.heap.get? P = some { cls := .none, data := .fields ps } := I2.hok P _ hP
  have cd : PySem.W.CodeHd s2.heap c P := TB.code.keeps fun b u e => I2.bk b u e
  have nP : ∀ b, H2 b = none → b ≠ P := fun b e z => by
    rw [z, hP] at e
    cases e
  have cont : ∀ (code : Value) (h3 : Heap) (tk : Nat) (ps' : Array Value), Heap.ExtBut P s2.heap h3 → s2.heap.objs.size ≤ h3.objs.size → h3.get? P = some { cls := .none, data := .fields ps' } → (∃ more, ps' = ps ++ more) → TriplesOk ps'.toList →
      wpAny (model X.prog X.w) X.A (builtinsFor X.env.globals X.env.builtins) (fun bi s₄ =>
        ∀ h', h'.Ns s₄.heap.objs.size (fun y => if y = ".0" then some (Value.ref it) else none) → Heap.SameBut s₄.heap.objs.size (s₄.heap.push { cls := .type "frame", data := .dict #[] }) h' →
          Q' (.ref h'.objs.size) { s₄ with
            gens := s₄.gens.push (.fresh (.compStart (.GeneratorExp elt [⟨tg, iter, ifs, 0⟩] scope gpos) 0 (.ref it) .none (genEnv scope (cloFrom X.env.cells scope.names []) s₄.heap.objs.size code bi X.env))),
            toks := s₄.toks + 1 + 1 + 1,
            heap := h'.push { cls := .type "generator", data := .fields #[.int s₄.gens.size 0, .str "<genexpr>" (s₄.toks + 1), .str (X.env.qual ++ "<genexpr>") (s₄.toks + 1 + 1)] } }) X.xe { s2 with heap := h3, toks := tk } := by
    rintro code h3 tk ps' hx hsz hP3 ⟨more, rfl⟩ ht4
    obtain ⟨bm, ob, e1, e2, e3, e4, e5, e6, e7, e8⟩ := TB.bm
    refine wpAny_builtinsFor (m := X.mg) (by rw [I2.ok.glob]; exact (I2.mod.glob.keeps I2.bk).extBut hx TB.gP) e1 e2 (hx _ _ e4 (I2.bk _ _ e5)) e6 e7 e8 ?_
    intro h' hns hsb
    have I3 : Inv X pins σ (upd H2 P (.tbl (ps ++ more))) { s2 with heap := h3, toks := tk } := GxR.inv_tab (g' := s2.gens) (d' := s2.drawn) I2 hP (fun b o hb e => hx b o hb e) hP3 I2.bare
    have lt2 : ∀ b ∈ fp, b < s2.heap.objs.size := fun b hb => by
      obtain ⟨o, e, _⟩ := T.obj _ _ st2 b hb
      exact Heap.lt_size e
    have f3 : ∀ b ∈ fp, FpOk X pins (upd H2 P (.tbl (ps ++ more))) b ∧ b < ({ s2 with heap := h3, toks := tk } : Shared).heap.objs.size := fun b hb => by
      refine ⟨⟨?_, (f2 b hb).2⟩, Nat.lt_of_lt_of_le (lt2 b hb) hsz⟩
      rw [upd_ne (nP b (f2 b hb).1)]
      exact (f2 b hb).1
    have st3 : tn 0 h3 := T.keep _ _ _ st2 fun b hb o e => hx b o (nP b (f2 b hb).1) e
    generalize hs4 : ({ s2 with heap := h3, toks := tk } : Shared) = s4 at I3 f3 hns hsb ⊢
    have h4 : s4.heap = h3 := by rw [← hs4]
    have hsz4 : h'.objs.size = s4.heap.objs.size + 1 := by rw [hsb.1, Heap.size_push]
    have keep' : ∀ b o, s4.heap.get? b = some o → h'.get? b = some o := fun b o e => hsb.extBut b o (Nat.ne_of_lt (Heap.lt_size e)) (Heap.get?_push_of_some _ e)
    generalize hgo : ({ cls := .type "generator", data := .fields #[.int s4.gens.size 0, .str "<genexpr>" (s4.toks + 1), .str (X.env.qual ++ "<genexpr>") (s4.toks + 1 + 1)] } : Obj) = go
    have hGO : GenObj go s4.gens.size := by rw [← hgo]; exact ⟨_, _, rfl, rfl, rfl⟩
    have k5 : ∀ b o, s4.heap.get? b = some o → (h'.push go).get? b = some o := fun b o e => Heap.get?_push_of_some _ (keep' b o e)
    have pg := fun A' => hg A' s4 (upd H2 P (.tbl (ps ++ more))) s4.heap.objs.size (cloFrom X.env.cells scope.names []) code fp
    have pt := fun A' => ht A' s4 (upd H2 P (.tbl (ps ++ more))) s4.heap.objs.size (cloFrom X.env.cells scope.names []) code fp
    have pe := fun A' => he A' s4 (upd H2 P (.tbl (ps ++ more))) s4.heap.objs.size (cloFrom X.env.cells scope.names []) code fp
    generalize hce : genEnv scope (cloFrom X.env.cells scope.names []) s4.heap.objs.size code builtinsNs X.env = cenv at pg pt pe ⊢
    have hscn : cenv.scope = scope := by rw [← hce]; rfl
    generalize hA' : A.over (.compLoop (.GeneratorExp elt [⟨tg, iter, ifs, 0⟩] scope gpos) 0 (.ref it) .none cenv) [] = A'
    have hfrA : A'.frames = some (cenv :: X.stack) := by
      rw [← hA']
      show pushEnvs [cenv] A.frames = _
      rw [near.fr, I2.ok.frames]
      rfl
    have hhd : A'.handled = none := by
      rw [← hA']
      show A.handled = none
      rw [near.hd]
      exact hr.hd
    have rm : Room k A' := by
      refine ⟨hhd, ?_, ?_⟩
      · have := hr.dp
        have := near.dp
        rw [← hA']
        show A.depth + 0 + 1 + 3 * k + 5 < _
        omega
      · have := hr.un
        have := near.un
        rw [← hA']
        show A.units + 0 + 3 + 16 * k + 200 < _
        omega
    have gdA : A'.guards = X.A.guards := by
      rw [← hA']
      show pushGuards [] A.guards = _
      rw [near.gd]
      rfl
    have I5 : Inv (gblk X A' s4 (upd H2 P (.tbl (ps ++ more))) cenv fp) [(h'.objs.size, go)] (wipe σ (own.map (·.2))) (upd H2 P (.tbl (ps ++ more)))
        { s4 with gens := s4.gens.push (.fresh (.compStart (.GeneratorExp elt [⟨tg, iter, ifs, 0⟩] scope gpos) 0 (.ref it) .none cenv)), toks := s4.toks + 1 + 1 + 1, heap := h'.push go } := by
      subst hce
      refine gen_start (it := .ref it) I3 ok nocell hN f3 hhd hfrA rfl (I3.bare.push rfl) k5 (hns.push _) fun p hp => ?_
      have e : p = (h'.objs.size, go) := by simpa using hp
      subst e
      refine ⟨by show s4.heap.objs.size < h'.objs.size; omega, Heap.get?_push_size _ (by rw [← hgo]; rfl), fun v z => ?_⟩
      rw [← hgo] at z
      cases z
    refine hQ J H2 _ _ _ q ⟨⟨_, upd_same, ht4⟩, fun b hb => upd_ne hb⟩ ⟨A', s4, _, cenv, fp, h'.objs.size, s4.gens.size, go, tn, _, rfl, hGO, Array.getElem?_push_size .., rfl, I5, ?_, fun b hb => (f3 b hb).1.1, fun b hb => ?_, T.keep, fun cp σ' H' s' I' => ?_, ?_⟩
    · exact T.keep _ _ _ st3 fun b _ o e => k5 b o (by rw [h4]; exact e)
    · have := (f3 b hb).2
      rw [hsz4]
      exact Nat.lt_succ_of_lt this
    · exact I3.call' (ch := fp) I'.os I'.base I'.hok I'.bare fun b hb => ⟨(f3 b hb).1.2.2.2.1, (f3 b hb).1.2.1, (f3 b hb).1.2.2.2.2.1, (f3 b hb).1.2.2.2.2.2⟩
    · intro α AC End Yd W m n a cp s' turn w hmn hAC hac I' st'
      refine ⟨rfl, ?_⟩
      have loop := seg_gx (A := A) (pos := gpos) (iter := iter) (scope := scope) hA' hc (by rw [hscn]; exact hco) T (pg A' rm gdA) (pt A' rm gdA) (pe A' rm gdA) hAC turn m n 0 a _ s' s' cp hmn w hac (fun p hp => (I'.pin p (List.mem_append_right _ hp)).1) I' st' fun b hb => (f3 b hb).1.1
      show Seg _ A _ _ _ s' _ ((compStart (.GeneratorExp elt [⟨tg, iter, ifs, 0⟩] scope gpos) 0 (.ref it) .none cenv).onRaise (leaving cenv)) [] s'
      unfold compStart
      rw [Sem.onRaise_eq_wrap]
      show Seg _ A _ _ _ s' _ ((ask >>= _).wrap _ _ _ _) [] s'
      refine seg_bind_wrap (wpAny_askSetting ?_)
      split
      · exact seg_again rfl loop
      · first
          | exact seg_bind_wrap (wpAny_rule (seg_bind_wrap (wpAny_standAt (seg_bind_wrap (T.self _ 0 s' _ _ st' (seg_again rfl loop))))))
          | (refine seg_bind_wrap (wpAny_rule ?_); show Seg _ A _ _ _ s' _ ((standAt iter.pos >>= _).wrap _ _ _ _) [] s'; exact seg_bind_wrap (wpAny_standAt (seg_bind_wrap (T.self _ 0 s' _ _ st' (seg_again rfl loop)))))
  cases hf : codeAmong gpos ps.toList with
  | none =>
    refine wpAny_genexprCodeX hcode (cd.code hPs ht3) (cd.tab hPs) hf fun c' h' tk hx hge hlt hco' _ htab' _ => ?_
    obtain ⟨o1, vs, f1, tf, fl, tg, inF, tx, tt, op, _, _, _, _, _, _, _, _, _, htr, _⟩ := hco'
    exact cont _ h' tk _ hx (Nat.le_trans hge (Nat.le_of_lt hlt)) htab'.2 ⟨_, rfl⟩ htr
  | some cv =>
    refine wpAny_genexprCode_hit hcode (cd.code hPs ht3) hf ?_
    exact cont cv s2.heap s2.toks ps (Heap.ExtBut.refl _ _) (Nat.le_refl _) hPs ⟨#[], by simp⟩ ht3
end
/-! ### asking -/
section
variable {α : Type} {X : Cx} {A A' : Around} {s_0 : Shared} {H_0 : Hp} {cenv : Env} {fp : List Addr} {tn : Nat → Heap → Prop} {AC : α → List (Addr × Obj) → Prop} {End : α → Hp → Prop} {Yd : α → V → Hp → (α → Hp → Prop) → Prop} {ga : Addr} {gn n : Nat} {go : Obj}
theorem next_gx2 {gs : GenState} {s : Shared} {Q : Option Value → Shared → Prop} {E : Value → Shared → Prop} (hh : A.handled = none) (hroom : A.depth < recursionLimit) (hl : s.heap.NoLimit) (hG : GenObj go gn) (e : s.heap.get? ga = some go) (hgs : s.gens[gn]? = some gs)
    (hgo : gs.Goes (model X.prog X.w) A.in1 (RG (gblk X A' s_0 H_0 cenv fp) AC End) (YG (gblk X A' s_0 H_0 cenv fp) fp tn AC Yd) n (.send .none) (s.setGen gn .running))
    (item : ∀ (a : α) (x : V) (σ : L2.St) (H : Hp) (i : Nat) (cp : List (Addr × Obj)) (Nx : α → Hp → Prop) (v : Value) (s1 : Shared) (gs' : GenState), RelV x v → AC a cp → (∀ p ∈ cp, s.heap.get? p.1 = some p.2) → Inv (gblk X A' s_0 H_0 cenv fp) cp σ H s1 → tn i s1.heap → Yd a x H Nx → s1.gens[gn]? = some gs' →
      (∀ a' cp' s', Nx a' H → AC a' cp' → Inv (gblk X A' s_0 H_0 cenv fp) cp' σ H s' → tn i s'.heap → ∃ m, n = m + 1 ∧ gs'.Goes (model X.prog X.w) A.in1 (RG (gblk X A' s_0 H_0 cenv fp) AC End) (YG (gblk X A' s_0 H_0 cenv fp) fp tn AC Yd) m (.send .none) s') → Q (some v) s1)
    (done : ∀ (a : α) (σ : L2.St) (H : Hp) (cp : List (Addr × Obj)) (s1 : Shared), AC a cp → (∀ p ∈ cp, s.heap.get? p.1 = some p.2) → Inv (gblk X A' s_0 H_0 cenv fp) cp σ H s1 → End a H → Q none s1) :
    wpAny (model X.prog X.w) A (pyNext (.ref ga)) Q E s := by
  have hgl : gn < s.gens.size := (Array.getElem?_eq_some_iff.mp hgs).1
  refine GenW.wpAny_gsz (n := gn + 1) hgl (next_genG (Er := fun _ _ => False) hh hl hroom (hG.isGen e) hgs hgo (fun v s₁ gs' hbare hv => ?_) (fun s₁ hp h' hk => ?_) fun e s₁ he => he.elim)
  · intro hsz
    obtain ⟨a, x, σ, H, i, cp, Nx, r, hac, tie, I, st, nf, hy, kap⟩ := hv
    have hsz1 : gn < s₁.gens.size := by
      have q : (s₁.setGen gn gs').gens.size = s₁.gens.size := GenW.setGen_size _ _ _
      have hsz' : gn + 1 ≤ (s₁.setGen gn gs').gens.size := hsz
      omega
    refine item a x σ H i cp Nx v (s₁.setGen gn gs') gs' r hac tie (inv_moved I rfl (allBare_setGen I.bare hbare) fun _ _ q => q) st hy (setGen_at hsz1) fun a' cp' s' nx hac' I' st' => ?_
    have z := kap a' cp' s' nx hac' I' st'
    cases n with
    | zero => exact z.elim
    | succ m => exact ⟨m, rfl, z⟩
  · intro _
    obtain ⟨a, σ, H, cp, hac, tie, I, q⟩ := hp
    exact done a σ H cp _ hac tie (inv_moved I rfl (allBare_setGen I.bare rfl) hk) q
theorem next_gx {gs : GenState} {s : Shared} {Q : Option Value → Shared → Prop} {E : Value → Shared → Prop} (hh : A.handled = none) (hroom : A.depth < recursionLimit) (hl : s.heap.NoLimit) (hG : GenObj go gn) (e : s.heap.get? ga = some go) (hgs : s.gens[gn]? = some gs)
    (hgo : gs.Goes (model X.prog X.w) A.in1 (RG (gblk X A' s_0 H_0 cenv fp) AC End) (YG (gblk X A' s_0 H_0 cenv fp) fp tn AC Yd) n (.send .none) (s.setGen gn .running))
    (item : ∀ (a : α) (x : V) (σ : L2.St) (H : Hp) (i : Nat) (cp : List (Addr × Obj)) (Nx : α → Hp → Prop) (v : Value) (s1 : Shared) (gs' : GenState), RelV x v → AC a cp → Inv (gblk X A' s_0 H_0 cenv fp) cp σ H s1 → tn i s1.heap → Yd a x H Nx → s1.gens[gn]? = some gs' →
      (∀ a' cp' s', Nx a' H → AC a' cp' → Inv (gblk X A' s_0 H_0 cenv fp) cp' σ H s' → tn i s'.heap → ∃ m, n = m + 1 ∧ gs'.Goes (model X.prog X.w) A.in1 (RG (gblk X A' s_0 H_0 cenv fp) AC End) (YG (gblk X A' s_0 H_0 cenv fp) fp tn AC Yd) m (.send .none) s') → Q (some v) s1)
    (done : ∀ (a : α) (σ : L2.St) (H : Hp) (cp : List (Addr × Obj)) (s1 : Shared), AC a cp → Inv (gblk X A' s_0 H_0 cenv fp) cp σ H s1 → End a H → Q none s1) :
    wpAny (model X.prog X.w) A (pyNext (.ref ga)) Q E s :=
  next_gx2 hh hroom hl hG e hgs hgo (fun a x σ H i cp Nx v s1 gs' r hac _ I st hy at_ kap => item a x σ H i cp Nx v s1 gs' r hac I st hy at_ kap) fun a σ H cp s1 hac _ I q => done a σ H cp s1 hac I q
/-- all(..) asks on -/
theorem all_gx {R : Result → Shared → Prop} {Stop : Hp → Prop} {End : Unit → Hp → Prop} (hh : A.handled = none) (hroom : A.depth < recursionLimit) (hG : GenObj go gn)
    (yes : ∀ (σ : L2.St) (H : Hp) (cp : List (Addr × Obj)) (s1 : Shared), Inv (gblk X A' s_0 H_0 cenv fp) cp σ H s1 → End () H → R (.ok (.ret (.bool true))) s1)
    (no : ∀ (σ : L2.St) (H : Hp) (cp : List (Addr × Obj)) (s1 : Shared), Inv (gblk X A' s_0 H_0 cenv fp) cp σ H s1 → Stop H → R (.ok (.ret (.bool false))) s1) :
    ∀ (n : Nat) (s : Shared), s.heap.NoLimit → s.heap.get? ga = some go → (∃ gs, s.gens[gn]? = some gs ∧ gs.Goes (model X.prog X.w) A.in1.in1 (RG (gblk X A' s_0 H_0 cenv fp) (fun _ cp => cp = [(ga, go)]) End)
      (YG (gblk X A' s_0 H_0 cenv fp) fp tn (fun _ cp => cp = [(ga, go)]) (fun _ y H Nx => ∃ b : Bool, y = .bl b ∧ if b = true then Nx () H else Stop H)) n (.send .none) (s.setGen gn .running)) →
      codeAny (model X.prog X.w) A (.builtin "all.loop" ⟨[.ref ga], []⟩) R s := by
  intro n
  induction n with
  | zero =>
    rintro s hl e ⟨gs, hgs, hgo⟩
    refine codeAny_builtin F.entry_all_loop ?_
    rw [Around.under_plainId F.plain_all_loop _]
    show wpAny _ A.in1 (pyNext (.ref ga) >>= _) _ _ s
    refine wpAny_bind (next_gx (A := A.in1) hh hroom hl hG e hgs hgo (fun a x σ H i cp Nx v s1 gs' r hac I st hy at_ kap => ?_) fun a σ H cp s1 hac I q => ?_)
    · obtain ⟨b, rfl, hb⟩ := hy
      cases (show v = Value.bool b from r)
      refine wpAny_bind (wpAny_holding (wpAny_truthy_bool ?_))
      refine wpAny_bind (wpAny_letGo ?_)
      cases b with
      | true =>
        obtain ⟨m, hm, _⟩ := kap () cp s1 hb hac I st
        cases hm
      | false =>
        simp only [Bool.false_eq_true, if_false] at hb ⊢
        exact wpAny_bind (wpAny_rule (wpAny_pure (no σ H cp s1 I hb)))
    · exact wpAny_bind (wpAny_rule (wpAny_pure (yes σ H cp s1 I q)))
  | succ n ih =>
    rintro s hl e ⟨gs, hgs, hgo⟩
    refine codeAny_builtin F.entry_all_loop ?_
    rw [Around.under_plainId F.plain_all_loop _]
    show wpAny _ A.in1 (pyNext (.ref ga) >>= _) _ _ s
    refine wpAny_bind (next_gx (A := A.in1) hh hroom hl hG e hgs hgo (fun a x σ H i cp Nx v s1 gs' r hac I st hy at_ kap => ?_) fun a σ H cp s1 hac I q => ?_)
    · obtain ⟨b, rfl, hb⟩ := hy
      cases (show v = Value.bool b from r)
      refine wpAny_bind (wpAny_holding (wpAny_truthy_bool ?_))
      refine wpAny_bind (wpAny_letGo ?_)
      cases b with
      | true =>
        simp only [if_true] at hb ⊢
        subst hac
        refine wpAny_pure ⟨plainId_quiet F.plain_all_loop _, ih s1 I.nolimit (I.pin (ga, go) (List.mem_append_right _ List.mem_cons_self)).1 ⟨gs', at_, ?_⟩⟩
        obtain ⟨m, hm, z⟩ := kap () [(ga, go)] (s1.setGen gn .running) hb rfl (inv_moved I rfl (allBare_setGen I.bare rfl) fun _ _ q => q) st
        cases hm
        exact z
      | false =>
        simp only [Bool.false_eq_true, if_false] at hb ⊢
        exact wpAny_bind (wpAny_rule (wpAny_pure (no σ H cp s1 I hb)))
    · exact wpAny_bind (wpAny_rule (wpAny_pure (yes σ H cp s1 I q)))
end
section
variable {X : Cx}
/-- all(elt for tg in iter ..) -/
def tAllX (P : Addr) (wi : TI) (g : TG) (tt : TT) (te : TE) (vs : List Nat) : TE := fun σ H Q => wi σ H fun J H1 => GxR.TabG H1 P ∧ ∀ H2, GxR.Tabbed P H1 H2 → ∃ W : Nat → Nat → Unit → Hp → Prop, (∃ m, W 0 m () H2) ∧
  tGx J g tt te (wipe σ vs) vs (fun _ H => Q (.bl true) H) (fun _ y H Nx => ∃ b : Bool, y = .bl b ∧ if b = true then Nx () H else Q (.bl false) H) W
theorem pe_allX {c P : Addr} {elt tg iter : Expr} {ifs : List Expr} {p pos gpos : Pos} {scope : Scope} {own : List (Str × Nat)} {wi : TI} {g : TG} {tt : TT} {te : TE} {k : Nat}
    (hr : Room (k + 1) X.A) (hc : X.calm = true) (hN : X.N.Nodup) (hgl : Gl X "all") (hm : X.mg "all" = none) (hb : bootBuiltins "all" = some (.builtin "all")) (TB : GxR.TabB X.base X.mg c P) (hcode : X.env.code = .ref c)
    (hco : scope.isCoroutine = false) (hdot : scope.names.lookup (".0" : Str) = some NameKind.local) (nocell : ∀ y ∈ scope.names, y.2 ≠ .cell) (ok : BlkOk X.N X.env.scope scope own) (hi : PI X tg iter wi)
    (hg : ∀ (A' : Around) (s : Shared) (H : Hp) (C : Addr) (cl : List (Str × Addr)) (code : Value) (fp : List Addr), Room k A' → A'.guards = X.A.guards → PG (gblk X A' s H (genEnv scope cl C code builtinsNs X.env) fp) tg g)
    (ht : ∀ (A' : Around) (s : Shared) (H : Hp) (C : Addr) (cl : List (Str × Addr)) (code : Value) (fp : List Addr), Room k A' → A'.guards = X.A.guards → PTs (gblk X A' s H (genEnv scope cl C code builtinsNs X.env) fp) ifs tt)
    (he : ∀ (A' : Around) (s : Shared) (H : Hp) (C : Addr) (cl : List (Str × Addr)) (code : Value) (fp : List Addr), Room k A' → A'.guards = X.A.guards → PE (gblk X A' s H (genEnv scope cl C code builtinsNs X.env) fp) elt te)
    (hs : ∀ v, genFold iter X.env v = pure v)
    (hst : starEach [.GeneratorExp elt [⟨tg, iter, ifs, 0⟩] scope gpos] X.env = (false, eval (.GeneratorExp elt [⟨tg, iter, ifs, 0⟩] scope gpos) X.env) :: starEach [] X.env := by rfl) :
    PE X (.Call (.Name "all" p) [.GeneratorExp elt [⟨tg, iter, ifs, 0⟩] scope gpos] [] pos) (tAllX P wi g tt te (own.map (·.2))) := by
  refine ⟨fun pins s σ H Q I h => ?_⟩
  refine wpAny_Call_Name_kw (ld_blt I hgl hm hb ?_)
  refine PyProof.Rows.callWith_builtin1 ?_ hst (by rfl)
  rw [hst]
  show wpAny _ _ (spliced ((false, eval (.GeneratorExp elt [⟨tg, iter, ifs, 0⟩] scope gpos) X.env) :: backTo pos (starEach [] X.env))) _ _ s
  refine Calls.spliced_cons (gx_make (A := X.A.in1.in1) hr ⟨rfl, rfl, rfl, rfl, (by show X.A.units + 1 + 1 ≤ _; omega)⟩ hc hN TB hcode hco hdot nocell ok hi hg ht he hs I h fun J H1 H2 u s5 hR hT hG => ?_)
  obtain ⟨A', s_0, H_0, cenv, fp, ga, gn, go, tn, gs, rfl, hGO, hgs, hbare, I5, st5, nf, hlt, keep, back, goes⟩ := hG
  obtain ⟨W, ⟨m, w0⟩, turn⟩ := hR H2 hT
  refine Calls.spliced_nil ?_
  have pin5 := (I5.pin (ga, go) (List.mem_append_right _ List.mem_cons_self)).1
  refine call_function_tree F.kind_all F.plain_all F.entry_all (F.args_all1 _) ?_
  unfold Builtin.«all»
  refine wpAny_bind (m := oneArg "all" _) (wpAny_pure ?_)
  refine wpAny_bind (wpAny_pyIter_gen (hGO.isGen pin5) ?_)
  refine wpAny_pure ⟨plainId_quiet F.plain_all_loop _, all_gx (A' := A') (s_0 := s_0) (H_0 := H_0) (cenv := cenv) (fp := fp) (tn := tn) (go := go) (gn := gn) (Stop := fun H => Q (.bl false) H) (End := fun _ H => Q (.bl true) H) hr.hd hr.depth hGO
    (fun σ' H' cp s1 I1 q => ⟨.bl true, H', back _ _ _ _ I1, rfl, q⟩) (fun σ' H' cp s1 I1 q => ⟨.bl false, H', back _ _ _ _ I1, rfl, q⟩) (m + 1) s5 I5.nolimit pin5 ⟨gs, hgs, ?_⟩⟩
  refine goes Unit _ _ _ W m (m + 1) () [(ga, go)] _ turn w0 (Nat.lt_succ_self _) (fun a cp hac p hp b hb z => ?_) rfl (inv_moved I5 rfl (allBare_setGen I5.bare rfl) fun _ _ q => q) st5
  subst hac
  have e : p = (ga, go) := by simpa using hp
  subst e
  exact absurd (hlt b hb) (by rw [← z]; exact Nat.lt_irrefl _)
end
/-! ### tuple(..) -/
section
variable {X : Cx} {A A' : Around} {s_0 : Shared} {H_0 : Hp} {cenv : Env} {fp : List Addr} {tn : Nat → Heap → Prop} {ga S : Addr} {gn n : Nat} {go : Obj}
/-- the asker's list S holds what is out -/
def ACl (ga : Addr) (go : Obj) (S : Addr) (ys : List V) (cp : List (Addr × Obj)) : Prop := ∃ (acc : Array Value) (c : Nat), cp = [(ga, go), (S, lstObj acc c)] ∧ Vals ys acc.toList
def YdL (ys : List V) (y : V) (H : Hp) (Nx : List V → Hp → Prop) : Prop := ys.length < sizeLine ∧ Nx (ys ++ [y]) H
theorem ext_gx {R : Result → Shared → Prop} {End : List V → Hp → Prop} {res : Value} (hh : A.handled = none) (hroom : A.depth < recursionLimit) (hG : GenObj go gn) (hSa : S ≠ ga) (far : (gblk X A' s_0 H_0 cenv fp).s_0.heap.objs.size ≤ S) (hSc : ∀ x c, cenv.cells.lookup x = some c → c ≠ S)
    (keep : ∀ i h h', tn i h → (∀ b ∈ fp, ∀ o, h.get? b = some o → h'.get? b = some o) → tn i h') (hSf : ∀ b ∈ fp, b ≠ S)
    (yes : ∀ (σ : L2.St) (H : Hp) (ys : List V) (acc : Array Value) (c : Nat) (s1 : Shared), Inv (gblk X A' s_0 H_0 cenv fp) [(ga, go), (S, lstObj acc c)] σ H s1 → Vals ys acc.toList → End ys H → R (.ok (.ret res)) s1) :
    ∀ (n : Nat) (s : Shared), s.heap.NoLimit → s.heap.get? ga = some go → (∃ gs, s.gens[gn]? = some gs ∧ gs.Goes (model X.prog X.w) A.in1.in1 (RG (gblk X A' s_0 H_0 cenv fp) (ACl ga go S) End)
      (YG (gblk X A' s_0 H_0 cenv fp) fp tn (ACl ga go S) YdL) n (.send .none) (s.setGen gn .running)) →
      codeAny (model X.prog X.w) A (.builtin "list.extend.loop" ⟨[.ref S, .ref ga, res], []⟩) R s := by
  intro n
  induction n with
  | zero =>
    rintro s hl e ⟨gs, hgs, hgo⟩
    refine codeAny_builtin F.entry_extend_loop ?_
    rw [Around.under_plainId F.plain_extend_loop _]
    show wpAny _ A.in1 (pyNext (.ref ga) >>= _) _ _ s
    refine wpAny_bind (next_gx (A := A.in1) hh hroom hl hG e hgs hgo (fun ys x σ H i cp Nx v s1 gs' r hac I st hy at_ kap => ?_) fun ys σ H cp s1 hac I q => ?_)
    · obtain ⟨acc, c, rfl, rv⟩ := hac
      have pS := I.pin (S, lstObj acc c) (List.mem_append_right _ (List.mem_cons_of_mem _ List.mem_cons_self))
      have I0 : Inv (gblk X A' s_0 H_0 cenv fp) [(ga, go)] σ H s1 := I.pins_of fun p hp => I.pin p (List.mem_append_right _ (by rw [List.mem_singleton.mp hp]; exact List.mem_cons_self))
      have I1 := I0.turned (t' := s1.toks) (h' := s1.heap.update S (Obj.mapSeq (·.push v))) (it := S) (fun b o hb q => (Heap.get?_update_other _ _ (Ne.symm hb)).trans q) pS.2.1 pS.2.2.1 (.inr far) hSc (fun p hp => by rw [List.mem_singleton.mp (show p ∈ [(ga, go)] by simpa using hp)]; exact Ne.symm hSa)
      have e2 := Heap.get?_update_self (Obj.mapSeq (·.push v)) pS.1 rfl
      obtain ⟨m, hm, _⟩ := kap (ys ++ [x]) [(ga, go), (S, _)] _ hy.2 ⟨acc.push v, _, rfl, by rw [Array.toList_push]; exact rv.append (.cons r .nil)⟩ (I1.pins_of fun p hp => by
        rcases List.mem_cons.mp hp with z | z
        · rw [z]; exact I1.pin (ga, go) (List.mem_append_right _ List.mem_cons_self)
        · rw [List.mem_singleton.mp z]; exact ⟨e2, pS.2.1, pS.2.2.1, pS.2.2.2.1, fun v q => by cases q⟩) (keep _ _ _ st fun b hb o q => (Heap.get?_update_other _ _ (Ne.symm (hSf b hb))).trans q)
      cases hm
    · obtain ⟨acc, c, rfl, rv⟩ := hac
      exact wpAny_pure (yes σ H ys acc c s1 I rv q)
  | succ n ih =>
    rintro s hl e ⟨gs, hgs, hgo⟩
    refine codeAny_builtin F.entry_extend_loop ?_
    rw [Around.under_plainId F.plain_extend_loop _]
    show wpAny _ A.in1 (pyNext (.ref ga) >>= _) _ _ s
    refine wpAny_bind (next_gx (A := A.in1) hh hroom hl hG e hgs hgo (fun ys x σ H i cp Nx v s1 gs' r hac I st hy at_ kap => ?_) fun ys σ H cp s1 hac I q => ?_)
    · obtain ⟨acc, c, rfl, rv⟩ := hac
      have pS := I.pin (S, lstObj acc c) (List.mem_append_right _ (List.mem_cons_of_mem _ List.mem_cons_self))
      have I0 : Inv (gblk X A' s_0 H_0 cenv fp) [(ga, go)] σ H s1 := I.pins_of fun p hp => I.pin p (List.mem_append_right _ (by rw [List.mem_singleton.mp hp]; exact List.mem_cons_self))
      have I1 := I0.turned (t' := s1.toks) (h' := s1.heap.update S (Obj.mapSeq (·.push v))) (it := S) (fun b o hb q => (Heap.get?_update_other _ _ (Ne.symm hb)).trans q) pS.2.1 pS.2.2.1 (.inr far) hSc (fun p hp => by rw [List.mem_singleton.mp (show p ∈ [(ga, go)] by simpa using hp)]; exact Ne.symm hSa)
      have e2 := Heap.get?_update_self (Obj.mapSeq (·.push v)) pS.1 rfl
      have hln := rv.length
      have hlt : acc.size < sizeLine := by
        have := hy.1
        rw [hln] at this
        simpa using this
      have pG := I1.pin (ga, go) (List.mem_append_right _ List.mem_cons_self)
      show wpAny _ A.in1 (updateSeq S (·.push v) >>= _) _ _ _
      refine wpAny_bind ?_
      refine wpAny_updateSeq pS.1 rfl (wpAny_pure ⟨plainId_quiet F.plain_extend_loop _, ih _ I1.nolimit pG.1 ⟨gs', at_, ?_⟩⟩) (Nat.le_of_lt hlt) (by show (acc.push v).size ≤ sizeLine + 1; rw [Array.size_push]; omega)
      obtain ⟨m, hm, z⟩ := kap (ys ++ [x]) [(ga, go), (S, _)] (({ s1 with heap := s1.heap.update S (Obj.mapSeq (·.push v)) } : Shared).setGen gn .running) hy.2 ⟨acc.push v, _, rfl, by rw [Array.toList_push]; exact rv.append (.cons r .nil)⟩ (inv_moved (I1.pins_of fun p hp => by
        rcases List.mem_cons.mp hp with z | z
        · rw [z]; exact pG
        · rw [List.mem_singleton.mp z]; exact ⟨e2, pS.2.1, pS.2.2.1, pS.2.2.2.1, fun v q => by cases q⟩) rfl (allBare_setGen (s := { s1 with heap := s1.heap.update S (Obj.mapSeq (·.push v)) }) I1.bare rfl) fun _ _ q => q) (keep _ _ _ st fun b hb o q => (Heap.get?_update_other _ _ (Ne.symm (hSf b hb))).trans q)
      cases hm
      exact z
    · obtain ⟨acc, c, rfl, rv⟩ := hac
      exact wpAny_pure (yes σ H ys acc c s1 I rv q)
end
section
variable {X : Cx} {pins : List (Addr × Obj)} {σ : L2.St} {s5 : Shared} {J : It} {g : TG} {tt : TT} {te : TE} {vs : List Nat} {H4 : Hp} {u : Value}
/-- all that a generator hands out, in a list of the asker's own -/
theorem collect_gx {A : Around} {E : Value → Shared → Prop} {Q : List Value → Shared → Prop} {End : List V → Hp → Prop} {W : Nat → Nat → List V → Hp → Prop} {m : Nat} (hh : A.handled = none) (hroom : A.depth < recursionLimit) (G : Gx X pins σ A.in1.in1 J g tt te vs H4 u s5)
    (w0 : W 0 m [] H4) (turn : tGx J g tt te (wipe σ vs) vs End YdL W)
    (hQ : ∀ (s' : Shared) (acc : Array Value) (ys : List V) (H' : Hp), Inv X pins σ H' s' → Vals ys acc.toList → End ys H' → Q acc.toList s') : wpAny (model X.prog X.w) A (collect u) Q E s5 := by
  obtain ⟨A', s_0, H_0, cenv, fp, ga, gn, go, tn, gs, rfl, hGO, hgs, hbare, I5, st5, nf, hlt, keep, back, goes⟩ := G
  have pin5 := I5.pin (ga, go) (List.mem_append_right _ List.mem_cons_self)
  have glt : ga < s5.heap.objs.size := Heap.lt_size pin5.1
  have hSI : s5.heap.objs.size ≠ ga := Nat.ne_of_gt glt
  unfold collect
  refine wpAny_bind (wpAny_runValue (codeAny_builtin F.entry_proto_collect ?_))
  rw [Around.under_plainId F.plain_proto_collect _]
  show wpAny _ A.in1 (newList [] >>= fun l => again (.builtin "list.__iadd__" ⟨[l, .ref ga], []⟩)) _ _ s5
  refine wpAny_bind (wpAny_newObj_type ?_)
  refine wpAny_pure ⟨plainId_quiet F.plain_list_iadd _, codeAny_builtin F.entry_list_iadd ?_⟩
  rw [Around.under_plainId F.plain_list_iadd _]
  show wpAny _ A.in1 (Builtin.List.listExtendWith (.ref s5.heap.objs.size) (.ref ga) (.ref s5.heap.objs.size)) _ _ _
  unfold Builtin.List.listExtendWith
  have k1 : ∀ b o, s5.heap.get? b = some o → (s5.heap.push { cls := .type "list", data := .seq ([] : List Value).toArray }).get? b = some o := fun b o e => Heap.get?_push_of_some _ e
  have hT : Shared.TypeIs { s5 with heap := s5.heap.push { cls := .type "list", data := .seq ([] : List Value).toArray } } (.ref ga) "generator" := Heap.IsGen.typeIs (s := { s5 with heap := _ }) (hGO.isGen (k1 _ _ pin5.1))
  refine wpAny_bind (wpAny_typeOf hT ?_)
  have h1 : Builtin.List.listSameRef (.ref s5.heap.objs.size) (.ref ga) = false := by simp [Builtin.List.listSameRef, hSI]
  have h2 : (Value.type "generator" == Value.type "list") = false := by decide
  have h3 : (Value.type "generator" == Value.type "tuple") = false := by decide
  simp only [h1, h2, h3, Bool.or_false, Bool.false_eq_true, if_false]
  refine wpAny_bind (wpAny_pyIter_gen (s := { s5 with heap := _ }) (hGO.isGen (k1 _ _ pin5.1)) ?_)
  refine wpAny_bind (wpAny_holding ?_)
  unfold Builtin.List.listLengthHint
  refine wpAny_bind (wpAny_specialOf hT F.gen_no_len ?_)
  show wpAny _ A.in1 (specialOf (Value.ref ga) (Str.ofString "__length_hint__") >>= _) _ _ _
  refine wpAny_bind (wpAny_specialOf hT F.gen_no_hint ?_)
  refine wpAny_pure ?_
  show wpAny _ A.in1 (rule "list.extend.makes-room" >>= fun _ => Builtin.List.listTouch (.ref s5.heap.objs.size) >>= fun _ =>
    again (.builtin "list.extend.loop" ⟨[.ref s5.heap.objs.size, .ref ga, .ref s5.heap.objs.size], []⟩)) _ _ _
  refine wpAny_bind (wpAny_rule ?_)
  have hS₁ : (s5.heap.push { cls := .type "list", data := .seq ([] : List Value).toArray }).get? s5.heap.objs.size = some { cls := .type "list", data := .seq ([] : List Value).toArray } := Heap.get?_push_size _ rfl
  refine wpAny_bind ?_
  show wpAny _ A.in1 (updateSeq s5.heap.objs.size (·.push .none) >>= fun _ => updateSeq s5.heap.objs.size (·.pop)) _ _ _
  refine wpAny_bind (wpAny_updateSeq hS₁ rfl ?_)
  have hS₂ := Heap.get?_update_self (Obj.mapSeq (·.push Value.none)) hS₁ rfl
  refine wpAny_updateSeq hS₂ rfl ?_
  have hS₃ := Heap.get?_update_self (Obj.mapSeq (·.pop)) hS₂ rfl
  obtain ⟨c3, hS₄⟩ : ∃ c, (((s5.heap.push { cls := .type "list", data := .seq ([] : List Value).toArray }).update s5.heap.objs.size (Obj.mapSeq (·.push Value.none))).update s5.heap.objs.size (Obj.mapSeq (·.pop))).get? s5.heap.objs.size = some (lstObj #[] c) := ⟨_, hS₃⟩
  have k3 : ∀ b o, s5.heap.get? b = some o → (((s5.heap.push { cls := .type "list", data := .seq ([] : List Value).toArray }).update s5.heap.objs.size (Obj.mapSeq (·.push Value.none))).update s5.heap.objs.size (Obj.mapSeq (·.pop))).get? b = some o :=
    fun b o e => (Heap.get?_update_other _ _ (Ne.symm (Nat.ne_of_lt (Heap.lt_size e)))).trans ((Heap.get?_update_other _ _ (Ne.symm (Nat.ne_of_lt (Heap.lt_size e)))).trans (k1 b o e))
  have fS : FpOk (gblk X A' s_0 H_0 cenv fp) [(ga, go)] H4 s5.heap.objs.size := I5.fpOk (Nat.le_refl _) (I5.hok.fresh (Nat.le_refl _))
  have hfS : ∀ b ∈ fp, b ≠ s5.heap.objs.size := fun b hb => Nat.ne_of_lt (Nat.lt_trans (hlt b hb) glt)
  have I6 := inv_moved (s' := { s5 with heap := ((s5.heap.push { cls := .type "list", data := .seq ([] : List Value).toArray }).update s5.heap.objs.size (Obj.mapSeq (·.push Value.none))).update s5.heap.objs.size (Obj.mapSeq (·.pop)) }) I5 rfl I5.bare k3
  refine wpAny_pure ⟨plainId_quiet F.plain_extend_loop _, ext_gx (A := A) (A' := A') (s_0 := s_0) (H_0 := H_0) (cenv := cenv) (fp := fp) (tn := tn) (go := go) (gn := gn) (End := End) hh hroom hGO hSI ?_ fS.2.2.2.2.1 keep hfS
    (fun σ' H' ys acc c s1 I1 rv q => ?_) (m + 1) _ I6.nolimit (k3 _ _ pin5.1) ⟨gs, hgs, ?_⟩⟩
  · exact Nat.le_trans I5.sz (Nat.le_refl _)
  · show wpAny _ A (load s5.heap.objs.size >>= _) _ _ s1
    have pS := (I1.pin (s5.heap.objs.size, lstObj acc c) (List.mem_append_right _ (List.mem_cons_of_mem _ List.mem_cons_self))).1
    refine wpAny_bind (wpAny_load pS ?_)
    exact wpAny_pure (hQ s1 acc ys H' (back _ _ _ _ I1) rv q)
  · refine goes (List V) (ACl ga go s5.heap.objs.size) End YdL W m (m + 1) [] [(ga, go), (s5.heap.objs.size, lstObj #[] c3)] _ turn w0 (Nat.lt_succ_self _) (fun ys cp hac p hp b hb z => ?_) ⟨#[], c3, rfl, .nil⟩
      (inv_moved (I6.pins_of fun p hp => ?_) rfl (allBare_setGen (s := { s5 with heap := _ }) I5.bare rfl) fun _ _ q => q) (keep _ _ _ st5 fun b hb o q => k3 b o q)
    · obtain ⟨acc, c, rfl, _⟩ := hac
      rcases List.mem_cons.mp hp with e | e
      · rw [e] at z
        exact absurd (hlt b hb) (by rw [← z]; exact Nat.lt_irrefl _)
      · rw [List.mem_singleton.mp e] at z
        exact hfS b hb z.symm
    · rcases List.mem_cons.mp hp with e | e
      · rw [e]
        exact I6.pin (ga, go) (List.mem_append_right _ List.mem_cons_self)
      · rw [List.mem_singleton.mp e]
        exact ⟨hS₄, fS.1, fS.2.1, fS.2.2.1, fun v q => by cases q⟩
end
section
variable {X : Cx}
/-- tuple(elt for tg in iter ..) -/
def tTupX (P : Addr) (wi : TI) (g : TG) (tt : TT) (te : TE) (vs : List Nat) : TE := fun σ H Q => wi σ H fun J H1 => GxR.TabG H1 P ∧ ∀ H2, GxR.Tabbed P H1 H2 → ∃ W : Nat → Nat → List V → Hp → Prop, (∃ m, W 0 m [] H2) ∧
  tGx J g tt te (wipe σ vs) vs (fun ys H => ys.length ≤ sizeLine ∧ ∀ p, H p = none → Q (.ref p) (upd H p (.tup ys))) YdL W
theorem pe_tupX {c P : Addr} {elt tg iter : Expr} {ifs : List Expr} {p pos gpos : Pos} {scope : Scope} {own : List (Str × Nat)} {wi : TI} {g : TG} {tt : TT} {te : TE} {k : Nat}
    (hr : Room (k + 1) X.A) (hc : X.calm = true) (hN : X.N.Nodup) (hgl : Gl X "tuple") (hm : X.mg "tuple" = none) (hb : bootBuiltins "tuple" = some (.type "tuple")) (TB : GxR.TabB X.base X.mg c P) (hcode : X.env.code = .ref c)
    (hco : scope.isCoroutine = false) (hdot : scope.names.lookup (".0" : Str) = some NameKind.local) (nocell : ∀ y ∈ scope.names, y.2 ≠ .cell) (ok : BlkOk X.N X.env.scope scope own) (hi : PI X tg iter wi)
    (hg : ∀ (A' : Around) (s : Shared) (H : Hp) (C : Addr) (cl : List (Str × Addr)) (code : Value) (fp : List Addr), Room k A' → A'.guards = X.A.guards → PG (gblk X A' s H (genEnv scope cl C code builtinsNs X.env) fp) tg g)
    (ht : ∀ (A' : Around) (s : Shared) (H : Hp) (C : Addr) (cl : List (Str × Addr)) (code : Value) (fp : List Addr), Room k A' → A'.guards = X.A.guards → PTs (gblk X A' s H (genEnv scope cl C code builtinsNs X.env) fp) ifs tt)
    (he : ∀ (A' : Around) (s : Shared) (H : Hp) (C : Addr) (cl : List (Str × Addr)) (code : Value) (fp : List Addr), Room k A' → A'.guards = X.A.guards → PE (gblk X A' s H (genEnv scope cl C code builtinsNs X.env) fp) elt te)
    (hs : ∀ v, genFold iter X.env v = pure v)
    (hst : starEach [.GeneratorExp elt [⟨tg, iter, ifs, 0⟩] scope gpos] X.env = (false, eval (.GeneratorExp elt [⟨tg, iter, ifs, 0⟩] scope gpos) X.env) :: starEach [] X.env := by rfl) :
    PE X (.Call (.Name "tuple" p) [.GeneratorExp elt [⟨tg, iter, ifs, 0⟩] scope gpos] [] pos) (tTupX P wi g tt te (own.map (·.2))) := by
  refine ⟨fun pins s σ H Q I h => ?_⟩
  refine wpAny_Call_Name_kw (ld_blt I hgl hm hb ?_)
  refine PyProof.Rows.callWith_type1 ?_ hst (by rfl)
  rw [hst]
  show wpAny _ _ (spliced ((false, eval (.GeneratorExp elt [⟨tg, iter, ifs, 0⟩] scope gpos) X.env) :: backTo pos (starEach [] X.env))) _ _ s
  refine Calls.spliced_cons (gx_make (A := X.A.in1.in1.in1.in1) hr ⟨rfl, rfl, rfl, rfl, (by show X.A.units + 1 + 1 + 1 + 1 ≤ _; omega)⟩ hc hN TB hcode hco hdot nocell ok hi hg ht he hs I h fun J H1 H2 u s5 hR hT hG => ?_)
  obtain ⟨W, ⟨m, w0⟩, turn⟩ := hR H2 hT
  refine Calls.spliced_nil ?_
  have ⟨A', s_0, H_0, cenv, fp, ga, gn, go, tn, gs, eu, hGO, hgs, hbare, I5, st5, nf, hlt, keep, back, goes⟩ := hG
  have pin5 := (I5.pin (ga, go) (List.mem_append_right _ List.mem_cons_self)).1
  rw [eu] at hG ⊢
  refine callType_codes (Q₁ := fun obj s₁ => s₁.TypeIs obj "tuple" ∧ EP X pins σ Q obj s₁) F.called_tuple (F.typeCall_tuple_1 _) F.entry_object_init ?_ fun obj s₁ h₁ =>
    ⟨h₁.1, F.args_object_init_2 obj _, object_init_meets F.called_tuple.init.lookup F.called_tuple.made (by decide) X.prog X.w X.A.in1 _ s₁ ⟨h₁.1, rfl, h₁.2⟩⟩
  refine codeAny_of_tree ?_
  show wpAny _ X.A.in1.in1 (do checkBuiltinCall "tuple.__new__" ⟨[.type "tuple", .ref ga], []⟩; again (.builtin "tuple.__new__" ⟨[.type "tuple", .ref ga], []⟩)) _ _ s5
  refine wpAny_bind (wpAny_of_eq (F.newCall_tuple_1 _) (wpAny_pure ⟨plainId_quiet F.plain_tuple_new _, codeAny_builtin F.entry_tuple_new ?_⟩))
  rw [Around.under_plainId F.plain_tuple_new _]
  have hsub := sub_tuple_self
  have hinit := init_tuple_lookup
  have hmh := madeHere_tuple
  have hTI : s5.TypeIs (.ref ga) "generator" := (hGO.isGen pin5).typeIs
  have col : ∀ {Q0 : List Value → Shared → Prop} {E0 : Value → Shared → Prop}, (∀ (s' : Shared) (acc : Array Value), (∃ (ys : List V) (H' : Hp), Inv X pins σ H' s' ∧ Vals ys acc.toList ∧ ys.length ≤ sizeLine ∧ ∀ p, H' p = none → Q (.ref p) (upd H' p (.tup ys))) → Q0 acc.toList s') →
      wpAny (model X.prog X.w) X.A.in1.in1 (collect (.ref ga)) Q0 E0 s5 := fun hq => collect_gx hr.hd hr.depth hG w0 turn (fun s' acc ys H' I' rv q => hq s' acc ⟨ys, H', I', rv, q.1, q.2⟩)
  wp_walk using wpAny_typeOf hTI, col
  rintro s' acc ⟨ys, H', I', rv, small, q⟩
  show wpAny _ _ (Builtin.Tuple.tupleExact acc.toList.toArray >>= fun v => ret v) _ _ _
  unfold Builtin.Tuple.tupleExact
  refine wpAny_bind (wpAny_newObj_type ?_ (by show acc.toList.toArray.size ≤ sizeLine; rw [List.size_toArray, ← rv.length]; exact small))
  refine wpAny_pure ?_
  have free : H' s'.heap.objs.size = none := I'.hok.fresh (Nat.le_refl _)
  refine ⟨⟨_, Heap.get?_push_size _ rfl, rfl⟩, .ref s'.heap.objs.size, upd H' s'.heap.objs.size (.tup ys), I'.laid (t' := s'.toks) (fun b u z => Heap.get?_push_of_some _ z) (Nat.le_refl _) ⟨small, acc.toList, rv, ?_⟩, rfl, q _ free⟩
  exact ⟨_, Heap.get?_push_size _ rfl, rfl, 0, rfl⟩
end
/-! ### a def by its body, its code object known -/
theorem okC {P : Program} {w : World} {K : PySem.W.Frag} {mg : Str → Option Value} {base : Heap} {x qual : Str} {st : Stmt} {f : Addr} {fd : FuncData} {N ps : List Str} {k : Nat} {sp : Sp} (F : Fun K x qual st f fd) (S : FnScope N ps (defScope st)) (len : ∀ vs H Q E, sp vs H Q E → vs.length = ps.length)
    (body : ∀ (A : Around) (outer : List Env) (s : Shared) (H : Hp) (vs : List V) (Q : VK) (E : XK), Room k (A.deeper (envOfC qual (defScope st) s.heap.objs.size f fd.code)) → sp vs H Q E →
      ∃ t, PSs (cxOf CX0 P w K mg base N qual (defScope st) f fd.code A outer s H E).nox (defBody st) t ∧ t { nx := fun _ H' => Q .non H', rt := Q } (start N vs) H) : FnOk P w K mg base CX0 (k + 1) f fd ps sp := by
  obtain ⟨oc, od, kV, doc, pm, an, cdv, ct, osl, rfl, lk, hcd⟩ := F.ex
  refine fn_of lk hcd S len fun A outer s H vs Q E hr hsp => ?_
  obtain ⟨t, h, q⟩ := body A outer s H vs Q E hr hsp
  exact ⟨t, h.nox, q⟩
/-! ### from the head's facts -/
theorem fun_of {K : PySem.W.Frag} {x qual : Str} {st : Stmt} {f : Addr} {fd : FuncData} (F : FunD K x qual (defArgs st) (defBody st) (defScope st) [] [] f fd) : Fun K x qual st f fd := by
  obtain ⟨oc, od, dV, kV, doc, pm, an, cdv, ct, osl, rfl, lk, hcd, hd, _⟩ := F.ex
  rcases hd with ⟨_, rfl⟩ | ⟨z, _⟩
  · exact ⟨⟨oc, od, kV, doc, pm, an, cdv, ct, osl, rfl, lk, hcd⟩, F.kp⟩
  · exact absurd rfl z
theorem code_of {K : PySem.W.Frag} {x qual : Str} {st : Stmt} {p : He.Defn} {fd : FuncData} (F : Fun K x qual st (He.fAd K p) fd) : fd.code = .ref (He.cT K p).1 := by
  obtain ⟨oc, od, kV, doc, pm, an, cdv, ct, osl, rfl, lk, hcd⟩ := F.ex
  obtain ⟨c, rfl⟩ := He.codeIn_ref hcd
  show Value.ref c = Value.ref (He.codeOf K p)
  rw [He.codeOf_eq lk rfl]
theorem tab_of {base : Heap} {mg : Str → Option Value} {c P : Addr} (h : LamX.TabB base mg c P) : GxR.TabB base mg c P := ⟨h.code, h.bm, h.gP⟩
/-! ### heaps whose tables grow -/
def Tabs (H : Hp) (Ps : List Addr) : Prop := ∀ P ∈ Ps, GxR.TabG H P
/-- what is no table stays; tables stay tables -/
def Gr (H H' : Hp) : Prop := (∀ b o, (∀ ps, o ≠ HO.tbl ps) → H b = some o → H' b = some o) ∧ ∀ b, GxR.TabG H b → GxR.TabG H' b
theorem Gr.refl {H : Hp} : Gr H H := ⟨fun _ _ _ e => e, fun _ e => e⟩
theorem Gr.trans {H H1 H2 : Hp} (a : Gr H H1) (b : Gr H1 H2) : Gr H H2 := ⟨fun c o n e => b.1 c o n (a.1 c o n e), fun c e => b.2 c (a.2 c e)⟩
theorem Gr.of {H H' : Hp} (h : ∀ b o, H b = some o → H' b = some o) : Gr H H' := ⟨fun b o _ e => h b o e, fun b ⟨ps, e, t⟩ => ⟨ps, h _ _ e, t⟩⟩
theorem Gr.tab {P : Addr} {H H' : Hp} (t : GxR.TabG H P) (h : GxR.Tabbed P H H') : Gr H H' := by
  obtain ⟨ps, e, _⟩ := t
  refine ⟨fun b o n q => ?_, fun b q => ?_⟩
  · by_cases hb : b = P
    · rw [hb, e] at q
      exact absurd (Option.some.inj q).symm (n ps)
    · rw [h.2 b hb]; exact q
  · by_cases hb : b = P
    · rw [hb]; exact h.1
    · obtain ⟨ps', e', t'⟩ := q
      exact ⟨ps', by rw [h.2 b hb]; exact e', t'⟩
theorem Gr.tup {H H' : Hp} (g : Gr H H') {a : Addr} {xs : List V} (h : H a = some (.tup xs)) : H' a = some (.tup xs) := g.1 a _ (fun _ z => by cases z) h
theorem Gr.lst {H H' : Hp} (g : Gr H H') {a : Addr} {xs : List V} (h : H a = some (.lst xs)) : H' a = some (.lst xs) := g.1 a _ (fun _ z => by cases z) h
theorem Gr.tabs {H H' : Hp} (g : Gr H H') {Ps : List Addr} (h : Tabs H Ps) : Tabs H' Ps := fun P hP => g.2 P (h P hP)
theorem Gr.none {H : Hp} {a : Addr} {o : HO} (n : H a = Option.none) : Gr H (upd H a o) := Gr.of fun b u e => by
  rw [upd_ne (ne_of_none e n)]
  exact e
namespace CwR
/-- behind it a token is out -/
def PEp (X : Cx) (e : Expr) (t : TE) : Prop := ∀ (pins : List (Addr × Obj)) (s : Shared) (σ : L2.St) (H : Hp) (Q : VK), Inv X pins σ H s → t σ H Q → wpAny (model X.prog X.w) X.A (eval e X.env) (fun u s' => 1 ≤ s'.toks ∧ EP X pins σ Q u s') X.xe s
theorem pep_ix {X : Cx} {a : Expr} {i : Int} {j : Nat} {p pos : Pos} {ta : TE} {r : R2} (hr : IxR X r) (ha : PE X a ta) (hs : PlainIx (.Constant (.int i) j p)) : PEp X (.Subscript a (.Constant (.int i) j p) pos) (tOp r ta (tC (.int i))) := by
  intro pins s σ H Q I h
  refine Subscript_ (thn (ha.run pins s σ H _ I h) fun v s1 ⟨x, H1, I1, r1, q1⟩ => wpAny_Constant_int ?_)
  refine wpAny_mono (PySem.wpAny_toks (hr a _ pins { s1 with toks := s1.toks + 1 } σ H1 x (.int i) v (.int i s1.toks) Q (I1.tok _) r1 ⟨_, rfl⟩ q1 (hs _ _))) (fun u s2 q => ⟨?_, q.2⟩) fun _ _ z => z.2
  have h1 : s1.toks + 1 ≤ s2.toks := q.1
  omega
theorem pep_repl {X : Cx} {o : Expr} {to : TE} {y z : Str} {j k : Nat} {c0 c1 apos pos : Pos} (ho : PEp X o to) (hyz : (y == z) = false := by decide)
    (hst : starEach [.Constant (.str y) j c0, .Constant (.str z) k c1] X.env = [(false, eval (.Constant (.str y) j c0) X.env), (false, eval (.Constant (.str z) k c1) X.env)] := by rfl)
    (hbase : attributeBase o "replace" X.env (eval o X.env) = eval o X.env := by rfl) (hline : (apos.endLine == pos.line) = true := by rfl) :
    PEp X (.Call (.Attribute o "replace" apos) [.Constant (.str y) j c0, .Constant (.str z) k c1] [] pos) (CwR.tReplC to y z) := by
  intro pins s σ H Q I h
  refine PySem.Call_method2 hbase hst hline (wpAny_mono (ho pins s σ H _ I h) (fun v s1 q => ?_) fun _ _ z => z)
  obtain ⟨hk, v', H1, I1, r1, x, e1, hb, q⟩ := q
  subst e1
  obtain ⟨tx, e2⟩ := r1
  subst e2
  refine ⟨"str", _, PySem.F.plainAttrs_str, PySem.F.slot_str_replace, PySem.F.type_str_replace, typeIs_str _ _ _, (fun _ e => nomatch e), Calls.callWith_builtin rfl (Calls.evalArgs_plain (Calls.spliced_cons ?_))⟩
  refine Calls.Constant_str (Calls.spliced_cons (Calls.Constant_str (Calls.spliced_nil ?_)))
  refine wpAny_mono (PySem.wpAny_toks (PySem.SC.replace (Q := fun u s' => EP X pins σ Q u s') (by show s1.toks ≠ 0; omega) (by show s1.toks + 1 ≠ 0; omega) (by show s1.toks ≠ s1.toks + 1; omega) hyz hb fun t' k => ⟨.str (Txt.replace x y z), H1, I1.tok k, ⟨t', rfl⟩, q⟩)) (fun u s2 q => ⟨?_, q.2⟩) fun _ _ z => z.2
  have h1 : s1.toks + 1 + 1 ≤ s2.toks := q.1
  omega
theorem pe_replP {X : Cx} {e : Expr} {t : TE} (h : PEp X e t) : PE X e t := ⟨fun pins s σ H Q I q => wpAny_mono (h pins s σ H Q I q) (fun _ _ z => z.2) fun _ _ z => z⟩
end CwR

/-! ### heaps -/
theorem same_upd {H : Hp} {p : Addr} {o : HO} (h : H p = none) : Same H (upd H p o) := fun b x e => by
  rw [upd_ne (ne_of_none e h)]
  exact e
def Fr (d l : Addr) (H H' : Hp) : Prop := ∀ b o, b ≠ d → b ≠ l → H b = some o → H' b = some o
theorem Fr.trans {d l : Addr} {H H1 H2 : Hp} (a : Fr d l H H1) (b : Fr d l H1 H2) : Fr d l H H2 := fun c o h1 h2 h => b c o h1 h2 (a c o h1 h2 h)
theorem Fr.refl {d l : Addr} {H : Hp} : Fr d l H H := fun _ _ _ _ h => h
theorem Fr.new {d l p : Addr} {H : Hp} {o : HO} (h : H p = none) : Fr d l H (upd H p o) := fun b x _ _ e => same_upd h b x e
theorem Fr.of {d l : Addr} {H H' : Hp} (h : Same H H') : Fr d l H H' := fun b x _ _ e => h b x e
theorem Fr.d {d l : Addr} {H : Hp} {o : HO} : Fr d l H (upd H d o) := fun b x h1 _ e => by rw [upd_ne h1]; exact e
theorem Fr.l {d l : Addr} {H : Hp} {o : HO} : Fr d l H (upd H l o) := fun b x _ h2 e => by rw [upd_ne h2]; exact e
def Deck (H : Hp) (d l : Addr) : Prop := d ≠ l ∧ ∃ (cs : List Int) (z : Int), H d = some (.lst [.ref l, .int z]) ∧ H l = some (.lst (cs.map V.int)) ∧ cs.length ≤ 63 ∧ 0 ≤ z ∧ z < 4294967296
theorem Deck.same {H H' : Hp} {d l : Addr} (D : Deck H d l) (s : Same H H') : Deck H' d l := by
  obtain ⟨ne, cs, z, hd, hl, r⟩ := D
  exact ⟨ne, cs, z, s _ _ hd, s _ _ hl, r⟩
theorem Deck.new {H : Hp} {d l p : Addr} {o : HO} (D : Deck H d l) (h : H p = none) : Deck (upd H p o) d l := D.same (same_upd h)
theorem Deck.ne_new {H : Hp} {d l p : Addr} (D : Deck H d l) (h : H p = none) : p ≠ d ∧ p ≠ l := by
  obtain ⟨ne, cs, z, hd, hl, r⟩ := D
  exact ⟨(ne_of_none hd h).symm, (ne_of_none hl h).symm⟩
theorem p29 : (0 : Int) < 2147483629 := by decide
theorem p47 : (0 : Int) < 2147483647 := by decide
theorem p87 : (0 : Int) < 2147483587 := by decide
theorem sl1 : 1 ≤ sizeLine := by decide
theorem sl2 : 2 ≤ sizeLine := by decide
theorem sl3 : 3 ≤ sizeLine := by decide
theorem sl4 : 4 ≤ sizeLine := by decide
theorem seqIx0 {α : Type} (x : α) (xs : List α) : seqIndex? 0 (x :: xs).length = some 0 := by
  refine (ixN_seq (n := (x :: xs).length) (i := 0) (j := 0) ?_).1
  unfold ixN
  rw [if_pos (by decide), if_pos (by rw [List.length_cons]; omega)]
  rfl
theorem dpInts {K : PySem.W.Frag} {H : Hp} : ∀ cs : List Int, DpAll K H (cs.map V.int) (cs.map PyData.int)
  | [] => .nil
  | c :: r => .cons (.int c) (dpInts r)
theorem shInts (ns : List Int) : SeqAt.shaped (.list (ns.map PyData.int)) = true := by
  unfold SeqAt.shaped
  rw [Bool.and_eq_true]
  refine ⟨?_, ?_⟩
  · simp only [PyData.canLay0, canLayAll_ints]
  · simp only [PyData.depth, depthAll_ints]
    decide
theorem at_pick {xs : List V} {j : Int} (h0 : 0 ≤ j) (h1 : j < xs.length) : ∃ x, atI xs j = some x ∧ x ∈ xs := by
  obtain ⟨k, rfl⟩ : ∃ k : Nat, j = (k : Int) := ⟨j.toNat, (Int.toNat_of_nonneg h0).symm⟩
  have hk : k < xs.length := by omega
  exact ⟨xs[k], atI_nat (List.getElem?_eq_getElem hk), List.getElem_mem hk⟩
theorem units65 {k : Nat} {A : Around} (r : Room k A) : A.units + 65 < cLine := by have := r.un; omega
def rLenK (K : PySem.W.Frag) : List V → Hp → VK → Prop := fun xs H Q => ∃ p ys, xs = [.ref p] ∧ (SqL K H p ys ∨ SqT K H p ys) ∧ Q (.int ys.length) H
def rTupK (K : PySem.W.Frag) : List V → Hp → VK → Prop := fun xs H Q => ∃ p ys, xs = [.ref p] ∧ ((SqL K H p ys ∧ ∀ l, H l = none → Q (.ref l) (upd H l (.tup ys))) ∨ (SqT K H p ys ∧ Q (.ref p) H))
def rLstK (K : PySem.W.Frag) : List V → Hp → VK → Prop := fun xs H Q => ∃ p ys, xs = [.ref p] ∧ (SqL K H p ys ∨ SqT K H p ys) ∧ ∀ l, H l = none → Q (.ref l) (upd H l (.lst ys))
/-- joining ways behind a test, behind an expression -/
def tCutT (t : TT) : TT := fun σ H Q => ∃ Mid : Bool → Hp → Prop, t σ H Mid ∧ ∀ b H1, Mid b H1 → Q b H1
theorem pt_cut {X : Cx} {e : Expr} {t : TT} (h : PT X e t) : PT X e (tCutT t) := ⟨fun pins s σ H Q I hw => by
  obtain ⟨Mid, h1, q⟩ := hw
  exact thn (h.run pins s σ H _ I h1) fun c s1 ⟨H1, I1, m⟩ => ⟨H1, I1, q _ _ m⟩⟩
def tCutE (t : TE) : TE := fun σ H Q => ∃ Mid : VK, t σ H Mid ∧ ∀ v H1, Mid v H1 → Q v H1
theorem pe_cut {X : Cx} {e : Expr} {t : TE} (h : PE X e t) : PE X e (tCutE t) := ⟨fun pins s σ H Q I hw => by
  obtain ⟨Mid, h1, q⟩ := hw
  exact thn (h.run pins s σ H _ I h1) fun u s1 ⟨v, H1, I1, r, m⟩ => ⟨v, H1, I1, r, q _ _ m⟩⟩

/-! ### defs called where nothing is being shown (so that repr tells what stands there) -/
structure FnG (P : Program) (w : World) (K : PySem.W.Frag) (mg : Str → Option Value) (bs : Heap) (CX : CXT) (k : Nat) (f : Addr) (fd : FuncData) (ps : List Str) (sp : Sp) : Prop where
  many : ∀ vs H Q E, sp vs H Q E → vs.length = ps.length
  go : ∀ A : Around, A.guards = some [] → Room k A → ∀ (fr : List Env) (s : Shared) (H : Hp) (ar : Args) (us : List Value) (vs : List V) (Q : VK) (E : XK), Env0 P w K mg bs A fr s H → BindsTo s fd ar (ps.zip us) → Vals vs us → sp vs H Q E → codeAny (model P w) A (.call (.ref f) ar) (CR CX fr P w H s Q E) s
theorem FnG.of {P : Program} {w : World} {K : PySem.W.Frag} {mg : Str → Option Value} {bs : Heap} {CX : CXT} {k : Nat} {f : Addr} {fd : FuncData} {ps : List Str} {sp : Sp} (F : FnOk P w K mg bs CX k f fd ps sp) : FnG P w K mg bs CX k f fd ps sp :=
  ⟨F.len, fun A _ room fr s H ar us vs Q E e0 b r h => F.run A fr s H ar us vs Q E room e0 b r h⟩
theorem okG {CX : CXT} {P : Program} {w : World} {K : PySem.W.Frag} {mg : Str → Option Value} {bs : Heap} {x qual : Str} {st : Stmt} {f : Addr} {fd : FuncData} {N ps : List Str} {k : Nat} {sp : Sp} (F : Fun K x qual st f fd) (S : FnScope N ps (defScope st))
    (many : ∀ vs H Q E, sp vs H Q E → vs.length = ps.length)
    (body : ∀ (cdv : Value) (A : Around) (fr : List Env) (s : Shared) (H : Hp) (vs : List V) (Q : VK) (E : XK), A.guards = some [] → Room k (A.deeper (envOfC qual (defScope st) s.heap.objs.size f cdv)) → sp vs H Q E →
      ∃ t, PSs (cxOf CX P w K mg bs N qual (defScope st) f cdv A fr s H E) (defBody st) t ∧ t ⟨fun _ H' => Q .non H', Q, fun _ _ => False, fun _ _ => False⟩ (start N vs) H) : FnG P w K mg bs CX (k + 1) f fd ps sp := by
  obtain ⟨oc, od, kV, doc, pm, an, cdv, ct, osl, rfl, lk, code⟩ := F.ex
  refine ⟨many, fun A nothing room fr s H ar us vs Q E e0 bound rel told => ?_⟩
  have stays : ∀ b o, bs.get? b = some o → s.heap.get? b = some o := fun b o z => (e0.bs b o z).1
  have inK : K.In s.heap := e0.mod.kin.keeps stays
  have places : ∀ y ∈ ps.zip us, (defScope st).names.lookup y.1 = some .local ∨ ((defScope st).names.lookup y.1 = some .cell ∧ ((cellsFrom (s.heap.objs.size + 1) (defScope st).names []).lookup y.1).isSome = true) := by
    rintro ⟨n, v⟩ hy
    exact (S.par n (List.of_mem_zip hy).1).imp id fun c => ⟨c, PySem.W.cellsFrom_some _ _ _ (Or.inl c)⟩
  refine codeAny_call_function room.depth (inK _ _ lk) rfl S.co S.gen rfl (PySem.W.codeRec_of inK code) (bound _ _ _ _
    (wpAny_newFunctionEnv_cells S.kind places fun env he s1 made => ?_))
  subst he
  obtain ⟨t, runs, holds⟩ := body cdv A fr s H vs Q E nothing (room.deeper _) told
  refine ⟨(e0.mod.nolimit.keeps stays).keeps made.toInCall.keep, codeAny_func (wpAny_mono (runs.run [] s1 (start N vs) H _ (inv_start S room.hd e0 (many _ _ _ _ told) rel made) holds) (fun fl s2 z => ?_) fun _ _ z => z)⟩
  match fl, z with
  | .ret _, ⟨v, _, H', J, rv, q⟩ => exact ⟨v, H', J.os, J.bare, J.base, J.hok, rv, q⟩
  | .next, ⟨_, H', J, q⟩ => exact ⟨V.non, H', J.os, J.bare, J.base, J.hok, rfl, q⟩
  | .brk, ⟨_, _, _, q⟩ => exact q.elim
  | .cont, ⟨_, _, _, q⟩ => exact q.elim
theorem okG0 {P : Program} {w : World} {K : PySem.W.Frag} {mg : Str → Option Value} {bs : Heap} {x qual : Str} {st : Stmt} {f : Addr} {fd : FuncData} {N ps : List Str} {k : Nat} {sp : Sp} (F : Fun K x qual st f fd) (S : FnScope N ps (defScope st))
    (many : ∀ vs H Q E, sp vs H Q E → vs.length = ps.length)
    (body : ∀ (cdv : Value) (A : Around) (fr : List Env) (s : Shared) (H : Hp) (vs : List V) (Q : VK) (E : XK), A.guards = some [] → Room k (A.deeper (envOfC qual (defScope st) s.heap.objs.size f cdv)) → sp vs H Q E →
      ∃ t, PSs (cxOf CX0 P w K mg bs N qual (defScope st) f cdv A fr s H E).nox (defBody st) t ∧ t ⟨fun _ H' => Q .non H', Q, fun _ _ => False, fun _ _ => False⟩ (start N vs) H) : FnG P w K mg bs CX0 (k + 1) f fd ps sp :=
  okG F S many fun cdv A fr s H vs Q E g r h => by
    obtain ⟨t, p, q⟩ := body cdv A fr s H vs Q E g r h
    exact ⟨t, p.nox, q⟩
section
variable {X : Cx} {CX : CXT} {k : Nat} {f : Addr} {fd : FuncData} {ps : List Str} {sp : Sp} {ds : List Value} {dvs : List V} {E : XK}
theorem runG {pins : List (Addr × Obj)} {σ : L2.St} {H : Hp} {s : Shared} {Q : VK} {us : List Value} {vs : List V} (F : FnG X.prog X.w X.K X.mg X.base CX k f fd ps sp) (nothing : X.A.guards = some []) (room : Room k X.A) (hb : Binds X.K fd ps ds)
    (hd : Vals dvs ds) (out : Passes CX X E) (I : Inv X pins σ H s) (r : Vals vs us) (told : sp (vs ++ dvs) H Q E) : wpAny (model X.prog X.w) X.A (call (.ref f) us) (EP X pins σ Q) X.xe s := by
  have rel : Vals (vs ++ dvs) (us ++ ds) := r.append hd
  have size : (us ++ ds).length = ps.length := rel.length ▸ F.many _ _ _ _ told
  refine wpAny_call (codeAny_mono (F.go X.A nothing room X.stack s H _ _ _ Q E I.env0 (hb s us I.kIn size) rel told) fun res s2 z => ?_)
  match res, z with
  | .error e, z => exact out pins σ H s e s2 I z
  | .ok (.ret u), z => exact I.after z
  | .ok .next, z => exact z.elim
  | .ok .brk, z => exact z.elim
  | .ok .cont, z => exact z.elim
theorem pe_callG {x : Str} {p pos : Pos} {e : Expr} {es : List Expr} {t : TA} (F : FnG X.prog X.w X.K X.mg X.base CX k f fd ps sp) (nothing : X.A.guards = some []) (room : Room k X.A) (hg : Gl X x) (hm : X.mg x = some (.ref f)) (kp : PySem.W.keepIn X.K (.ref f) = true)
    (hb : Binds X.K fd ps ds) (hd : Vals dvs ds) (out : Passes CX X E) (ha : PA X (e :: es) t) (nd : (x == ("__debug__" : Str)) = false := by decide) (he : starEach (e :: es) X.env = (false, eval e X.env) :: starEach es X.env := by rfl)
    (hpl : (backTo pos (starEach es X.env)).any (·.1) = false := by rfl) : PE X (.Call (.Name x p) (e :: es) [] pos) (tCall sp dvs E t) := by
  refine ⟨fun pins s σ H Q I told => wpAny_Call_Name_kw (ld_glob I hg hm ?_ nd)⟩
  refine PySem.W.callWith_K (h₀ := X.base) I.ok.mod.kin kp (thn (ha.run pos pins s σ H _ I told) ?_) he hpl
  rintro us s1 ⟨vs, H1, J, r, q⟩
  exact ⟨J.kIn, runG F nothing room hb hd out J r q⟩
end
/-! ### what is shown by repr: plain data, whose lists and dicts were made by the law -/
def kD : Key → PyData
  | .inl i => .int i
  | .inr x => .str x
mutual
inductive Sh (H : Hp) : V → PyData → Prop
  | non : Sh H .non .none
  | bl (b : Bool) : Sh H (.bl b) (.bool b)
  | int (i : Int) : Sh H (.int i) (.int i)
  | str (x : Str) : Sh H (.str x) (.str x)
  | lst {a : Addr} {xs : List V} {ds : List PyData} : H a = some (.lst xs) → a ≠ sysModules → ShAll H xs ds → Sh H (.ref a) (.list ds)
  | tup {a : Addr} {xs : List V} {ds : List PyData} : H a = some (.tup xs) → ShAll H xs ds → Sh H (.ref a) (.tuple ds)
  | dic {a : Addr} {kvs : List (Key × V)} {ds : List PyData} : H a = some (.dK kvs) → ShAll H (kvs.map (·.2)) ds → Sh H (.ref a) (.dict ((kvs.map fun kv => kD kv.1).zip ds))
inductive ShAll (H : Hp) : List V → List PyData → Prop
  | nil : ShAll H [] []
  | cons {v : V} {vs : List V} {d : PyData} {ds : List PyData} : Sh H v d → ShAll H vs ds → ShAll H (v :: vs) (d :: ds)
end
theorem ShAll.length {H : Hp} : ∀ {vs : List V} {ds : List PyData}, ShAll H vs ds → vs.length = ds.length
  | _, _, .nil => rfl
  | _, _, .cons _ t => by rw [List.length_cons, List.length_cons, t.length]
mutual
theorem Sh.same {H H' : Hp} (s : Same H H') : ∀ {v : V} {d : PyData}, Sh H v d → Sh H' v d
  | _, _, .non => .non
  | _, _, .bl b => .bl b
  | _, _, .int i => .int i
  | _, _, .str x => .str x
  | _, _, .lst h n t => .lst (s _ _ h) n (t.same s)
  | _, _, .tup h t => .tup (s _ _ h) (t.same s)
  | _, _, .dic h t => .dic (s _ _ h) (t.same s)
theorem ShAll.same {H H' : Hp} (s : Same H H') : ∀ {vs : List V} {ds : List PyData}, ShAll H vs ds → ShAll H' vs ds
  | _, _, .nil => .nil
  | _, _, .cons h t => .cons (h.same s) (t.same s)
end
/-- the name of the class of such data -/
def tyD : PyData → String
  | .none => "NoneType"
  | .bool _ => "bool"
  | .int _ => "int"
  | .str _ => "str"
  | .list _ => "list"
  | .tuple _ => "tuple"
  | .dict _ => "dict"
theorem Sh.ty {K : PySem.W.Frag} {H : Hp} {v : V} {d : PyData} (h : Sh H v d) : TyX K H v (.type (tyD d)) := by
  cases h with
  | non => exact .base .non
  | bl b => exact .base (.bl b)
  | int i => exact .base (.int i)
  | str x => exact .base (.str x)
  | lst h _ _ => exact .base (.lst h)
  | tup h _ => exact .base (.tup h)
  | dic h _ => exact .base (.dK h)
section
variable {X : Cx} {pins : List (Addr × Obj)} {σ : L2.St} {H : Hp} {s : Shared}
theorem pairs_keys {P : Program} {w : World} {h : Heap} : ∀ {es : List DictEntry} {kvs : List (Key × Value)}, Pairs (mixKind P w) es kvs → ReadsAll h (es.map (·.key)) (kvs.map fun kv => kD kv.1) []
  | _, _, .nil => .nil
  | _, _, .cons (kv := kv) hk _ t => by
    have r := pairs_keys (h := h) t
    rcases keyIs_shape (k := kv.1) hk with ⟨i, u, e1, e2⟩ | ⟨x, u, e1, e2⟩
    · rw [List.map_cons, List.map_cons, e1, e2]
      exact ReadsAll.cons (as := []) (.int i u) r
    · rw [List.map_cons, List.map_cons, e1, e2]
      exact ReadsAll.cons (as := []) (.str x u) r
theorem pairs_vals {P : Program} {w : World} : ∀ {es : List DictEntry} {kvs : List (Key × Value)}, Pairs (mixKind P w) es kvs → es.map (·.val) = kvs.map (·.2)
  | _, _, .nil => rfl
  | _, _, .cons _ hv t => by rw [List.map_cons, List.map_cons, hv, pairs_vals t]
theorem kv_rel : ∀ {kvs : List (Key × V)} {vs : List (Key × Value)}, KV kvs vs → kvs.map (·.1) = vs.map (·.1) ∧ Vals (kvs.map (·.2)) (vs.map (·.2))
  | _, _, .nil => ⟨rfl, .nil⟩
  | _, _, .cons h t => by
    obtain ⟨a, b⟩ := kv_rel t
    exact ⟨by rw [List.map_cons, List.map_cons, a, h.1], .cons h.2 b⟩
mutual
theorem Sh.reads (I : Inv X pins σ H s) : ∀ (v : V) (d : PyData) (u : Value), Sh H v d → RelV v u → ∃ as, Reads s.heap u d as ∧ sysModules ∉ as
  | _, _, _, .non, r => by cases r; exact ⟨_, .none, List.not_mem_nil⟩
  | _, _, _, .bl b, r => by cases r; exact ⟨_, .bool b, List.not_mem_nil⟩
  | _, _, _, .int i, r => by obtain ⟨t, rfl⟩ := r; exact ⟨_, .int i t, List.not_mem_nil⟩
  | _, _, _, .str x, r => by obtain ⟨t, rfl⟩ := r; exact ⟨_, .str x t, List.not_mem_nil⟩
  | _, _, _, .lst (a := a) (xs := xs) h n t, r => by
    cases r
    obtain ⟨_, its, c, rv, ho⟩ := (show ObjOk X.prog X.w H s.heap a (.lst xs) from I.hok a _ h)
    obtain ⟨as, q, m⟩ := ShAll.reads I _ _ its t rv
    exact ⟨_, .list ho rfl rfl (by simpa using q), fun z => (List.mem_cons.mp z).elim (fun e => n e.symm) m⟩
  | _, _, _, .tup (a := a) (xs := xs) h t, r => by
    cases r
    obtain ⟨_, its, rv, o, ho, hc, c, hd⟩ := (show ObjOk X.prog X.w H s.heap a (.tup xs) from I.hok a _ h)
    obtain ⟨as, q, m⟩ := ShAll.reads I _ _ its t rv
    exact ⟨_, .tuple ho hc hd (by simpa using q), m⟩
  | _, _, _, .dic (a := a) (kvs := kvs) (ds := ds) h t, r => by
    cases r
    obtain ⟨_, low, vs, rel, o, es, ep, ho, hx, hd, _, hp, _⟩ := (show ObjOk X.prog X.w H s.heap a (.dK kvs) from I.hok a _ h)
    obtain ⟨rk, rv⟩ := kv_rel rel
    obtain ⟨as, q, m⟩ := ShAll.reads I _ _ (vs.map (·.2)) t rv
    have k1 : (kvs.map fun kv => kD kv.1) = vs.map fun kv => kD kv.1 := by
      have := congrArg (List.map kD) rk
      rw [List.map_map, List.map_map] at this
      exact this
    have ln : (kvs.map fun kv => kD kv.1).length = ds.length := by
      have := t.length
      rw [List.length_map] at this
      rw [List.length_map, this]
    refine ⟨_, .dict (as := []) (bs := as) ho hx.1 hd ?_ ?_, ?_⟩
    · rw [List.map_fst_zip (Nat.le_of_eq ln), k1]
      exact pairs_keys hp
    · rw [List.map_snd_zip (Nat.le_of_eq ln.symm), pairs_vals hp]
      exact q
    · intro z
      rcases List.mem_cons.mp z with e | e
      · exact absurd low (by rw [← e]; simp)
      · exact m e
theorem ShAll.reads (I : Inv X pins σ H s) : ∀ (vs : List V) (ds : List PyData) (us : List Value), ShAll H vs ds → Vals vs us → ∃ as, ReadsAll s.heap us ds as ∧ sysModules ∉ as
  | _, _, _, .nil, r => by cases r; exact ⟨_, .nil, List.not_mem_nil⟩
  | _, _, _, .cons h t, r => by
    cases r with
    | cons r1 r2 =>
      obtain ⟨as, q1, m1⟩ := Sh.reads I _ _ _ h r1
      obtain ⟨bs, q2, m2⟩ := ShAll.reads I _ _ _ t r2
      exact ⟨_, .cons q1 q2, fun z => (List.mem_append.mp z).elim m1 m2⟩
end
end
def rRepr : List V → Hp → VK → Prop := fun xs H Q => ∃ x d, xs = [x] ∧ Sh H x d ∧ d.showable = true ∧ d.shown.length ≤ sizeLine ∧ d.depth ≤ 50 ∧ Q (.str d.shown) H
theorem call_repr {X : Cx} (nothing : X.A.guards = some []) (hu : X.A.units + 64 < cLine) : CallR X (.builtin "repr") rRepr := by
  intro pins s σ H xs us Q I r h
  obtain ⟨x, d, rfl, sh, able, fits, deep, q⟩ := h
  cases r with
  | @cons _ u _ _ r1 r2 =>
    cases r2
    obtain ⟨as, rd, low⟩ := Sh.reads I _ _ _ sh r1
    have fin : ∀ h' t tk, (∀ b o, s.heap.get? b = some o → h'.get? b = some o) → EP X pins σ Q (.str d.shown t) { s with heap := h', toks := tk } := fun h' t tk kept => ⟨.str d.shown, H, I.kept kept, ⟨t, rfl⟩, q⟩
    cases sh with
    | non => cases r1; exact PySem.P.repr_of_none (fin _ _ _ fun _ _ z => z)
    | bl b => cases r1; exact PySem.P.repr_of_bool (fin _ _ _ fun _ _ z => z)
    | int i => obtain ⟨t, rfl⟩ := r1; exact PySem.P.repr_of_int (of_decide_eq_true able) (fin _ _ _ fun _ _ z => z)
    | str x => obtain ⟨t, rfl⟩ := r1; exact PySem.P.repr_of_str (fin _ _ _ fun _ _ z => z) fits
    | lst _ _ _ => cases r1; exact repr_of_reads' rd able (fun _ => low) nothing (by omega) (fun _ _ z => z) fin fits
    | tup _ _ => cases r1; exact repr_of_reads' rd able (fun _ => low) nothing (by omega) (fun _ _ z => z) fin fits
    | dic _ _ => cases r1; exact repr_of_reads' rd able (fun _ => low) nothing (by omega) (fun _ _ z => z) fin fits
/-- a display's list is none of the interpreter's own -/
def tLstN (t : TA) : TE := fun σ H Q => t σ H fun xs H1 => xs.length ≤ sizeLine ∧ ∀ p, H1 p = none → p ≠ sysModules → Q (.ref p) (upd H1 p (.lst xs))
theorem pe_lstN {X : Cx} {es : List Expr} {t : TA} {pos : Pos} (h : PA X es t) : PE X (.List es pos) (tLstN t) := by
  refine ⟨fun pins s σ H Q I told => wpAny_List_spliced (thn (h.run pos pins s σ H _ I told) ?_)⟩
  rintro us s1 ⟨xs, H1, J, r, small, q⟩
  have free : H1 s1.heap.objs.size = none := J.hok.fresh (Nat.le_refl _)
  refine ⟨by rw [← r.length]; exact small, .ref s1.heap.objs.size, upd H1 s1.heap.objs.size (.lst xs), J.laid (t' := s1.toks) (fun b u z => Heap.get?_push_of_some _ z) (Nat.le_refl _) ⟨small, us, 0, r, Heap.get?_push_size _ rfl⟩, rfl, q _ free (Nat.ne_of_gt J.big)⟩
/-! ### the end of a law whose defs are called where nothing is being shown -/
theorem law_G {P : Program} {w : World} {K : PySem.W.Frag} {mg mb : Str → Option Value} {CX : CXT} {k : Nat} {fa a : Addr} {fd : FuncData} {x : Str} {sp : Sp} {s : Shared} {vs : List Value} {ns : List Int}
    (inK : K.In s.heap) (gl : s.heap.Ns mainGlobals mg) (bl : s.heap.Ns builtinsNs mb) (boot : ∀ y : Str, y ≠ "__name__" → mb y = bootBuiltins y) (lim : s.heap.NoLimit) (ng : s.gens = #[])
    (at_ : s.heap.get? a = some { cls := .type "list", data := .seq vs.toArray }) (are : IntsAre vs ns) (small : ns.length ≤ sizeLine) (room : Room k callerA)
    (F : ∀ bs : Heap, K.In bs → bs.Ns mainGlobals mg → FnG P w K mg bs CX k fa fd [x] sp) (bound : ∀ (s : Shared) (u : Value), BindsTo s fd ⟨[u], []⟩ [(x, u)])
    (told : ∀ H : Hp, Only H → SqL K H a (ns.map V.int) → sp [.ref a] H (fun v _ => v = .bl true) fun _ _ _ => False)
    (noX : ∀ H e s', CX [] H s (fun _ _ _ => False) e s' → False) :
    codeAny (model P w) callerA (.call (.ref fa) ⟨[.ref a], []⟩) (fun r s' => r = .ok (.ret (.bool true)) ∧ OldK s.heap s'.heap ∧ s'.os = s.os ∧ AllBare s'.gens) s := by
  have main : ∀ H : Hp, Only H → SqL K H a (ns.map V.int) → HOk P w H s.heap → (∀ b, H b ≠ none → b = a) → (H a ≠ none → K.lookup a = none) →
      codeAny (model P w) callerA (.call (.ref fa) ⟨[.ref a], []⟩) (fun r s' => r = .ok (.ret (.bool true)) ∧ OldK s.heap s'.heap ∧ s'.os = s.os ∧ AllBare s'.gens) s := by
    intro H only list ok alone out
    have seen : ∀ {b : Addr} {o : Obj}, s.heap.get? b = some o → H b = none → (hidT s.heap H).get? b = some o := fun z n => hidT_get z n
    have dict : ∀ {b : Addr} {o : Obj} {es : Array DictEntry} {ep : Nat}, s.heap.get? b = some o → o.data = .dict es ep → H b = none := by
      intro b o es ep z dz
      refine Classical.byContradiction fun some_ => ?_
      have eb := alone b some_
      rw [eb, at_] at z
      cases z
      cases (show Data.seq vs.toArray _ = Data.dict es ep from dz)
    have names : ∀ {b : Addr} {m : Str → Option Value}, s.heap.Ns b m → (hidT s.heap H).Ns b m := by
      rintro b m ⟨o, es, ep, z, dz, rest⟩
      exact ⟨o, es, ep, seen z (dict z dz), dz, rest⟩
    have inB : K.In (hidT s.heap H) := by
      intro b o z
      refine seen (inK b o z) (Classical.byContradiction fun some_ => ?_)
      have eb := alone b some_
      subst eb
      rw [out some_] at z
      cases z
    obtain ⟨ml, l1, l2⟩ := lim
    have mod : Mod K mg (hidT s.heap H) := ⟨inB, names gl, ⟨mb, names bl, boot⟩, ⟨ml, names l1, l2⟩⟩
    have env : Env0 P w K mg (hidT s.heap H) callerA [] s H := { frames := rfl, mod := mod, bs := fun b o z => of_hidT z, bsz := Nat.le_of_eq (hidT_size _ _), funs := trivial, frf := (fun b hb => by cases (show b ∈ ([] : List Addr) from hb)), hok := ok, bare := .of_eq ng }
    refine codeAny_mono ((F _ inB (names gl)).go callerA rfl room [] s H _ [.ref a] [.ref a] _ _ env (bound s (.ref a)) (.cons rfl .nil) (told H only list)) fun r s2 z => ?_
    match r, z with
    | .error e, z => exact (noX H e s2 z).elim
    | .ok .next, z => exact z.elim
    | .ok .brk, z => exact z.elim
    | .ok .cont, z => exact z.elim
    | .ok (.ret u), ⟨v, H2, os, bare, un, ok2, rel, q⟩ =>
      cases (show v = V.bl true from q)
      cases (show u = Value.bool true from rel)
      refine ⟨rfl, OldK.of_keep fun b o z => ?_, os, bare⟩
      by_cases hb : H b = none
      · exact un.keep b o z hb (fun m => by cases (show b ∈ ([] : List Addr) from m)) (fun m => by cases m)
      · rcases only b with n | ⟨ob, xs, f⟩
        · exact absurd n hb
        · have o1 := (ok b _ f).1
          have o2 := (ok2 b _ (un.frzs b ob _ f)).1
          rw [z] at o1
          rw [Option.some.inj o1]
          exact o2
  have rel := vals_ints are
  cases hk : K.lookup a with
  | some o =>
    have z := inK a o hk
    rw [at_] at z
    cases z
    exact main (fun _ => none) (fun _ => .inl rfl) (.inr ⟨_, vs.toArray, _, hk, rfl, rfl, rfl, by rw [List.size_toArray, are.length]; exact small, by simpa using rel⟩) (fun b u z => by cases z) (fun b z => absurd rfl z) fun z => absurd rfl z
  | none =>
    have on : ∀ b : Addr, b = a → (if b = a then some (HO.frz { cls := .type "list", data := .seq vs.toArray } (.lst (ns.map V.int))) else none) = some (HO.frz { cls := .type "list", data := .seq vs.toArray } (.lst (ns.map V.int))) := fun b e => if_pos e
    refine main (fun b => if b = a then some (.frz { cls := .type "list", data := .seq vs.toArray } (.lst (ns.map V.int))) else none) (fun b => ?_) (.inl (.inr ⟨_, on a rfl⟩)) (fun b u z => ?_) (fun b z => ?_) fun _ => hk
    · rcases Classical.em (b = a) with e | e
      · exact .inr ⟨_, _, on b e⟩
      · exact .inl (if_neg e)
    · rcases Classical.em (b = a) with e | e
      · have := (on b e).symm.trans z
        cases this
        subst e
        exact ⟨at_, by rw [List.length_map]; exact small, vs, _, rel, at_⟩
      · have := (if_neg e).symm.trans z
        cases this
    · exact Classical.byContradiction fun e => z (if_neg e)
theorem walk_G {l : PySem.W.OpenLaw} {n k : Nat} {q : Program} {loose : List Str} {XP : (Str → Option Value) → Heap → Prop} {YP : World → Heap → Prop} {d : DefRec} {K : Params → PySem.W.Frag} {CX : World → CXT} {sp : World → Sp} {x : Str}
    (most : l.most = some n) (small : n ≤ sizeLine) (nodef : d.params.defaults = []) (room : Room k callerA) (inK : ∀ (w : World) (h : Heap), YP w h → (K w.params).In h)
    (F : ∀ (w : World) (mg : Str → Option Value) (fa : Addr) (h : Heap), (K w.params).In h → h.Ns mainGlobals mg → mg d.name = some (.ref fa) →
      ∃ fd : FuncData, (∀ (s : Shared) (u : Value), BindsTo s fd ⟨[u], []⟩ [(x, u)]) ∧ ∀ bs : Heap, (K w.params).In bs → bs.Ns mainGlobals mg → FnG l.prog w (K w.params) mg bs (CX w) k fa fd [x] (sp w))
    (told : ∀ (w : World) (H : Hp) (a : Addr) (ns : List Int), ns.length ≤ n → Only H → SqL (K w.params) H a (ns.map V.int) → sp w [.ref a] H (fun v _ => v = .bl true) fun _ _ _ => False)
    (noX : ∀ (w : World) (H : Hp) (s : Shared) (e : Value) (s' : Shared), CX w [] H s (fun _ _ _ => False) e s' → False) :
    PySem.W.WalkO q loose XP YP l.row.toRowW d [] (fun f vs => PySem.call f vs) := by
  refine Att.attach_call most nodef fun w s₀ s₁ mg mb fa o pm cd doc a vs ns G Y ho hd hcd hmg hobj hints hlen hg => ?_
  obtain ⟨fd, bound, FG⟩ := F w mg fa _ (inK w _ Y) G.T.g hmg
  exact law_G (inK w _ Y) G.T.g G.T.b G.T.builtins G.T.nolimit hg hobj hints (Nat.le_trans hlen small) room FG bound (fun H only list => told w H a ns hlen only list) fun H e s2 => noX w H s₁ e s2

/-! ### the end of a law whose defs are called where nothing is being shown, with tables of code objects -/
def LawAtG (l : PySem.W.OpenLaw) (w : World) (K : PySem.W.Frag) (CX : CXT) (k n : Nat) (x : Str) (mg : Str → Option Value) (f : Addr) (top : Heap) : Prop :=
  ∃ (fd : FuncData) (ts : List (Addr × Addr)) (sp : Sp), (∀ t ∈ ts, top.get? t.2 = some { cls := .none, data := .fields #[] }) ∧ (∀ t ∈ ts, K.lookup t.2 = none) ∧ (∀ t ∈ ts, PySem.W.CodeHd top t.1 t.2) ∧ (∀ (st : Shared) (v : Value), BindsTo st fd ⟨[v], []⟩ [(x, v)]) ∧
    (∀ (H : Hp) (p : Addr) (zs : List Int), zs.length ≤ n → (∀ z ∈ zs, Builtin.Int.intBits z ≤ 1048576) → (∀ t ∈ ts, H t.2 = some (.tbl #[])) → SqL K H p (zs.map V.int) → sp [.ref p] H (fun v _ => v = .bl true) fun _ _ _ => False) ∧
    ∀ under : Heap, K.In under → under.Ns mainGlobals mg → (∀ t ∈ ts, LamX.TabB under mg t.1 t.2) → FnG l.prog w K mg under CX k f fd [x] sp
theorem law_GT {P : Program} {w : World} {K : PySem.W.Frag} {mg mb : Str → Option Value} {CX : CXT} {k : Nat} {f p : Addr} {ts : List (Addr × Addr)} {fd : FuncData} {x : Str} {sp : Sp} {s : Shared} {us : List Value} {zs : List Int}
    (inK : K.In s.heap) (gl : s.heap.Ns mainGlobals mg) (bl : s.heap.Ns builtinsNs mb) (boot : ∀ y : Str, y ≠ "__name__" → mb y = bootBuiltins y) (lim : s.heap.NoLimit) (ng : s.gens = #[])
    (bare : ∀ t ∈ ts, s.heap.get? t.2 = some { cls := .none, data := .fields #[] }) (out : ∀ t ∈ ts, K.lookup t.2 = none) (code : ∀ t ∈ ts, PySem.W.CodeHd s.heap t.1 t.2)
    (bmod : ∃ (m : Addr) (o : Obj), mg "__builtins__" = some (.ref m) ∧ m ≠ builtinsNs ∧ s.heap.get? m = some o ∧ o.cls = .type "module" ∧ o.dict = some builtinsNs ∧ o.data = .plain)
    (script : s.heap.get? p = some { cls := .type "list", data := .seq us.toArray }) (are : IntsAre us zs) (small : zs.length ≤ sizeLine) (room : Room k callerA)
    (F : ∀ under : Heap, K.In under → under.Ns mainGlobals mg → (∀ t ∈ ts, LamX.TabB under mg t.1 t.2) → FnG P w K mg under CX k f fd [x] sp) (bound : ∀ (st : Shared) (v : Value), BindsTo st fd ⟨[v], []⟩ [(x, v)])
    (told : ∀ H : Hp, (∀ t ∈ ts, H t.2 = some (.tbl #[])) → SqL K H p (zs.map V.int) → sp [.ref p] H (fun v _ => v = .bl true) fun _ _ _ => False)
    (noX : ∀ H e st, CX [] H s (fun _ _ _ => False) e st → False) :
    codeAny (model P w) callerA (.call (.ref f) ⟨[.ref p], []⟩) (fun r st => r = .ok (.ret (.bool true)) ∧ OldK s.heap st.heap ∧ st.os = s.os ∧ AllBare st.gens) s := by
  have tabAt : ∀ c ∈ ts.map Prod.snd, s.heap.get? c = some { cls := .none, data := .fields #[] } := by
    intro c hc
    obtain ⟨t, ht, rfl⟩ := List.mem_map.mp hc
    exact bare t ht
  have inTs : ∀ {t : Addr × Addr}, t ∈ ts → t.2 ∈ ts.map Prod.snd := fun ht => List.mem_map_of_mem ht
  have pNo : ¬ p ∈ ts.map Prod.snd := by
    intro hp
    have both := (tabAt p hp).symm.trans script
    have kinds := congrArg (fun o : Option Obj => o.map Obj.cls) both
    simp at kinds
  have main : ∀ H : Hp, (∀ t ∈ ts, H t.2 = some (.tbl #[])) → (∀ c, H c = none ∨ c ∈ ts.map Prod.snd ∨ ∃ o ys, H c = some (.frz o (.lst ys))) → SqL K H p (zs.map V.int) → HOk P w H s.heap → (∀ c, H c ≠ none → c = p ∨ c ∈ ts.map Prod.snd) → (H p ≠ none → K.lookup p = none) →
      codeAny (model P w) callerA (.call (.ref f) ⟨[.ref p], []⟩) (fun r st => r = .ok (.ret (.bool true)) ∧ OldK s.heap st.heap ∧ st.os = s.os ∧ AllBare st.gens) s := by
    intro H tabs kinds list ok alone off
    have free : ∀ {c : Addr} {o : Obj}, s.heap.get? c = some o → (∀ ys m, ¬ o.data = .seq ys m) → ¬ o.data = .fields #[] → H c = none := by
      intro c o ho n1 n2
      refine Classical.byContradiction fun some_ => ?_
      rcases alone c some_ with rfl | hc
      · cases Option.some.inj (ho.symm.trans script)
        exact n1 _ _ rfl
      · cases Option.some.inj (ho.symm.trans (tabAt c hc))
        exact n2 rfl
    have names : ∀ {c : Addr} {m : Str → Option Value}, s.heap.Ns c m → (hidT s.heap H).Ns c m := by
      rintro c m ⟨o, es, ep, ho, dz, more⟩
      refine ⟨o, es, ep, hidT_get ho (free ho (fun ys j z => ?_) fun z => ?_), dz, more⟩ <;> exact Data.noConfusion (dz.symm.trans z)
    have inB : K.In (hidT s.heap H) := by
      intro c o ho
      refine hidT_get (inK c o ho) (Classical.byContradiction fun some_ => ?_)
      rcases alone c some_ with rfl | hc
      · exact absurd (ho.symm.trans (off some_)) (by simp)
      · obtain ⟨t, ht, rfl⟩ := List.mem_map.mp hc
        exact absurd (ho.symm.trans (out t ht)) (by simp)
    obtain ⟨ml, l1, l2⟩ := lim
    have mod : L2.Mod K mg (hidT s.heap H) := ⟨inB, names gl, ⟨mb, names bl, boot⟩, ⟨ml, names l1, l2⟩⟩
    have tables : ∀ t ∈ ts, LamX.TabB (hidT s.heap H) mg t.1 t.2 := by
      intro t ht
      constructor
      · obtain ⟨o, ys, file, tf, flags, tg, inF, text, tt, c1, c2, c3, c4, c5, c6, c7, c8, c9, c10⟩ := code t ht
        refine ⟨o, ys, file, tf, flags, tg, inF, text, tt, hidT_get c1 (free c1 (fun us j z => Data.noConfusion (c3.symm.trans z)) fun z => ?_), c2, c3, c4, c5, c6, c7, c8, c9, c10⟩
        have z2 := c3.symm.trans z
        cases z2
        simp at c4
      · obtain ⟨m, o, b1, b2, b3, b4, b5, b6⟩ := bmod
        refine ⟨m, o, b1, b2, fun z => ?_, fun z => ?_, hidT_get b3 (free b3 (fun us j z => Data.noConfusion (b6.symm.trans z)) fun z => Data.noConfusion (b6.symm.trans z)), b4, b5, b6⟩
        · obtain ⟨o', es, ep, ho, dz, _⟩ := gl
          subst z
          cases Option.some.inj (b3.symm.trans ho)
          exact Data.noConfusion (b6.symm.trans dz)
        · subst z
          cases Option.some.inj (b3.symm.trans (bare t ht))
          exact Data.noConfusion b6
      · intro z
        obtain ⟨o', es, ep, ho, dz, _⟩ := gl
        rw [z] at ho
        cases Option.some.inj (ho.symm.trans (bare t ht))
        exact Data.noConfusion dz
    have env : Env0 P w K mg (hidT s.heap H) callerA [] s H := { frames := rfl, mod := mod, bs := fun c o z => of_hidT z, bsz := Nat.le_of_eq (hidT_size _ _), funs := trivial, frf := (fun c hc => by cases (show c ∈ ([] : List Addr) from hc)), hok := ok, bare := .of_eq ng }
    refine codeAny_mono ((F _ inB (names gl) tables).go callerA rfl room [] s H _ [.ref p] [.ref p] _ _ env (bound s (.ref p)) (.cons rfl .nil) (told H tabs list)) fun r st z => ?_
    match r, z with
    | .error e, z => exact (noX H e st z).elim
    | .ok .next, z => exact z.elim
    | .ok .brk, z => exact z.elim
    | .ok .cont, z => exact z.elim
    | .ok (.ret u), ⟨v, H2, os, bg, un, ok2, rel, q⟩ =>
      cases (show v = V.bl true from q)
      cases (show u = Value.bool true from rel)
      have old : ∀ c o, ¬ c ∈ ts.map Prod.snd → s.heap.get? c = some o → st.heap.get? c = some o := by
        intro c o nc ho
        by_cases hc : H c = none
        · exact un.keep c o ho hc (fun m => by cases (show c ∈ ([] : List Addr) from m)) (fun m => by cases m)
        · rcases kinds c with n | n | ⟨ob, ys, fz⟩
          · exact absurd n hc
          · exact absurd n nc
          · have o1 := (ok c _ fz).1
            have o2 := (ok2 c _ (un.frzs c ob _ fz)).1
            rw [ho] at o1
            rw [Option.some.inj o1]
            exact o2
      have grown : ∀ c ∈ ts.map Prod.snd, ∃ more : Array Value, st.heap.get? c = some { cls := .none, data := .fields more } := by
        intro c hc
        obtain ⟨t, ht, rfl⟩ := List.mem_map.mp hc
        obtain ⟨more, hm⟩ := un.tbls t.2 #[] (tabs t ht)
        exact ⟨_, ok2 t.2 _ hm⟩
      refine ⟨rfl, ⟨fun c o ho => ?_, fun c o ho => ?_⟩, os, bg⟩
      · by_cases hc : c ∈ ts.map Prod.snd
        · obtain ⟨more, hm⟩ := grown c hc
          obtain ⟨t, ht, rfl⟩ := List.mem_map.mp hc
          cases Option.some.inj (ho.symm.trans (bare t ht))
          exact .inr (.inl ⟨((code t ht).tab (bare t ht)).isCodeTable, rfl, #[], more, rfl, by rw [Array.empty_append]; exact hm⟩)
        · exact .inl (old c o hc ho)
      · by_cases hc : c ∈ ts.map Prod.snd
        · obtain ⟨more, hm⟩ := grown c hc
          exact ⟨_, hm⟩
        · exact ⟨o, old c o hc ho⟩
  have rel := vals_ints are
  let base : Hp := fun c => if c ∈ ts.map Prod.snd then some (.tbl #[]) else none
  have onT : ∀ {c : Addr}, c ∈ ts.map Prod.snd → base c = some (.tbl #[]) := fun hc => if_pos hc
  have offT : ∀ {c : Addr}, ¬ c ∈ ts.map Prod.snd → base c = none := fun hc => if_neg hc
  cases hk : K.lookup p with
  | some o =>
    cases Option.some.inj ((inK p o hk).symm.trans script)
    refine main base (fun t ht => onT (inTs ht)) (fun c => ?_) (.inr ⟨_, us.toArray, _, hk, rfl, rfl, rfl, by rw [List.size_toArray, are.length]; exact small, by simpa using rel⟩) (fun c u z => ?_) (fun c z => ?_) fun z => absurd (offT pNo) z
    · rcases Classical.em (c ∈ ts.map Prod.snd) with hc | hc
      · exact .inr (.inl hc)
      · exact .inl (offT hc)
    · rcases Classical.em (c ∈ ts.map Prod.snd) with hc | hc
      · cases Option.some.inj ((onT hc).symm.trans z)
        exact tabAt c hc
      · exact absurd ((offT hc).symm.trans z) (by simp)
    · exact .inr (Classical.byContradiction fun hc => z (offT hc))
  | none =>
    let frz : HO := .frz { cls := .type "list", data := .seq us.toArray } (.lst (zs.map V.int))
    have onP : (fun c => if c = p then some frz else base c) p = some frz := if_pos rfl
    have offP : ∀ {c : Addr}, ¬ c = p → (fun c => if c = p then some frz else base c) c = base c := fun hc => if_neg hc
    refine main (fun c => if c = p then some frz else base c) (fun t ht => ?_) (fun c => ?_) (.inl (.inr ⟨_, onP⟩)) (fun c u z => ?_) (fun c z => ?_) fun _ => hk
    · refine (offP fun e => pNo ?_).trans (onT (inTs ht))
      rw [← e]
      exact inTs ht
    · rcases Classical.em (c = p) with rfl | e
      · exact .inr (.inr ⟨_, _, onP⟩)
      · rcases Classical.em (c ∈ ts.map Prod.snd) with hc | hc
        · exact .inr (.inl hc)
        · exact .inl ((offP e).trans (offT hc))
    · rcases Classical.em (c = p) with rfl | e
      · cases Option.some.inj (onP.symm.trans z)
        exact ⟨script, by rw [List.length_map]; exact small, us, _, rel, script⟩
      · have z := (offP e).symm.trans z
        rcases Classical.em (c ∈ ts.map Prod.snd) with hc | hc
        · cases Option.some.inj ((onT hc).symm.trans z)
          exact tabAt c hc
        · exact absurd ((offT hc).symm.trans z) (by simp)
    · rcases Classical.em (c = p) with e | e
      · exact .inl e
      · exact .inr (Classical.byContradiction fun hc => z ((offP e).trans (offT hc)))
theorem walk_GT {l : PySem.W.OpenLaw} {n k : Nat} {q : Program} {loose : List Str} {XP : (Str → Option Value) → Heap → Prop} {YP : World → Heap → Prop} {d : DefRec} {CX : World → CXT} {x : Str}
    (most : l.most = some n) (small : n ≤ sizeLine) (nodef : d.params.defaults = []) (room : Room k callerA)
    (F : ∀ (w : World) (mg : Str → Option Value) (f : Addr) (top : Heap), YP w top → top.Ns mainGlobals mg → mg d.name = some (.ref f) → ∃ K : PySem.W.Frag, K.In top ∧ LawAtG l w K (CX w) k n x mg f top)
    (noX : ∀ (w : World) (H : Hp) (s : Shared) (e : Value) (st : Shared), CX w [] H s (fun _ _ _ => False) e st → False) :
    PySem.W.WalkO q loose XP YP l.row.toRowW d [] (fun f vs => PySem.call f vs) := by
  refine Att.attach_callB most nodef fun w s0 s mg mb f o pm cd doc p us zs G Y ho hd hcd named script are few bits ng => ?_
  obtain ⟨K, inK, fd, ts, sp, bare, out, code, bound, told, FG⟩ := F w mg f _ Y G.T.g named
  exact law_GT inK G.T.g G.T.b G.T.builtins G.T.nolimit ng bare out code G.T.bmain script are (Nat.le_trans few small) room FG bound (fun H tabs list => told H p zs few bits tabs list) fun H e st => noX w H s e st

/-! ### data made by the law or the program: numbers, truths, texts, lists and tuples of these -/
mutual
inductive Tk (H : Hp) : V → PyData → Prop
  | bl (b : Bool) : Tk H (.bl b) (.bool b)
  | int (i : Int) : Tk H (.int i) (.int i)
  | str (x : Str) : Tk H (.str x) (.str x)
  | lst {a : Addr} {xs : List V} {ds : List PyData} : H a = some (.lst xs) → TkAll H xs ds → Tk H (.ref a) (.list ds)
  | tup {a : Addr} {xs : List V} {ds : List PyData} : H a = some (.tup xs) → TkAll H xs ds → Tk H (.ref a) (.tuple ds)
inductive TkAll (H : Hp) : List V → List PyData → Prop
  | nil : TkAll H [] []
  | cons {v : V} {vs : List V} {d : PyData} {ds : List PyData} : Tk H v d → TkAll H vs ds → TkAll H (v :: vs) (d :: ds)
end
theorem TkAll.length {H : Hp} : ∀ {vs : List V} {ds : List PyData}, TkAll H vs ds → vs.length = ds.length
  | _, _, .nil => rfl
  | _, _, .cons _ t => by rw [List.length_cons, List.length_cons, t.length]
mutual
theorem Tk.same {H H' : Hp} (s : Same H H') : ∀ {v : V} {d : PyData}, Tk H v d → Tk H' v d
  | _, _, .bl b => .bl b
  | _, _, .int i => .int i
  | _, _, .str x => .str x
  | _, _, .lst h t => .lst (s _ _ h) (t.same s)
  | _, _, .tup h t => .tup (s _ _ h) (t.same s)
theorem TkAll.same {H H' : Hp} (s : Same H H') : ∀ {vs : List V} {ds : List PyData}, TkAll H vs ds → TkAll H' vs ds
  | _, _, .nil => .nil
  | _, _, .cons h t => .cons (h.same s) (t.same s)
end
theorem TkAll.get {H : Hp} : ∀ {xs : List V} {ds : List PyData} {j : Nat} {x : V}, TkAll H xs ds → xs[j]? = some x → ∃ d, ds[j]? = some d ∧ Tk H x d
  | _, _, _, _, .nil, h => by simp at h
  | _, _, 0, _, .cons (d := d) a _, h => by
    cases (Option.some.inj h)
    exact ⟨d, rfl, a⟩
  | _, _, j + 1, _, .cons _ t, h => t.get h
theorem TkAll.append {H : Hp} : ∀ {xs ys : List V} {ds es : List PyData}, TkAll H xs ds → TkAll H ys es → TkAll H (xs ++ ys) (ds ++ es)
  | _, _, _, _, .nil, t => t
  | _, _, _, _, .cons a r, t => .cons a (r.append t)
theorem TkAll.ints {H : Hp} : ∀ ns : List Int, TkAll H (ns.map V.int) (ns.map PyData.int)
  | [] => .nil
  | n :: r => .cons (.int n) (TkAll.ints r)
theorem Tk.int_inv {H : Hp} {v : V} {i : Int} (h : Tk H v (.int i)) : v = .int i := by cases h; rfl
theorem Tk.tup_inv {H : Hp} {v : V} {ds : List PyData} (h : Tk H v (.tuple ds)) : ∃ a xs, v = .ref a ∧ H a = some (.tup xs) ∧ TkAll H xs ds := by
  cases h with
  | tup h t => exact ⟨_, _, rfl, h, t⟩
theorem Tk.lst_inv {H : Hp} {v : V} {ds : List PyData} (h : Tk H v (.list ds)) : ∃ a xs, v = .ref a ∧ H a = some (.lst xs) ∧ TkAll H xs ds := by
  cases h with
  | lst h t => exact ⟨_, _, rfl, h, t⟩
theorem TkAll.int_inv {H : Hp} : ∀ {vs : List V} {ns : List Int}, TkAll H vs (ns.map PyData.int) → vs = ns.map V.int
  | _, [], .nil => rfl
  | _, n :: r, .cons h t => by rw [List.map_cons, h.int_inv, t.int_inv]
/-- heaps without one place -/
def hd1 (p : Addr) (H : Hp) : Hp := fun b => if b = p then none else H b
theorem hd1_le {p : Addr} {H : Hp} : Same (hd1 p H) H := fun b o e => by
  unfold hd1 at e
  by_cases h : b = p
  · rw [if_pos h] at e; cases e
  · rw [if_neg h] at e; exact e
theorem hd1_same {p : Addr} {H H' : Hp} (s : Same H H') : Same (hd1 p H) (hd1 p H') := fun b o e => by
  unfold hd1 at e ⊢
  by_cases h : b = p
  · rw [if_pos h] at e; cases e
  · rw [if_neg h] at e ⊢; exact s _ _ e
theorem hd1_upd {p : Addr} {H : Hp} {o : HO} : Same (hd1 p H) (hd1 p (upd H p o)) := fun b x e => by
  unfold hd1 at e ⊢
  by_cases h : b = p
  · rw [if_pos h] at e; cases e
  · rw [if_neg h] at e ⊢; rw [upd_ne h]; exact e
theorem hd1_at {p b : Addr} {H : Hp} (h : b ≠ p) : hd1 p H b = H b := if_neg h
theorem hd1_of {p : Addr} {H H' : Hp} (s : Same H H') (n : H p = none) : Same H (hd1 p H') := fun b o e => by
  rw [hd1_at (ne_of_none e n)]
  exact s _ _ e
theorem same_of_hd1 {p : Addr} {H H' : Hp} {o : HO} (s : Same H (hd1 p H')) : Same H (upd H' p o) := fun b x e => by
  have z := s b x e
  unfold hd1 at z
  by_cases h : b = p
  · rw [if_pos h] at z; cases z
  · rw [if_neg h] at z; rw [upd_ne h]; exact z

/-! ### tables and gates -/
def tabOf (bs : List Bool) : Str := ⟨(bs.map fun b => if b = true then 49 else 48).toArray⟩
def plc (ws : List Int) : Int := ws.foldl (fun p w => 2 * p + w) 0
def gateM (bs : List Bool) (ws : List Int) : Int := if bs.getD (plc ws).toNat false = true then 1 else 0
theorem plc_snoc (ws : List Int) (w : Int) : plc (ws ++ [w]) = 2 * plc ws + w := by
  unfold plc
  rw [List.foldl_append]
  rfl
theorem plc_take {ws : List Int} {i : Nat} {u : Int} (h : ws[i]? = some u) : plc (ws.take (i + 1)) = 2 * plc (ws.take i) + u := by
  rw [List.take_add_one, h]
  exact plc_snoc _ _
theorem plc_bd : ∀ (n : Nat) (ws : List Int), ws.length = n → (∀ w ∈ ws, w = 0 ∨ w = 1) → 0 ≤ plc ws ∧ plc ws < 2 ^ n := by
  intro n
  induction n with
  | zero =>
    intro ws h _
    cases List.eq_nil_of_length_eq_zero h
    decide
  | succ n ih =>
    intro ws h hw
    have hne : ws ≠ [] := fun z => by rw [z] at h; cases h
    obtain ⟨r, x, rfl⟩ : ∃ r x, ws = r ++ [x] := ⟨ws.dropLast, ws.getLast hne, (List.dropLast_concat_getLast hne).symm⟩
    have hr := ih r (by rw [List.length_append] at h; simpa using h) fun w h' => hw w (List.mem_append_left _ h')
    have hx := hw x (by simp)
    rw [plc_snoc, Int.pow_succ]
    omega
theorem gate01 (bs : List Bool) (ws : List Int) : gateM bs ws = 0 ∨ gateM bs ws = 1 := by
  unfold gateM
  split
  · exact .inr rfl
  · exact .inl rfl
theorem int_sign (b : Bool) : PySem.intText? ⟨#[if b = true then 49 else 48]⟩ = some (if b = true then 1 else 0) := by
  cases b <;> decide +kernel
def spGate (K : PySem.W.Frag) : Sp := fun vs H Q _ => ∃ (bs : List Bool) (la : Addr) (ws : List Int), vs = [.str (tabOf bs), .ref la] ∧ SqL K H la (ws.map V.int) ∧ (∀ w ∈ ws, w = 0 ∨ w = 1) ∧ bs.length = 2 ^ ws.length ∧ ws.length ≤ 3 ∧ Q (.int (gateM bs ws)) H
theorem gate_read {bs : List Bool} {ws : List Int} (hw : ∀ w ∈ ws, w = 0 ∨ w = 1) (hb : bs.length = 2 ^ ws.length) (h3 : ws.length ≤ 3) : ∃ b : Bool, 0 ≤ plc ws ∧ plc ws < 2 ^ 63 ∧ plc ws < (tabOf bs).length ∧ (tabOf bs).cps[(plc ws).toNat]? = some (if b = true then 49 else 48) ∧ gateM bs ws = if b = true then 1 else 0 := by
  obtain ⟨p0, p1⟩ := plc_bd _ ws rfl hw
  have p8 : plc ws < 8 := by
    have : (2 : Int) ^ ws.length ≤ 8 := by
      have : ws.length = 0 ∨ ws.length = 1 ∨ ws.length = 2 ∨ ws.length = 3 := by omega
      rcases this with h | h | h | h <;> rw [h] <;> decide
    omega
  have hlt : (plc ws).toNat < bs.length := by
    have : ((2 ^ ws.length : Nat) : Int) = (2 : Int) ^ ws.length := by simp
    omega
  refine ⟨bs[(plc ws).toNat], p0, by omega, ?_, ?_, ?_⟩
  · have : (tabOf bs).length = bs.length := by simp [tabOf, Str.length]
    rw [this]
    omega
  · simp [tabOf, List.getElem?_eq_getElem hlt]
  · unfold gateM
    rw [List.getD_eq_getElem?_getD, List.getElem?_eq_getElem hlt]
    rfl

/-! ### walks -/
theorem gx_tup {α : Type} {K : PySem.W.Frag} {a : Addr} {xs : List V} {g : TG} {tt : TT} {te : TE} {vs : List Nat} {σ0 : L2.St} {End : α → Hp → Prop} {Yd : α → V → Hp → (α → Hp → Prop) → Prop} {a0 : α} {H0 : Hp} (Pv : Nat → α → Hp → Prop) (h0 : Pv 0 a0 H0)
    (hl : ∀ i c H, i ≤ xs.length → Pv i c H → SqT K H a xs)
    (hs : ∀ i x c H, xs[i]? = some x → Pv i c H → g x σ0 H fun σ2 H2 => wipe σ2 vs = σ0 ∧ tt σ2 H2 fun b H3 => if b = true then te σ2 H3 fun y H4 => Yd c y H4 (Pv (i + 1)) else Pv (i + 1) c H3) (hd : ∀ c H, Pv xs.length c H → End c H) :
    ∃ W : Nat → Nat → α → Hp → Prop, (∃ m, W 0 m a0 H0) ∧ tGx (Itt K a) g tt te σ0 vs End Yd W := by
  refine ⟨fun i m c H => m = xs.length - i ∧ i ≤ xs.length ∧ Pv i c H, ⟨xs.length, rfl, Nat.zero_le _, h0⟩, ?_⟩
  rintro i m c H ⟨rfl, hi, p⟩
  by_cases hlt : i < xs.length
  · have hx : xs[i]? = some xs[i] := List.getElem?_eq_getElem hlt
    refine .inr ⟨⟨xs, xs[i], hl i c H hi p, hx⟩, Pv (i + 1), fun c' H' p' => ⟨xs.length - (i + 1), by omega, rfl, hlt, p'⟩, fun x H' y => ?_⟩
    obtain ⟨rfl, y⟩ := y
    exact hs i x c _ (y xs (hl i c _ hi p)) p
  · have e : i = xs.length := by omega
    subst e
    exact .inl ⟨⟨xs, hl _ c H hi p, Nat.le_refl _⟩, hd c H p⟩
theorem lc_zipT {K : PySem.W.Frag} {a b : Addr} {xs ys : List V} {g : TG} {tt : TT} {te : TE} {vs : List Nat} {σ : L2.St} {H1 : Hp} {D : Addr} {Qd : Hp → Prop} (el : xs.length = ys.length) (Pv : Nat → Hp → Prop) (h0 : Pv 0 (upd H1 D (.lst []))) (hl : ∀ i H, i ≤ xs.length → Pv i H → SqT K H a xs ∧ SqT K H b ys)
    (hs : ∀ i x y T H, xs[i]? = some x → ys[i]? = some y → H T = none → Pv i H → g (.ref T) (wipe σ vs) (upd H T (.tup [x, y])) fun σ2 H2 => wipe σ2 vs = wipe σ vs ∧ tt σ2 H2 fun b H3 =>
      if b = true then te σ2 H3 fun y H4 => ∃ acc, H4 D = some (.lst acc) ∧ acc.length < sizeLine ∧ Pv (i + 1) (upd H4 D (.lst (acc ++ [y]))) else Pv (i + 1) H3) (hd : ∀ H, Pv xs.length H → Qd H) :
    ∃ W : Nat → Nat → Hp → Prop, (∃ m, W 0 m (upd H1 D (.lst []))) ∧ ∀ i m H, W i m H →
      ((RZ.ItzT K a b).stop i H ∧ Qd H) ∨ ((RZ.ItzT K a b).go i H ∧ ∃ Nx : Hp → Prop, (∀ H', Nx H' → ∃ m', m' < m ∧ W (i + 1) m' H') ∧ ∀ x H', (RZ.ItzT K a b).yld i H x H' → g x (wipe σ vs) H' fun σ2 H2 => wipe σ2 vs = wipe σ vs ∧ tt σ2 H2 fun b H3 =>
        if b = true then te σ2 H3 fun y H4 => ∃ acc, H4 D = some (.lst acc) ∧ acc.length < sizeLine ∧ Nx (upd H4 D (.lst (acc ++ [y]))) else Nx H3) := by
  refine ⟨fun i m H => m = xs.length - i ∧ i ≤ xs.length ∧ Pv i H, ⟨xs.length, by simp, Nat.zero_le _, h0⟩, ?_⟩
  rintro i m H ⟨rfl, hi, p⟩
  obtain ⟨qx, qy⟩ := hl i H hi p
  by_cases hlt : i < xs.length
  · have hx : xs[i]? = some xs[i] := List.getElem?_eq_getElem hlt
    have hy : ys[i]? = some (ys[i]'(by omega)) := List.getElem?_eq_getElem _
    refine .inr ⟨⟨xs, ys, _, _, qx, qy, hx, hy⟩, Pv (i + 1), fun H' p' => ⟨xs.length - (i + 1), by omega, rfl, hlt, p'⟩, fun x H' y => ?_⟩
    obtain ⟨T, x1, y1, rfl, nT, rfl, e1, e2⟩ := y
    exact hs i x1 y1 T H (e1 xs qx) (e2 ys qy) nT p
  · have e : i = xs.length := by omega
    subst e
    exact .inl ⟨⟨xs, ys, qx, qy, .inl (Nat.le_refl _)⟩, hd H p⟩

/-! ### nets, and the words of nets -/
abbrev Gt := List Bool × List Nat
def gD (g : Gt) : PyData := .tuple [.str (tabOf g.1), .tuple ((g.2.map Int.ofNat).map PyData.int)]
def netD (many : Int) (gs : List Gt) : PyData := .tuple [.int many, .tuple (gs.map gD)]
def rowD (r : List Int) : PyData := .tuple (r.map PyData.int)
def chD (a b : List Int) : PyData := .tuple [rowD a, rowD b]
def GtOk (n : Nat) (g : Gt) : Prop := g.1.length = 2 ^ g.2.length ∧ 1 ≤ g.2.length ∧ g.2.length ≤ 3 ∧ ∀ i ∈ g.2, i < n
def NetOk (n : Nat) (gs : List Gt) : Prop := ∀ k g, gs[k]? = some g → GtOk (n + k) g
def Row01 (r : List Int) : Prop := ∀ x ∈ r, x = 0 ∨ x = 1
mutual
theorem Tk.gr {H H' : Hp} (s : Gr H H') : ∀ {v : V} {d : PyData}, Tk H v d → Tk H' v d
  | _, _, .bl b => .bl b
  | _, _, .int i => .int i
  | _, _, .str x => .str x
  | _, _, .lst h t => .lst (s.lst h) (t.gr s)
  | _, _, .tup h t => .tup (s.tup h) (t.gr s)
theorem TkAll.gr {H H' : Hp} (s : Gr H H') : ∀ {vs : List V} {ds : List PyData}, TkAll H vs ds → TkAll H' vs ds
  | _, _, .nil => .nil
  | _, _, .cons h t => .cons (h.gr s) (t.gr s)
end
theorem Tk.row_inv {H : Hp} {v : V} {r : List Int} (h : Tk H v (rowD r)) : ∃ a, v = .ref a ∧ H a = some (.tup (r.map V.int)) := by
  obtain ⟨a, xs, rfl, ha, t⟩ := h.tup_inv
  rw [t.int_inv] at ha
  exact ⟨a, rfl, ha⟩
theorem Tk.ch_inv {H : Hp} {v : V} {a b : List Int} (h : Tk H v (chD a b)) : ∃ c ra rb, v = .ref c ∧ H c = some (.tup [.ref ra, .ref rb]) ∧ H ra = some (.tup (a.map V.int)) ∧ H rb = some (.tup (b.map V.int)) := by
  obtain ⟨c, xs, rfl, hc, t⟩ := h.tup_inv
  cases t with
  | cons h1 t => cases t with
    | cons h2 t =>
      cases t
      obtain ⟨ra, rfl, ha⟩ := h1.row_inv
      obtain ⟨rb, rfl, hb⟩ := h2.row_inv
      exact ⟨c, ra, rb, rfl, hc, ha, hb⟩
theorem Tk.net_inv {H : Hp} {v : V} {m : Int} {gs : List Gt} (h : Tk H v (netD m gs)) : ∃ n g xs, v = .ref n ∧ H n = some (.tup [.int m, .ref g]) ∧ H g = some (.tup xs) ∧ TkAll H xs (gs.map gD) := by
  obtain ⟨n, xs, rfl, hn, t⟩ := h.tup_inv
  cases t with
  | cons h1 t => cases t with
    | cons h2 t =>
      cases t
      cases h1
      obtain ⟨g, ys, rfl, hg, t2⟩ := h2.tup_inv
      exact ⟨n, g, ys, rfl, hn, hg, t2⟩
theorem Tk.gt_inv {H : Hp} {v : V} {g : Gt} (h : Tk H v (gD g)) : ∃ a i, v = .ref a ∧ H a = some (.tup [.str (tabOf g.1), .ref i]) ∧ H i = some (.tup ((g.2.map Int.ofNat).map V.int)) := by
  obtain ⟨a, xs, rfl, ha, t⟩ := h.tup_inv
  cases t with
  | cons h1 t => cases t with
    | cons h2 t =>
      cases t
      cases h1
      obtain ⟨i, rfl, hi⟩ := (show Tk H _ (rowD (g.2.map Int.ofNat)) from h2).row_inv
      exact ⟨a, i, rfl, ha, hi⟩
theorem TkAll.at {H : Hp} {α : Type} {f : α → PyData} {xs : List V} {ds : List α} (t : TkAll H xs (ds.map f)) {j : Nat} {v : V} (h : xs[j]? = some v) : ∃ x, ds[j]? = some x ∧ Tk H v (f x) := by
  obtain ⟨dx, hdx, tx⟩ := t.get h
  rw [List.getElem?_map] at hdx
  cases hz : ds[j]? with
  | none => rw [hz] at hdx; cases hdx
  | some x =>
    rw [hz] at hdx
    cases Option.some.inj hdx
    exact ⟨x, rfl, tx⟩
theorem TkAll.at' {H : Hp} {α : Type} {f : α → PyData} {xs : List V} {ds : List α} (t : TkAll H xs (ds.map f)) {j : Nat} {x : α} (h : ds[j]? = some x) : ∃ v, xs[j]? = some v ∧ Tk H v (f x) := by
  have hl := t.length
  rw [List.length_map] at hl
  have hj := (List.getElem?_eq_some_iff.mp h).1
  obtain ⟨y, hy, ty⟩ := t.at (List.getElem?_eq_getElem (l := xs) (i := j) (by omega))
  cases Option.some.inj (h.symm.trans hy)
  exact ⟨_, List.getElem?_eq_getElem _, ty⟩
theorem grow_upd {H H' : Hp} {p : Addr} {o : HO} (g : Gr H H') (n : H' p = none) : Gr H (upd H' p o) := g.trans (Gr.none n)
/-- no table, no older list: only the list at D is written -/
def GrD (D : Addr) (H H' : Hp) : Prop := Gr H (hd1 D H')
theorem GrD.gr {D : Addr} {H H' : Hp} (g : GrD D H H') : Gr H H' := g.trans (Gr.of hd1_le)
theorem TabG_hd1 {D P : Addr} {H : Hp} (h : GxR.TabG H P) (n : D ≠ P) : GxR.TabG (hd1 D H) P := by
  obtain ⟨ps, e, t⟩ := h
  exact ⟨ps, by rw [hd1_at (Ne.symm n)]; exact e, t⟩
theorem GrD.new {D : Addr} {H : Hp} {o : HO} (n : H D = none) : GrD D H (upd H D o) := Gr.of (hd1_of (same_upd n) n)
theorem hd1_gr {D : Addr} {H H' : Hp} (g : Gr H H') (hD : ∀ P, GxR.TabG H P → D ≠ P) : Gr (hd1 D H) (hd1 D H') := by
  refine ⟨fun b o n e => ?_, fun b t => ?_⟩
  · have hb : b ≠ D := fun z => by
      unfold hd1 at e
      rw [if_pos z] at e; cases e
    rw [hd1_at hb] at e ⊢
    exact g.1 b o n e
  · obtain ⟨ps, e, t⟩ := t
    have e' := hd1_le _ _ e
    exact TabG_hd1 (g.2 b ⟨ps, e', t⟩) (hD b ⟨ps, e', t⟩)
theorem GrD.then {D : Addr} {H H1 H2 : Hp} {xs : List V} (a : GrD D H H1) (hD : H1 D = some (.lst xs)) (b : Gr H1 H2) : GrD D H H2 := a.trans (hd1_gr b fun P ⟨ps, e, _⟩ z => by
  rw [← z, hD] at e
  cases e)
theorem GrD.set {D : Addr} {H H1 : Hp} {o : HO} (a : GrD D H H1) : GrD D H (upd H1 D o) := a.trans (Gr.of hd1_upd)

end Gk

set_option Elab.async false
set_option linter.all false
set_option maxRecDepth 100000
set_option maxHeartbeats 1000000
set_option pp.maxSteps 900
set_option pp.deepTerms false
namespace Gk
open PySem PySem.Spec PyProof.Rows L2
/-! ### data of tuples alone: no list that is written can harm it -/
mutual
def noL : PyData → Bool
  | .list _ => false
  | .tuple ds => noLs ds
  | _ => true
def noLs : List PyData → Bool
  | [] => true
  | d :: r => noL d && noLs r
end
def Ts (H H' : Hp) : Prop := ∀ b xs, H b = some (HO.tup xs) → H' b = some (.tup xs)
theorem Ts.refl {H : Hp} : Ts H H := fun _ _ e => e
theorem Ts.trans {H H1 H2 : Hp} (a : Ts H H1) (b : Ts H1 H2) : Ts H H2 := fun c xs e => b c xs (a c xs e)
theorem Ts.same {H H' : Hp} (s : Same H H') : Ts H H' := fun b xs e => s _ _ e
theorem Ts.gr {H H' : Hp} (s : Gr H H') : Ts H H' := fun b xs e => s.tup e
theorem Ts.new {H : Hp} {p : Addr} {o : HO} (h : H p = none) : Ts H (upd H p o) := Ts.same (same_upd h)
theorem Ts.set {H : Hp} {p : Addr} {xs ys : List V} (h : H p = some (.lst xs)) : Ts H (upd H p (.lst ys)) := fun b zs e => by
  rw [upd_ne (ne_of e h (by intro z; cases z))]
  exact e
mutual
theorem Tk.ts {H H' : Hp} (s : Ts H H') : ∀ {v : V} {d : PyData}, Tk H v d → noL d = true → Tk H' v d
  | _, _, .bl b, _ => .bl b
  | _, _, .int i, _ => .int i
  | _, _, .str x, _ => .str x
  | _, _, .lst h t, n => by cases n
  | _, _, .tup h t, n => .tup (s _ _ h) (t.ts s n)
theorem TkAll.ts {H H' : Hp} (s : Ts H H') : ∀ {vs : List V} {ds : List PyData}, TkAll H vs ds → noLs ds = true → TkAll H' vs ds
  | _, _, .nil, _ => .nil
  | _, _, .cons (d := d) (ds := ds) h t, n => by
    have n' : noL d = true ∧ noLs ds = true := Bool.and_eq_true_iff.mp n
    exact .cons (h.ts s n'.1) (t.ts s n'.2)
end
theorem noLs_map {α : Type} {f : α → PyData} (h : ∀ x, noL (f x) = true) : ∀ l : List α, noLs (l.map f) = true
  | [] => rfl
  | x :: r => by
    show (noL (f x) && noLs (r.map f)) = true
    rw [h x, noLs_map h r]
    rfl
theorem noL_row (r : List Int) : noL (rowD r) = true := noLs_map (fun _ => rfl) r
theorem noL_gate (g : Gt) : noL (gD g) = true := by
  show (true && (noLs ((g.2.map Int.ofNat).map PyData.int) && true)) = true
  rw [noLs_map (fun _ => rfl)]
  rfl
theorem noL_gates (gs : List Gt) : noLs (gs.map gD) = true := noLs_map noL_gate gs
theorem noL_net (m : Int) (gs : List Gt) : noL (netD m gs) = true := by
  show (true && (noLs (gs.map gD) && true)) = true
  rw [noL_gates]
  rfl
theorem noL_ch (a b : List Int) : noL (chD a b) = true := by
  show (noL (rowD a) && (noL (rowD b) && true)) = true
  rw [noL_row, noL_row]
  rfl

/-! ### slices and sums of tuples: what is told stands in a heap that has grown -/
theorem cut_all {xs : List V} {lo hi : Option Int} (h : HT.sIx xs.length 0 lo = 0 ∧ HT.sIx xs.length xs.length hi = xs.length) : cutV xs lo hi = xs := by
  unfold cutV
  rw [h.1, h.2, List.drop_zero, Nat.sub_zero, List.take_length]
theorem same_refl {H : Hp} : Same H H := fun _ _ e => e
theorem slA {K : PySem.W.Frag} {a : Addr} {xs : List V} {lo hi : Option Int} {H : Hp} {Q : VK} (h : H a = some (.tup xs)) (q : ∀ p H', Same H H' → H' p = some (.tup (cutV xs lo hi)) → Q (.ref p) H') : rSlA K (.ref a) lo hi H Q :=
  ⟨a, xs, rfl, SqT.of h, fun w => q a H same_refl (by rw [cut_all w]; exact h), fun _ p np => q p _ (same_upd np) upd_same⟩
theorem slAn {K : PySem.W.Frag} {a : Addr} {xs : List V} {lo : Option Int} {H : Hp} {Q : VK} {σ : L2.St} (h : H a = some (.tup xs)) (q : ∀ p H', Same H H' → H' p = some (.tup (cutV xs lo none)) → Q (.ref p) H') : tNoPart σ H (fun u H3 => rSlA K (.ref a) lo u H3 Q) := slA h q
theorem catA {K : PySem.W.Frag} {a b : Addr} {xs ys : List V} {H : Hp} {Q : VK} (ha : H a = some (.tup xs)) (hb : H b = some (.tup ys)) (hl : xs.length + ys.length ≤ sizeLine) (q : ∀ p H', Same H H' → H' p = some (.tup (xs ++ ys)) → Q (.ref p) H') : rCatA K (.ref a) (.ref b) H Q :=
  ⟨a, b, xs, ys, rfl, rfl, SqT.of ha, SqT.of hb, hl, fun e => q b H same_refl (by rw [e]; exact hb), fun _ e => q a H same_refl (by rw [e, List.append_nil]; exact ha), fun _ _ p np => q p _ (same_upd np) upd_same⟩
theorem cut_to {xs : List V} {k : Nat} : cutV xs none (some (k : Int)) = xs.take k := by
  unfold cutV
  rw [HT.sIx_none, HT.sIx_nat, List.drop_zero, Nat.sub_zero]
  apply List.ext_getElem?
  intro i
  rw [List.getElem?_take, List.getElem?_take]
  by_cases h : i < k
  · rw [if_pos h]
    by_cases h2 : i < xs.length
    · rw [if_pos (by omega)]
    · rw [List.getElem?_eq_none (by omega)]
      split <;> rfl
  · rw [if_neg h, if_neg (by omega)]
theorem cut_from {xs : List V} {k : Nat} : cutV xs (some (k : Int)) none = xs.drop k := by
  unfold cutV
  rw [HT.sIx_none, HT.sIx_nat]
  by_cases h : k ≤ xs.length
  · rw [Nat.min_eq_left h]
    exact List.take_of_length_le (by rw [List.length_drop]; exact Nat.le_refl _)
  · rw [Nat.min_eq_right (by omega), Nat.sub_self, List.take_zero, List.drop_eq_nil_of_le (by omega)]
theorem TkAll.take {H : Hp} : ∀ {xs : List V} {ds : List PyData} (k : Nat), TkAll H xs ds → TkAll H (xs.take k) (ds.take k)
  | _, _, 0, _ => by rw [List.take_zero, List.take_zero]; exact .nil
  | _, _, _ + 1, .nil => .nil
  | _, _, k + 1, .cons a t => .cons a (t.take k)
theorem TkAll.drop {H : Hp} : ∀ {xs : List V} {ds : List PyData} (k : Nat), TkAll H xs ds → TkAll H (xs.drop k) (ds.drop k)
  | _, _, 0, t => t
  | _, _, _ + 1, .nil => .nil
  | _, _, k + 1, .cons _ t => t.drop k
theorem set_put {α : Type} {l : List α} {i : Nat} {x : α} (h : i < l.length) : (l.take i ++ [x]) ++ l.drop (i + 1) = l.set i x := by
  rw [List.set_eq_take_append_cons_drop, if_pos h, List.append_assoc]
  rfl
def rJoinK (K : PySem.W.Frag) : V → List V → Hp → VK → Prop := fun x xs H Q => ∃ a p, ∃ ys : List Str, x = .str a ∧ xs = [.ref p] ∧ (SqL K H p (ys.map V.str) ∨ SqT K H p (ys.map V.str)) ∧ (ys.map (·.length)).sum + ys.length * a.length ≤ 16777216 ∧ Q (.str (Txt.join a ys)) H

section
variable {P : Program} {w : World} {K : PySem.W.Frag} {mg : Str → Option Value} {base : Heap}
/-! ### the deck of k07 to k13: a dict with cells from behind, a seed, a count -/
theorem mix_mul (x : Int) (h : 0 ≤ x) (h1 : x < 2147483648) : -2 ^ 64 < x ∧ x < 2 ^ 64 := by omega
def sp_mixed (K : PySem.W.Frag) : Sp := fun vs H Q _ => ∃ i : Int, vs = [.int i] ∧ ∀ v : Int, 0 ≤ v → v < 2147483587 → Q (.int v) H
theorem ok_mixed (T : Tx K mg) : FnOk P w K mg base CX0 1 T.f_mixed T.fd_mixed ["_law_number"] (sp_mixed K) := by
  refine T.F_mixed.ok sc_mixed (fun vs H Q E h => ?_) (fun cdv A outer s H vs Q E hr h => ?_)
  · obtain ⟨i, rfl, _⟩ := h
    rfl
  · obtain ⟨i, rfl, q⟩ := h
    refine ⟨_, (pss_cons (ps_set (i := 0) sc_mixed.nd rfl (by first | exact .inl rfl | exact .inr rfl) (pe_op op_mod (pe_op op_add (pe_op op_mul (pe_op op_mod (pv 0) pe_int) pe_int) pe_int) pe_int)) (pss_cons (ps_set (i := 0) sc_mixed.nd rfl (by first | exact .inl rfl | exact .inr rfl) (pe_op op_mod (pe_op op_add (pe_op op_add (pe_op op_mul (pv 0) (pv 0)) (pe_op op_mul pe_int (pv 0))) pe_int) pe_int)) (pss_one (ps_ret (pe_op op_mod (pe_op op_add (pe_op op_mul (pv 0) pe_int) pe_int) pe_int))))), ?_⟩
    have p1 : (0 : Int) < 2147483629 := by decide
    have p2 : (0 : Int) < 2147483647 := by decide
    have p3 : (0 : Int) < 2147483587 := by decide
    have small : ∀ x y : Int, 0 < y → y < 2147483648 → (-2 ^ 64 < x % y ∧ x % y < 2 ^ 64) := fun x y h0 h1 => by
      have a := Int.emod_nonneg x (show y ≠ 0 by omega)
      have b := Int.emod_lt_of_pos x h0
      omega
    refine ⟨.int i, rfl, _, _, rfl, rfl, p1, _, _, rfl, rfl, .inr ⟨by decide, by decide⟩, _, _, rfl, rfl, _, _, rfl, rfl, p2, ?_⟩
    refine ⟨_, rfl, _, rfl, _, _, rfl, rfl, .inl (small _ _ p2 (by decide)), _, rfl, _, _, rfl, rfl, .inl ⟨by decide, by decide⟩, _, _, rfl, rfl, _, _, rfl, rfl, _, _, rfl, rfl, p1, ?_⟩
    refine ⟨_, rfl, _, _, rfl, rfl, .inr ⟨by decide, by decide⟩, _, _, rfl, rfl, _, _, rfl, rfl, p3, ?_⟩
    exact q _ (Int.emod_nonneg _ (by decide)) (Int.emod_lt_of_pos _ p3)
def kC : Key := .inr (Str.ofString "cells")
def kS : Key := .inr (Str.ofString "seed")
def kA : Key := .inr (Str.ofString "at")
def DeckF (H : Hp) (d l : Addr) (n : Int) : Prop := d ≠ l ∧ ∃ (cs : List Int) (y z : Int), H d = some (.dK [(kC, .ref l), (kS, .int y), (kA, .int z)]) ∧ H l = some (.lst (cs.map V.int)) ∧ cs.length ≤ 63 ∧ 0 ≤ z ∧ z ≤ n
theorem cut63 {ns : List Int} (h : ns.length ≤ 63) : cutV (ns.map V.int) none (some 63) = ns.map V.int := by
  unfold cutV
  have e : HT.sIx (ns.map V.int).length (ns.map V.int).length (some 63) = min 63 (ns.map V.int).length := HT.sIx_nat _ _ 63
  rw [HT.sIx_none, e, List.length_map, List.drop_zero]
  apply List.take_of_length_le
  rw [List.length_map]
  omega
def sp_deck (K : PySem.W.Frag) : Sp := fun vs H Q _ => ∃ (a : Addr) (ns : List Int), vs = [.ref a] ∧ SqL K H a (ns.map V.int) ∧ ns.length ≤ 63 ∧ ∀ H' d l, Same H H' → DeckF H' d l 0 → Q (.ref d) H'
theorem ok_deck (T : Tx K mg) : FnOk P w K mg base CX0 1 T.f_deck T.fd_deck ["_law_script"] (sp_deck K) := by
  refine T.F_deck.ok sc_deck (fun vs H Q E h => ?_) (fun cdv A outer s H vs Q E hr h => ?_)
  · obtain ⟨a, ns, rfl, _⟩ := h
    rfl
  · obtain ⟨a, ns, rfl, hS, hlen, q⟩ := h
    refine ⟨_, (pss_cons (ps_set (i := 1) sc_deck.nd rfl (by first | exact .inl rfl | exact .inr rfl) (pe_callTy call_list_of (by rfl) T.m_list (by decide +kernel) (pa_cons (pe_slice sl_list (pv 0) po_none (po_some pe_int)) pa_nil))) (pss_one (ps_ret (pe_disp (pps_cons pe_str (pe_revL (pv 1)) (pps_cons pe_str (pe_op op_add pe_int (pe_op op_mod (pe_callB (cr_sum rfl) (by rfl) T.m_sum (by decide +kernel) (pa_cons (pv 1) pa_nil)) pe_int)) (pps_cons pe_str pe_int pps_nil))) (by rfl) (by rfl) (fun z => by cases z) (by decide))))), ?_⟩
    refine ⟨.ref a, rfl, 63, rfl, a, _, rfl, hS, fun c1 n1 => ?_⟩
    rw [cut63 hlen]
    have s1 := same_upd (o := (HO.lst (ns.map V.int))) n1
    have h1 : upd H c1 (HO.lst (ns.map V.int)) c1 = some (HO.lst (ns.map V.int)) := upd_same
    generalize upd H c1 (HO.lst (ns.map V.int)) = H1 at s1 h1 ⊢
    refine ⟨c1, _, rfl, .inl (SqL.of h1), fun c2 n2 => ?_⟩
    have s2 := same_upd (o := (HO.lst (ns.map V.int))) n2
    have h2 : upd H1 c2 (HO.lst (ns.map V.int)) c2 = some (HO.lst (ns.map V.int)) := upd_same
    generalize upd H1 c2 (HO.lst (ns.map V.int)) = H2 at s2 h2 ⊢
    refine fun d nd => ?_
    have s3 := same_upd (o := (HO.dK [])) nd
    have h3 : upd H2 d (HO.dK []) d = some (HO.dK []) := upd_same
    generalize upd H2 d (HO.dK []) = H3 at s3 h3 ⊢
    refine ⟨.ref c2, rfl, c2, _, rfl, SqL.of (s3 _ _ h2), fun l nl => ?_⟩
    have s4 := same_upd (o := (HO.lst (ns.map V.int).reverse)) nl
    have h4 : upd H3 l (HO.lst (ns.map V.int).reverse) l = some (HO.lst (ns.map V.int).reverse) := upd_same
    generalize upd H3 l (HO.lst (ns.map V.int).reverse) = H4 at s4 h4 ⊢
    have s24 := s3.trans s4
    refine ⟨.ref c2, rfl, c2, ns, rfl, SqL.of (s24 _ _ h2), _, _, rfl, rfl, (show (0 : Int) < 2147483647 by decide), _, _, rfl, rfl, ?_⟩
    refine ⟨s4 _ _ h3, [(kC, .ref l), (kS, _), (kA, .int 0)], rfl, (show 3 ≤ 15 by decide), ?_⟩
    have nH : H d = none := by
      cases e : H d with
      | none => rfl
      | some o =>
        have := (s1.trans s2) _ _ e
        rw [nd] at this
        cases this
    have em : ∀ v1 v2 v3 : V, mergeK [] [(kC, v1), (kS, v2), (kA, v3)] = [(kC, v1), (kS, v2), (kA, v3)] := fun v1 v2 v3 => rfl
    rw [em]
    have ndl : l ≠ d := (ne_of_none h3 nl).symm
    have hl' : upd H4 d (.dK [(kC, .ref l), (kS, V.int (48271 + ns.sum % 2147483647)), (kA, .int 0)]) l = some (.lst ((ns.reverse).map V.int)) := by
      rw [upd_ne ndl, h4, List.map_reverse]
    refine q _ d l (fun b o e => ?_) ⟨ndl.symm, ns.reverse, _, 0, upd_same, hl', by rw [List.length_reverse]; exact hlen, Int.le_refl _, Int.le_refl _⟩
    rw [upd_ne (ne_of_none e nH)]
    exact (((s1.trans s2).trans s3).trans s4) _ _ e
/-! ### a draw -/
theorem DeckF.mono {H : Hp} {d l : Addr} {n m : Int} (D : DeckF H d l n) (h : n ≤ m) : DeckF H d l m := by
  obtain ⟨ne, cs, y, z, h1, h2, h3, h4, h5⟩ := D
  exact ⟨ne, cs, y, z, h1, h2, h3, h4, Int.le_trans h5 h⟩
theorem DeckF.same {H H' : Hp} {d l : Addr} {n : Int} (D : DeckF H d l n) (s : Same H H') : DeckF H' d l n := by
  obtain ⟨ne, cs, y, z, hd, hl, r⟩ := D
  exact ⟨ne, cs, y, z, s _ _ hd, s _ _ hl, r⟩
theorem DeckF.gr {H H' : Hp} {d l : Addr} {n : Int} (D : DeckF H d l n) (s : Gr H H') : DeckF H' d l n := by
  obtain ⟨ne, cs, y, z, hd, hl, r⟩ := D
  exact ⟨ne, cs, y, z, s.1 d _ (fun _ z => by cases z) hd, s.lst hl, r⟩
theorem DeckF.upd {H : Hp} {d l p : Addr} {n : Int} {o : HO} (D : DeckF H d l n) (h1 : p ≠ d) (h2 : p ≠ l) : DeckF (upd H p o) d l n := by
  obtain ⟨ne, cs, y, z, hd, hl, r⟩ := D
  exact ⟨ne, cs, y, z, by rw [upd_ne h1.symm]; exact hd, by rw [upd_ne h2.symm]; exact hl, r⟩
theorem DeckF.off {H : Hp} {d l p : Addr} {n : Int} (D : DeckF H d l n) (h : H p = none) : p ≠ d ∧ p ≠ l := by
  obtain ⟨ne, cs, y, z, hd, hl, r⟩ := D
  exact ⟨(ne_of_none hd h).symm, (ne_of_none hl h).symm⟩
theorem dgC {H : Hp} {d l : Addr} {y z : Int} (h : H d = some (.dK [(kC, .ref l), (kS, .int y), (kA, .int z)])) : DGet H d (.str (Str.ofString "cells")) (some (.ref l)) := DGet.k (k := kC) h
theorem dgS {H : Hp} {d l : Addr} {y z : Int} (h : H d = some (.dK [(kC, .ref l), (kS, .int y), (kA, .int z)])) : DGet H d (.str (Str.ofString "seed")) (some (.int y)) := DGet.k (k := kS) h
theorem dgA {H : Hp} {d l : Addr} {y z : Int} (h : H d = some (.dK [(kC, .ref l), (kS, .int y), (kA, .int z)])) : DGet H d (.str (Str.ofString "at")) (some (.int z)) := DGet.k (k := kA) h
theorem dpS {H : Hp} {d l : Addr} {y z : Int} (v : Int) (h : H d = some (.dK [(kC, .ref l), (kS, .int y), (kA, .int z)])) : DPut H d (.str (Str.ofString "seed")) (.int v) (upd H d (.dK [(kC, .ref l), (kS, .int v), (kA, .int z)])) := DPut.k (k := kS) h (by show 3 < sizeLine; decide)
theorem dpA {H : Hp} {d l : Addr} {y z : Int} (v : Int) (h : H d = some (.dK [(kC, .ref l), (kS, .int y), (kA, .int z)])) : DPut H d (.str (Str.ofString "at")) (.int v) (upd H d (.dK [(kC, .ref l), (kS, .int y), (kA, .int v)])) := DPut.k (k := kA) h (by show 3 < sizeLine; decide)
theorem never_ok {f : Addr} {fd : FuncData} {ps : List Str} : FnOk P w K mg base CX0 0 f fd ps (fun _ _ _ _ => False) := ⟨fun _ _ _ _ h => h.elim, fun _ _ _ _ _ _ _ _ _ _ _ _ _ h => h.elim⟩
def sp_drawN (K : PySem.W.Frag) (B c : Int) : Sp := fun vs H Q _ => ∃ (d l : Addr) (m n : Int), vs = [.ref d, .int m] ∧ DeckF H d l n ∧ n + c < 1000000000 ∧ 0 < m ∧ m ≤ B ∧ ∀ H' v, DeckF H' d l (n + c) → Fr d l H H' → 0 ≤ v → v < m → Q (.int v) H'
theorem ok_draw0 (T : Tx K mg) : FnOk P w K mg base CX0 2 T.f_draw T.fd_draw ["_law_deck_here", "_law_most"] (sp_drawN K 1000000 1) := by
  refine T.F_draw.ok sc_draw (fun vs H Q E h => ?_) (fun cdv A outer s H vs Q E hr h => ?_)
  · obtain ⟨d, l, m, n, rfl, _⟩ := h
    rfl
  · obtain ⟨d, l, m, n, rfl, D, hn, hm0, hm1, q⟩ := h
    refine ⟨_, (pss_cons (ps_if (pt_cmpR op_gt (pv 1) (pe_op op_pow pe_int pe_int) (nomark _)) (pss_cons (ps_set (i := 2) sc_draw.nd rfl (by first | exact .inl rfl | exact .inr rfl) (pe_call (never_ok) (hr.mono (by decide)) (by rfl) T.g_draw T.F_draw.kp T.b_draw .nil pass0 (pa_cons (pv 0) (pa_cons (pe_op op_pow pe_int pe_int) pa_nil)))) (pss_one (ps_ret (pe_op op_mod (pe_op op_add (pv 2) (pe_op op_mul (pe_op op_pow pe_int pe_int) (pe_call (never_ok) (hr.mono (by decide)) (by rfl) T.g_draw T.F_draw.kp T.b_draw .nil pass0 (pa_cons (pv 0) (pa_cons (pe_op op_add (pe_op op_fdiv (pe_op op_sub (pv 1) pe_int) (pe_op op_pow pe_int pe_int)) pe_int) pa_nil))))) (pv 1))))) pss_nil) (pss_cons (ps_dput (hu_of hr) (pv 0) pe_str (pe_op op_add (pe_dget (hu_of hr) (pv 0) pe_str (fun _ _ => rfl)) pe_int) rfl) (pss_cons (ps_if (pt_cmpR (op_eqD hr.units) (pe_dget (hu_of hr) (pv 0) pe_str (fun _ _ => rfl)) (pe_lst pa_nil) (nomark _)) (pss_cons (ps_dput (hu_of hr) (pv 0) pe_str (pe_call (ok_mixed T) (hr.mono (by decide)) (by rfl) T.g_mixed T.F_mixed.kp T.b_mixed .nil pass0 (pa_cons (pe_op op_add (pe_dget (hu_of hr) (pv 0) pe_str (fun _ _ => rfl)) (pe_dget (hu_of hr) (pv 0) pe_str (fun _ _ => rfl))) pa_nil)) rfl) (pss_one (ps_ret (pe_op op_mod (pe_op op_fdiv (pe_dget (hu_of hr) (pv 0) pe_str (fun _ _ => rfl)) pe_int) (pv 1))))) pss_nil) (pss_cons (ps_set (i := 3) sc_draw.nd rfl (by first | exact .inl rfl | exact .inr rfl) (pe_bm0 PySem.F.plainAttrs_list PySem.F.slot_list_pop PySem.F.type_list_pop mt_pop (pe_dget (hu_of hr) (pv 0) pe_str (fun _ _ => rfl)))) (pss_cons (ps_if (pt_cmpR op_ge (pv 3) (pe_op op_pow pe_int pe_int) (nomark _)) (pss_cons (ps_expr (pe_bm PySem.F.plainAttrs_list PySem.F.slot_list_append PySem.F.type_list_append mt_append (pe_dget (hu_of hr) (pv 0) pe_str (fun _ _ => rfl)) (pa_cons (pe_op op_fdiv (pv 3) (pv 1)) pa_nil))) (pss_one (ps_ret (pe_op op_mod (pv 3) (pv 1))))) pss_nil) (pss_one (ps_ret (pe_op op_mod (pe_op op_fdiv (pe_call (ok_mixed T) (hr.mono (by decide)) (by rfl) T.g_mixed T.F_mixed.kp T.b_mixed .nil pass0 (pa_cons (pe_op op_add (pv 3) (pe_dget (hu_of hr) (pv 0) pe_str (fun _ _ => rfl))) pa_nil)) pe_int) (pv 1))))))))), ?_⟩
    refine ⟨.int m, rfl, _, _, rfl, rfl, ⟨by decide, by decide, by decide⟩, _, _, rfl, rfl, _, rfl, ite2 (fun z => ?_) (fun small => ?_)⟩
    · have z' : (10 : Int) ^ (6 : Int).toNat < m := of_decide_eq_true z
      have e6 : (10 : Int) ^ (6 : Int).toNat = 1000000 := by decide
      omega
    obtain ⟨ne, cs, y, z, hd, hl, hcs, hz0, hz1⟩ := D
    refine ⟨.ref d, rfl, d, .int z, rfl, dgA hd, _, _, rfl, rfl, .ref d, rfl, d, _, rfl, dpA (z + 1) hd, ?_⟩
    have hd1 : upd H d (.dK [(kC, .ref l), (kS, .int y), (kA, .int (z + 1))]) d = some (.dK [(kC, .ref l), (kS, .int y), (kA, .int (z + 1))]) := upd_same
    have hl1 : upd H d (.dK [(kC, .ref l), (kS, .int y), (kA, .int (z + 1))]) l = some (.lst (cs.map V.int)) := by rw [upd_ne ne.symm]; exact hl
    have fr1 : Fr d l H (upd H d (.dK [(kC, .ref l), (kS, .int y), (kA, .int (z + 1))])) := Fr.d
    generalize upd H d (.dK [(kC, .ref l), (kS, .int y), (kA, .int (z + 1))]) = H1 at hd1 hl1 fr1 ⊢
    refine ⟨.ref d, rfl, d, .ref l, rfl, dgC hd1, Nat.zero_le _, fun p np => ?_⟩
    have s2 := same_upd (o := (HO.lst [])) np
    have h2 : upd H1 p (HO.lst []) p = some (HO.lst []) := upd_same
    generalize upd H1 p (HO.lst []) = H2 at s2 h2 ⊢
    have hd2 := s2 _ _ hd1
    have hl2 := s2 _ _ hl1
    refine ⟨.list (cs.map .int), .list [], .lst (SqL.of hl2) (dpInts cs), .lst (SqL.of h2) .nil, shInts cs, rfl, _, rfl, ?_⟩
    have fr2 : Fr d l H H2 := fr1.trans (Fr.of s2)
    cases cs with
    | nil =>
      refine iteT ?_
      refine ⟨.ref d, rfl, d, .int y, rfl, dgS hd2, .ref d, rfl, d, .int (z + 1), rfl, dgA hd2, _, _, rfl, rfl, _, rfl, fun v v0 v1 => ?_⟩
      refine ⟨.ref d, rfl, d, _, rfl, dpS v hd2, ?_⟩
      refine ⟨.ref d, rfl, d, .int v, rfl, dgS upd_same, _, _, rfl, rfl, (⟨by decide, by decide⟩ : (0 : Int) < 8 ∧ (8 : Int) < 1073741824), .int m, rfl, _, _, rfl, rfl, hm0, ?_⟩
      exact q _ _ ⟨ne, [], v, z + 1, upd_same, by rw [upd_ne ne.symm]; exact hl2, Nat.zero_le _, by omega, by omega⟩ (fr2.trans Fr.d) (Int.emod_nonneg _ (by omega)) (Int.emod_lt_of_pos _ hm0)
    | cons c0 r0 =>
      refine iteF ?_
      obtain ⟨r, c, hrc⟩ : ∃ r c, c0 :: r0 = r ++ [c] := ⟨(c0 :: r0).dropLast, (c0 :: r0).getLast (by simp), (List.dropLast_concat_getLast (by simp)).symm⟩
      rw [hrc] at hl2 hcs
      rw [List.map_append] at hl2
      have lr : r.length ≤ 62 := by rw [List.length_append] at hcs; simp at hcs; omega
      refine ⟨.ref d, rfl, d, .ref l, rfl, dgC hd2, .inl ⟨rfl, _, SqL.of hl2⟩, l, _, .int c, rfl, rfl, hl2, by simp, ?_⟩
      have edl : (r.map V.int ++ [c].map V.int).dropLast = r.map V.int := List.dropLast_concat ..
      rw [edl]
      have hl3 : upd H2 l (.lst (r.map V.int)) l = some (.lst (r.map V.int)) := upd_same
      have hd3 : upd H2 l (.lst (r.map V.int)) d = some (.dK [(kC, .ref l), (kS, .int y), (kA, .int (z + 1))]) := by rw [upd_ne ne]; exact hd2
      have fr3 : Fr d l H (upd H2 l (.lst (r.map V.int))) := fr2.trans Fr.l
      show tSeq _ _ _ _ (upd H2 l (.lst (r.map V.int)))
      generalize upd H2 l (.lst (r.map V.int)) = H3 at hl3 hd3 fr3 ⊢
      have m6 : m ≤ 1000000 := by
        have e6 : (10 : Int) ^ (6 : Int).toNat = 1000000 := by decide
        have h6 : ¬ (10 : Int) ^ (6 : Int).toNat < m := fun k => small (decide_eq_true k)
        rw [e6] at h6
        omega
      refine ⟨.int c, rfl, _, _, rfl, rfl, ⟨by decide, by decide, by decide⟩, _, _, rfl, rfl, _, rfl, ite2 (fun _ => ?_) (fun _ => ?_)⟩
      · refine ⟨.ref d, rfl, d, .ref l, rfl, dgC hd3, .inl ⟨rfl, _, SqL.of hl3⟩, .int c, rfl, .int m, rfl, _, _, rfl, rfl, (⟨hm0, by omega⟩ : 0 < m ∧ m < 1073741824), l, _, _, rfl, rfl, hl3, ?_, ?_⟩
        · rw [List.length_map]
          exact Nat.lt_of_lt_of_le (show r.length < 128 by omega) (by decide)
        refine ⟨.int c, rfl, .int m, rfl, _, _, rfl, rfl, hm0, ?_⟩
        exact q _ _ ⟨ne, r ++ [c / m], y, z + 1, by rw [upd_ne ne]; exact hd3, by rw [upd_same, List.map_append]; rfl, by rw [List.length_append]; show r.length + 1 ≤ 63; omega, by omega, by omega⟩ (fr3.trans Fr.l) (Int.emod_nonneg _ (by omega)) (Int.emod_lt_of_pos _ hm0)
      · refine ⟨.int c, rfl, .ref d, rfl, d, .int (z + 1), rfl, dgA hd3, _, _, rfl, rfl, _, rfl, fun v v0 v1 => ?_⟩
        refine ⟨_, _, rfl, rfl, (⟨by decide, by decide⟩ : (0 : Int) < 8 ∧ (8 : Int) < 1073741824), .int m, rfl, _, _, rfl, rfl, hm0, ?_⟩
        exact q _ _ ⟨ne, r, y, z + 1, hd3, hl3, by omega, by omega, by omega⟩ fr3 (Int.emod_nonneg _ (by omega)) (Int.emod_lt_of_pos _ hm0)
theorem ok_draw1 (T : Tx K mg) : FnOk P w K mg base CX0 3 T.f_draw T.fd_draw ["_law_deck_here", "_law_most"] (sp_drawN K 1000000000000 2) := by
  refine T.F_draw.ok sc_draw (fun vs H Q E h => ?_) (fun cdv A outer s H vs Q E hr h => ?_)
  · obtain ⟨d, l, m, n, rfl, _⟩ := h
    rfl
  · obtain ⟨d, l, m, n, rfl, D, hn, hm0, hm1, q⟩ := h
    refine ⟨_, (pss_cons (ps_if (pt_cmpR op_gt (pv 1) (pe_op op_pow pe_int pe_int) (nomark _)) (pss_cons (ps_set (i := 2) sc_draw.nd rfl (by first | exact .inl rfl | exact .inr rfl) (pe_call (ok_draw0 T) (hr.mono (by decide)) (by rfl) T.g_draw T.F_draw.kp T.b_draw .nil pass0 (pa_cons (pv 0) (pa_cons (pe_op op_pow pe_int pe_int) pa_nil)))) (pss_one (ps_ret (pe_op op_mod (pe_op op_add (pv 2) (pe_op op_mul (pe_op op_pow pe_int pe_int) (pe_call (ok_draw0 T) (hr.mono (by decide)) (by rfl) T.g_draw T.F_draw.kp T.b_draw .nil pass0 (pa_cons (pv 0) (pa_cons (pe_op op_add (pe_op op_fdiv (pe_op op_sub (pv 1) pe_int) (pe_op op_pow pe_int pe_int)) pe_int) pa_nil))))) (pv 1))))) pss_nil) (pss_cons (ps_dput (hu_of hr) (pv 0) pe_str (pe_op op_add (pe_dget (hu_of hr) (pv 0) pe_str (fun _ _ => rfl)) pe_int) rfl) (pss_cons (ps_if (pt_cmpR (op_eqD hr.units) (pe_dget (hu_of hr) (pv 0) pe_str (fun _ _ => rfl)) (pe_lst pa_nil) (nomark _)) (pss_cons (ps_dput (hu_of hr) (pv 0) pe_str (pe_call (ok_mixed T) (hr.mono (by decide)) (by rfl) T.g_mixed T.F_mixed.kp T.b_mixed .nil pass0 (pa_cons (pe_op op_add (pe_dget (hu_of hr) (pv 0) pe_str (fun _ _ => rfl)) (pe_dget (hu_of hr) (pv 0) pe_str (fun _ _ => rfl))) pa_nil)) rfl) (pss_one (ps_ret (pe_op op_mod (pe_op op_fdiv (pe_dget (hu_of hr) (pv 0) pe_str (fun _ _ => rfl)) pe_int) (pv 1))))) pss_nil) (pss_cons (ps_set (i := 3) sc_draw.nd rfl (by first | exact .inl rfl | exact .inr rfl) (pe_bm0 PySem.F.plainAttrs_list PySem.F.slot_list_pop PySem.F.type_list_pop mt_pop (pe_dget (hu_of hr) (pv 0) pe_str (fun _ _ => rfl)))) (pss_cons (ps_if (pt_cmpR op_ge (pv 3) (pe_op op_pow pe_int pe_int) (nomark _)) (pss_cons (ps_expr (pe_bm PySem.F.plainAttrs_list PySem.F.slot_list_append PySem.F.type_list_append mt_append (pe_dget (hu_of hr) (pv 0) pe_str (fun _ _ => rfl)) (pa_cons (pe_op op_fdiv (pv 3) (pv 1)) pa_nil))) (pss_one (ps_ret (pe_op op_mod (pv 3) (pv 1))))) pss_nil) (pss_one (ps_ret (pe_op op_mod (pe_op op_fdiv (pe_call (ok_mixed T) (hr.mono (by decide)) (by rfl) T.g_mixed T.F_mixed.kp T.b_mixed .nil pass0 (pa_cons (pe_op op_add (pv 3) (pe_dget (hu_of hr) (pv 0) pe_str (fun _ _ => rfl))) pa_nil)) pe_int) (pv 1))))))))), ?_⟩
    refine ⟨.int m, rfl, _, _, rfl, rfl, ⟨by decide, by decide, by decide⟩, _, _, rfl, rfl, _, rfl, ite2 (fun z => ?_) (fun small => ?_)⟩
    · have z' : (10 : Int) ^ (6 : Int).toNat < m := of_decide_eq_true z
      have e6 : (10 : Int) ^ (6 : Int).toNat = 1000000 := by decide
      rw [e6] at z'
      have hq : (m - 1) / (10 : Int) ^ (6 : Int).toNat + 1 ≤ 1000000 ∧ 0 < (m - 1) / (10 : Int) ^ (6 : Int).toNat + 1 := by rw [e6]; omega
      refine ⟨.ref d, rfl, _, _, rfl, rfl, ⟨by decide, by decide, by decide⟩, d, l, _, n, rfl, D, by omega, by decide, by decide, fun H1 low D1 fr1 l0 l1 => ?_⟩
      refine ⟨.int low, rfl, _, _, rfl, rfl, ⟨by decide, by decide, by decide⟩, .ref d, rfl, .int m, rfl, _, _, rfl, rfl, _, _, rfl, rfl, ⟨by decide, by decide, by decide⟩, _, _, rfl, rfl, (⟨by decide, by decide⟩ : (0 : Int) < 10 ^ (6 : Int).toNat ∧ (10 : Int) ^ (6 : Int).toNat < 1073741824), _, _, rfl, rfl, d, l, _, _, rfl, D1, ?_, hq.2, hq.1, fun H2 v D2 fr2 v0 v1 => ⟨_, _, rfl, rfl, .inl ⟨by decide, by decide⟩, _, _, rfl, rfl, .int m, rfl, _, _, rfl, rfl, hm0, ?_⟩⟩
      · omega
      exact q _ _ (D2.mono (by omega)) (fr1.trans fr2) (Int.emod_nonneg _ (by omega)) (Int.emod_lt_of_pos _ hm0)
    obtain ⟨ne, cs, y, z, hd, hl, hcs, hz0, hz1⟩ := D
    refine ⟨.ref d, rfl, d, .int z, rfl, dgA hd, _, _, rfl, rfl, .ref d, rfl, d, _, rfl, dpA (z + 1) hd, ?_⟩
    have hd1 : upd H d (.dK [(kC, .ref l), (kS, .int y), (kA, .int (z + 1))]) d = some (.dK [(kC, .ref l), (kS, .int y), (kA, .int (z + 1))]) := upd_same
    have hl1 : upd H d (.dK [(kC, .ref l), (kS, .int y), (kA, .int (z + 1))]) l = some (.lst (cs.map V.int)) := by rw [upd_ne ne.symm]; exact hl
    have fr1 : Fr d l H (upd H d (.dK [(kC, .ref l), (kS, .int y), (kA, .int (z + 1))])) := Fr.d
    generalize upd H d (.dK [(kC, .ref l), (kS, .int y), (kA, .int (z + 1))]) = H1 at hd1 hl1 fr1 ⊢
    refine ⟨.ref d, rfl, d, .ref l, rfl, dgC hd1, Nat.zero_le _, fun p np => ?_⟩
    have s2 := same_upd (o := (HO.lst [])) np
    have h2 : upd H1 p (HO.lst []) p = some (HO.lst []) := upd_same
    generalize upd H1 p (HO.lst []) = H2 at s2 h2 ⊢
    have hd2 := s2 _ _ hd1
    have hl2 := s2 _ _ hl1
    refine ⟨.list (cs.map .int), .list [], .lst (SqL.of hl2) (dpInts cs), .lst (SqL.of h2) .nil, shInts cs, rfl, _, rfl, ?_⟩
    have fr2 : Fr d l H H2 := fr1.trans (Fr.of s2)
    cases cs with
    | nil =>
      refine iteT ?_
      refine ⟨.ref d, rfl, d, .int y, rfl, dgS hd2, .ref d, rfl, d, .int (z + 1), rfl, dgA hd2, _, _, rfl, rfl, _, rfl, fun v v0 v1 => ?_⟩
      refine ⟨.ref d, rfl, d, _, rfl, dpS v hd2, ?_⟩
      refine ⟨.ref d, rfl, d, .int v, rfl, dgS upd_same, _, _, rfl, rfl, (⟨by decide, by decide⟩ : (0 : Int) < 8 ∧ (8 : Int) < 1073741824), .int m, rfl, _, _, rfl, rfl, hm0, ?_⟩
      exact q _ _ ⟨ne, [], v, z + 1, upd_same, by rw [upd_ne ne.symm]; exact hl2, Nat.zero_le _, by omega, by omega⟩ (fr2.trans Fr.d) (Int.emod_nonneg _ (by omega)) (Int.emod_lt_of_pos _ hm0)
    | cons c0 r0 =>
      refine iteF ?_
      obtain ⟨r, c, hrc⟩ : ∃ r c, c0 :: r0 = r ++ [c] := ⟨(c0 :: r0).dropLast, (c0 :: r0).getLast (by simp), (List.dropLast_concat_getLast (by simp)).symm⟩
      rw [hrc] at hl2 hcs
      rw [List.map_append] at hl2
      have lr : r.length ≤ 62 := by rw [List.length_append] at hcs; simp at hcs; omega
      refine ⟨.ref d, rfl, d, .ref l, rfl, dgC hd2, .inl ⟨rfl, _, SqL.of hl2⟩, l, _, .int c, rfl, rfl, hl2, by simp, ?_⟩
      have edl : (r.map V.int ++ [c].map V.int).dropLast = r.map V.int := List.dropLast_concat ..
      rw [edl]
      have hl3 : upd H2 l (.lst (r.map V.int)) l = some (.lst (r.map V.int)) := upd_same
      have hd3 : upd H2 l (.lst (r.map V.int)) d = some (.dK [(kC, .ref l), (kS, .int y), (kA, .int (z + 1))]) := by rw [upd_ne ne]; exact hd2
      have fr3 : Fr d l H (upd H2 l (.lst (r.map V.int))) := fr2.trans Fr.l
      show tSeq _ _ _ _ (upd H2 l (.lst (r.map V.int)))
      generalize upd H2 l (.lst (r.map V.int)) = H3 at hl3 hd3 fr3 ⊢
      have m6 : m ≤ 1000000 := by
        have e6 : (10 : Int) ^ (6 : Int).toNat = 1000000 := by decide
        have h6 : ¬ (10 : Int) ^ (6 : Int).toNat < m := fun k => small (decide_eq_true k)
        rw [e6] at h6
        omega
      refine ⟨.int c, rfl, _, _, rfl, rfl, ⟨by decide, by decide, by decide⟩, _, _, rfl, rfl, _, rfl, ite2 (fun _ => ?_) (fun _ => ?_)⟩
      · refine ⟨.ref d, rfl, d, .ref l, rfl, dgC hd3, .inl ⟨rfl, _, SqL.of hl3⟩, .int c, rfl, .int m, rfl, _, _, rfl, rfl, (⟨hm0, by omega⟩ : 0 < m ∧ m < 1073741824), l, _, _, rfl, rfl, hl3, ?_, ?_⟩
        · rw [List.length_map]
          exact Nat.lt_of_lt_of_le (show r.length < 128 by omega) (by decide)
        refine ⟨.int c, rfl, .int m, rfl, _, _, rfl, rfl, hm0, ?_⟩
        exact q _ _ ⟨ne, r ++ [c / m], y, z + 1, by rw [upd_ne ne]; exact hd3, by rw [upd_same, List.map_append]; rfl, by rw [List.length_append]; show r.length + 1 ≤ 63; omega, by omega, by omega⟩ (fr3.trans Fr.l) (Int.emod_nonneg _ (by omega)) (Int.emod_lt_of_pos _ hm0)
      · refine ⟨.int c, rfl, .ref d, rfl, d, .int (z + 1), rfl, dgA hd3, _, _, rfl, rfl, _, rfl, fun v v0 v1 => ?_⟩
        refine ⟨_, _, rfl, rfl, (⟨by decide, by decide⟩ : (0 : Int) < 8 ∧ (8 : Int) < 1073741824), .int m, rfl, _, _, rfl, rfl, hm0, ?_⟩
        exact q _ _ ⟨ne, r, y, z + 1, hd3, hl3, by omega, by omega, by omega⟩ fr3 (Int.emod_nonneg _ (by omega)) (Int.emod_lt_of_pos _ hm0)
theorem ok_draw2 (T : Tx K mg) : FnOk P w K mg base CX0 4 T.f_draw T.fd_draw ["_law_deck_here", "_law_most"] (sp_drawN K 1000000000000000000 4) := by
  refine T.F_draw.ok sc_draw (fun vs H Q E h => ?_) (fun cdv A outer s H vs Q E hr h => ?_)
  · obtain ⟨d, l, m, n, rfl, _⟩ := h
    rfl
  · obtain ⟨d, l, m, n, rfl, D, hn, hm0, hm1, q⟩ := h
    refine ⟨_, (pss_cons (ps_if (pt_cmpR op_gt (pv 1) (pe_op op_pow pe_int pe_int) (nomark _)) (pss_cons (ps_set (i := 2) sc_draw.nd rfl (by first | exact .inl rfl | exact .inr rfl) (pe_call (ok_draw1 T) (hr.mono (by decide)) (by rfl) T.g_draw T.F_draw.kp T.b_draw .nil pass0 (pa_cons (pv 0) (pa_cons (pe_op op_pow pe_int pe_int) pa_nil)))) (pss_one (ps_ret (pe_op op_mod (pe_op op_add (pv 2) (pe_op op_mul (pe_op op_pow pe_int pe_int) (pe_call (ok_draw1 T) (hr.mono (by decide)) (by rfl) T.g_draw T.F_draw.kp T.b_draw .nil pass0 (pa_cons (pv 0) (pa_cons (pe_op op_add (pe_op op_fdiv (pe_op op_sub (pv 1) pe_int) (pe_op op_pow pe_int pe_int)) pe_int) pa_nil))))) (pv 1))))) pss_nil) (pss_cons (ps_dput (hu_of hr) (pv 0) pe_str (pe_op op_add (pe_dget (hu_of hr) (pv 0) pe_str (fun _ _ => rfl)) pe_int) rfl) (pss_cons (ps_if (pt_cmpR (op_eqD hr.units) (pe_dget (hu_of hr) (pv 0) pe_str (fun _ _ => rfl)) (pe_lst pa_nil) (nomark _)) (pss_cons (ps_dput (hu_of hr) (pv 0) pe_str (pe_call (ok_mixed T) (hr.mono (by decide)) (by rfl) T.g_mixed T.F_mixed.kp T.b_mixed .nil pass0 (pa_cons (pe_op op_add (pe_dget (hu_of hr) (pv 0) pe_str (fun _ _ => rfl)) (pe_dget (hu_of hr) (pv 0) pe_str (fun _ _ => rfl))) pa_nil)) rfl) (pss_one (ps_ret (pe_op op_mod (pe_op op_fdiv (pe_dget (hu_of hr) (pv 0) pe_str (fun _ _ => rfl)) pe_int) (pv 1))))) pss_nil) (pss_cons (ps_set (i := 3) sc_draw.nd rfl (by first | exact .inl rfl | exact .inr rfl) (pe_bm0 PySem.F.plainAttrs_list PySem.F.slot_list_pop PySem.F.type_list_pop mt_pop (pe_dget (hu_of hr) (pv 0) pe_str (fun _ _ => rfl)))) (pss_cons (ps_if (pt_cmpR op_ge (pv 3) (pe_op op_pow pe_int pe_int) (nomark _)) (pss_cons (ps_expr (pe_bm PySem.F.plainAttrs_list PySem.F.slot_list_append PySem.F.type_list_append mt_append (pe_dget (hu_of hr) (pv 0) pe_str (fun _ _ => rfl)) (pa_cons (pe_op op_fdiv (pv 3) (pv 1)) pa_nil))) (pss_one (ps_ret (pe_op op_mod (pv 3) (pv 1))))) pss_nil) (pss_one (ps_ret (pe_op op_mod (pe_op op_fdiv (pe_call (ok_mixed T) (hr.mono (by decide)) (by rfl) T.g_mixed T.F_mixed.kp T.b_mixed .nil pass0 (pa_cons (pe_op op_add (pv 3) (pe_dget (hu_of hr) (pv 0) pe_str (fun _ _ => rfl))) pa_nil)) pe_int) (pv 1))))))))), ?_⟩
    refine ⟨.int m, rfl, _, _, rfl, rfl, ⟨by decide, by decide, by decide⟩, _, _, rfl, rfl, _, rfl, ite2 (fun z => ?_) (fun small => ?_)⟩
    · have z' : (10 : Int) ^ (6 : Int).toNat < m := of_decide_eq_true z
      have e6 : (10 : Int) ^ (6 : Int).toNat = 1000000 := by decide
      rw [e6] at z'
      have hq : (m - 1) / (10 : Int) ^ (6 : Int).toNat + 1 ≤ 1000000000000 ∧ 0 < (m - 1) / (10 : Int) ^ (6 : Int).toNat + 1 := by rw [e6]; omega
      refine ⟨.ref d, rfl, _, _, rfl, rfl, ⟨by decide, by decide, by decide⟩, d, l, _, n, rfl, D, by omega, by decide, by decide, fun H1 low D1 fr1 l0 l1 => ?_⟩
      refine ⟨.int low, rfl, _, _, rfl, rfl, ⟨by decide, by decide, by decide⟩, .ref d, rfl, .int m, rfl, _, _, rfl, rfl, _, _, rfl, rfl, ⟨by decide, by decide, by decide⟩, _, _, rfl, rfl, (⟨by decide, by decide⟩ : (0 : Int) < 10 ^ (6 : Int).toNat ∧ (10 : Int) ^ (6 : Int).toNat < 1073741824), _, _, rfl, rfl, d, l, _, _, rfl, D1, ?_, hq.2, hq.1, fun H2 v D2 fr2 v0 v1 => ⟨_, _, rfl, rfl, .inl ⟨by decide, by decide⟩, _, _, rfl, rfl, .int m, rfl, _, _, rfl, rfl, hm0, ?_⟩⟩
      · omega
      exact q _ _ (D2.mono (by omega)) (fr1.trans fr2) (Int.emod_nonneg _ (by omega)) (Int.emod_lt_of_pos _ hm0)
    obtain ⟨ne, cs, y, z, hd, hl, hcs, hz0, hz1⟩ := D
    refine ⟨.ref d, rfl, d, .int z, rfl, dgA hd, _, _, rfl, rfl, .ref d, rfl, d, _, rfl, dpA (z + 1) hd, ?_⟩
    have hd1 : upd H d (.dK [(kC, .ref l), (kS, .int y), (kA, .int (z + 1))]) d = some (.dK [(kC, .ref l), (kS, .int y), (kA, .int (z + 1))]) := upd_same
    have hl1 : upd H d (.dK [(kC, .ref l), (kS, .int y), (kA, .int (z + 1))]) l = some (.lst (cs.map V.int)) := by rw [upd_ne ne.symm]; exact hl
    have fr1 : Fr d l H (upd H d (.dK [(kC, .ref l), (kS, .int y), (kA, .int (z + 1))])) := Fr.d
    generalize upd H d (.dK [(kC, .ref l), (kS, .int y), (kA, .int (z + 1))]) = H1 at hd1 hl1 fr1 ⊢
    refine ⟨.ref d, rfl, d, .ref l, rfl, dgC hd1, Nat.zero_le _, fun p np => ?_⟩
    have s2 := same_upd (o := (HO.lst [])) np
    have h2 : upd H1 p (HO.lst []) p = some (HO.lst []) := upd_same
    generalize upd H1 p (HO.lst []) = H2 at s2 h2 ⊢
    have hd2 := s2 _ _ hd1
    have hl2 := s2 _ _ hl1
    refine ⟨.list (cs.map .int), .list [], .lst (SqL.of hl2) (dpInts cs), .lst (SqL.of h2) .nil, shInts cs, rfl, _, rfl, ?_⟩
    have fr2 : Fr d l H H2 := fr1.trans (Fr.of s2)
    cases cs with
    | nil =>
      refine iteT ?_
      refine ⟨.ref d, rfl, d, .int y, rfl, dgS hd2, .ref d, rfl, d, .int (z + 1), rfl, dgA hd2, _, _, rfl, rfl, _, rfl, fun v v0 v1 => ?_⟩
      refine ⟨.ref d, rfl, d, _, rfl, dpS v hd2, ?_⟩
      refine ⟨.ref d, rfl, d, .int v, rfl, dgS upd_same, _, _, rfl, rfl, (⟨by decide, by decide⟩ : (0 : Int) < 8 ∧ (8 : Int) < 1073741824), .int m, rfl, _, _, rfl, rfl, hm0, ?_⟩
      exact q _ _ ⟨ne, [], v, z + 1, upd_same, by rw [upd_ne ne.symm]; exact hl2, Nat.zero_le _, by omega, by omega⟩ (fr2.trans Fr.d) (Int.emod_nonneg _ (by omega)) (Int.emod_lt_of_pos _ hm0)
    | cons c0 r0 =>
      refine iteF ?_
      obtain ⟨r, c, hrc⟩ : ∃ r c, c0 :: r0 = r ++ [c] := ⟨(c0 :: r0).dropLast, (c0 :: r0).getLast (by simp), (List.dropLast_concat_getLast (by simp)).symm⟩
      rw [hrc] at hl2 hcs
      rw [List.map_append] at hl2
      have lr : r.length ≤ 62 := by rw [List.length_append] at hcs; simp at hcs; omega
      refine ⟨.ref d, rfl, d, .ref l, rfl, dgC hd2, .inl ⟨rfl, _, SqL.of hl2⟩, l, _, .int c, rfl, rfl, hl2, by simp, ?_⟩
      have edl : (r.map V.int ++ [c].map V.int).dropLast = r.map V.int := List.dropLast_concat ..
      rw [edl]
      have hl3 : upd H2 l (.lst (r.map V.int)) l = some (.lst (r.map V.int)) := upd_same
      have hd3 : upd H2 l (.lst (r.map V.int)) d = some (.dK [(kC, .ref l), (kS, .int y), (kA, .int (z + 1))]) := by rw [upd_ne ne]; exact hd2
      have fr3 : Fr d l H (upd H2 l (.lst (r.map V.int))) := fr2.trans Fr.l
      show tSeq _ _ _ _ (upd H2 l (.lst (r.map V.int)))
      generalize upd H2 l (.lst (r.map V.int)) = H3 at hl3 hd3 fr3 ⊢
      have m6 : m ≤ 1000000 := by
        have e6 : (10 : Int) ^ (6 : Int).toNat = 1000000 := by decide
        have h6 : ¬ (10 : Int) ^ (6 : Int).toNat < m := fun k => small (decide_eq_true k)
        rw [e6] at h6
        omega
      refine ⟨.int c, rfl, _, _, rfl, rfl, ⟨by decide, by decide, by decide⟩, _, _, rfl, rfl, _, rfl, ite2 (fun _ => ?_) (fun _ => ?_)⟩
      · refine ⟨.ref d, rfl, d, .ref l, rfl, dgC hd3, .inl ⟨rfl, _, SqL.of hl3⟩, .int c, rfl, .int m, rfl, _, _, rfl, rfl, (⟨hm0, by omega⟩ : 0 < m ∧ m < 1073741824), l, _, _, rfl, rfl, hl3, ?_, ?_⟩
        · rw [List.length_map]
          exact Nat.lt_of_lt_of_le (show r.length < 128 by omega) (by decide)
        refine ⟨.int c, rfl, .int m, rfl, _, _, rfl, rfl, hm0, ?_⟩
        exact q _ _ ⟨ne, r ++ [c / m], y, z + 1, by rw [upd_ne ne]; exact hd3, by rw [upd_same, List.map_append]; rfl, by rw [List.length_append]; show r.length + 1 ≤ 63; omega, by omega, by omega⟩ (fr3.trans Fr.l) (Int.emod_nonneg _ (by omega)) (Int.emod_lt_of_pos _ hm0)
      · refine ⟨.int c, rfl, .ref d, rfl, d, .int (z + 1), rfl, dgA hd3, _, _, rfl, rfl, _, rfl, fun v v0 v1 => ?_⟩
        refine ⟨_, _, rfl, rfl, (⟨by decide, by decide⟩ : (0 : Int) < 8 ∧ (8 : Int) < 1073741824), .int m, rfl, _, _, rfl, rfl, hm0, ?_⟩
        exact q _ _ ⟨ne, r, y, z + 1, hd3, hl3, by omega, by omega, by omega⟩ fr3 (Int.emod_nonneg _ (by omega)) (Int.emod_lt_of_pos _ hm0)
theorem ok_draw3 (T : Tx K mg) : FnOk P w K mg base CX0 5 T.f_draw T.fd_draw ["_law_deck_here", "_law_most"] (sp_drawN K 1000000000000000000000000 8) := by
  refine T.F_draw.ok sc_draw (fun vs H Q E h => ?_) (fun cdv A outer s H vs Q E hr h => ?_)
  · obtain ⟨d, l, m, n, rfl, _⟩ := h
    rfl
  · obtain ⟨d, l, m, n, rfl, D, hn, hm0, hm1, q⟩ := h
    refine ⟨_, (pss_cons (ps_if (pt_cmpR op_gt (pv 1) (pe_op op_pow pe_int pe_int) (nomark _)) (pss_cons (ps_set (i := 2) sc_draw.nd rfl (by first | exact .inl rfl | exact .inr rfl) (pe_call (ok_draw2 T) (hr.mono (by decide)) (by rfl) T.g_draw T.F_draw.kp T.b_draw .nil pass0 (pa_cons (pv 0) (pa_cons (pe_op op_pow pe_int pe_int) pa_nil)))) (pss_one (ps_ret (pe_op op_mod (pe_op op_add (pv 2) (pe_op op_mul (pe_op op_pow pe_int pe_int) (pe_call (ok_draw2 T) (hr.mono (by decide)) (by rfl) T.g_draw T.F_draw.kp T.b_draw .nil pass0 (pa_cons (pv 0) (pa_cons (pe_op op_add (pe_op op_fdiv (pe_op op_sub (pv 1) pe_int) (pe_op op_pow pe_int pe_int)) pe_int) pa_nil))))) (pv 1))))) pss_nil) (pss_cons (ps_dput (hu_of hr) (pv 0) pe_str (pe_op op_add (pe_dget (hu_of hr) (pv 0) pe_str (fun _ _ => rfl)) pe_int) rfl) (pss_cons (ps_if (pt_cmpR (op_eqD hr.units) (pe_dget (hu_of hr) (pv 0) pe_str (fun _ _ => rfl)) (pe_lst pa_nil) (nomark _)) (pss_cons (ps_dput (hu_of hr) (pv 0) pe_str (pe_call (ok_mixed T) (hr.mono (by decide)) (by rfl) T.g_mixed T.F_mixed.kp T.b_mixed .nil pass0 (pa_cons (pe_op op_add (pe_dget (hu_of hr) (pv 0) pe_str (fun _ _ => rfl)) (pe_dget (hu_of hr) (pv 0) pe_str (fun _ _ => rfl))) pa_nil)) rfl) (pss_one (ps_ret (pe_op op_mod (pe_op op_fdiv (pe_dget (hu_of hr) (pv 0) pe_str (fun _ _ => rfl)) pe_int) (pv 1))))) pss_nil) (pss_cons (ps_set (i := 3) sc_draw.nd rfl (by first | exact .inl rfl | exact .inr rfl) (pe_bm0 PySem.F.plainAttrs_list PySem.F.slot_list_pop PySem.F.type_list_pop mt_pop (pe_dget (hu_of hr) (pv 0) pe_str (fun _ _ => rfl)))) (pss_cons (ps_if (pt_cmpR op_ge (pv 3) (pe_op op_pow pe_int pe_int) (nomark _)) (pss_cons (ps_expr (pe_bm PySem.F.plainAttrs_list PySem.F.slot_list_append PySem.F.type_list_append mt_append (pe_dget (hu_of hr) (pv 0) pe_str (fun _ _ => rfl)) (pa_cons (pe_op op_fdiv (pv 3) (pv 1)) pa_nil))) (pss_one (ps_ret (pe_op op_mod (pv 3) (pv 1))))) pss_nil) (pss_one (ps_ret (pe_op op_mod (pe_op op_fdiv (pe_call (ok_mixed T) (hr.mono (by decide)) (by rfl) T.g_mixed T.F_mixed.kp T.b_mixed .nil pass0 (pa_cons (pe_op op_add (pv 3) (pe_dget (hu_of hr) (pv 0) pe_str (fun _ _ => rfl))) pa_nil)) pe_int) (pv 1))))))))), ?_⟩
    refine ⟨.int m, rfl, _, _, rfl, rfl, ⟨by decide, by decide, by decide⟩, _, _, rfl, rfl, _, rfl, ite2 (fun z => ?_) (fun small => ?_)⟩
    · have z' : (10 : Int) ^ (6 : Int).toNat < m := of_decide_eq_true z
      have e6 : (10 : Int) ^ (6 : Int).toNat = 1000000 := by decide
      rw [e6] at z'
      have hq : (m - 1) / (10 : Int) ^ (6 : Int).toNat + 1 ≤ 1000000000000000000 ∧ 0 < (m - 1) / (10 : Int) ^ (6 : Int).toNat + 1 := by rw [e6]; omega
      refine ⟨.ref d, rfl, _, _, rfl, rfl, ⟨by decide, by decide, by decide⟩, d, l, _, n, rfl, D, by omega, by decide, by decide, fun H1 low D1 fr1 l0 l1 => ?_⟩
      refine ⟨.int low, rfl, _, _, rfl, rfl, ⟨by decide, by decide, by decide⟩, .ref d, rfl, .int m, rfl, _, _, rfl, rfl, _, _, rfl, rfl, ⟨by decide, by decide, by decide⟩, _, _, rfl, rfl, (⟨by decide, by decide⟩ : (0 : Int) < 10 ^ (6 : Int).toNat ∧ (10 : Int) ^ (6 : Int).toNat < 1073741824), _, _, rfl, rfl, d, l, _, _, rfl, D1, ?_, hq.2, hq.1, fun H2 v D2 fr2 v0 v1 => ⟨_, _, rfl, rfl, .inl ⟨by decide, by decide⟩, _, _, rfl, rfl, .int m, rfl, _, _, rfl, rfl, hm0, ?_⟩⟩
      · omega
      exact q _ _ (D2.mono (by omega)) (fr1.trans fr2) (Int.emod_nonneg _ (by omega)) (Int.emod_lt_of_pos _ hm0)
    obtain ⟨ne, cs, y, z, hd, hl, hcs, hz0, hz1⟩ := D
    refine ⟨.ref d, rfl, d, .int z, rfl, dgA hd, _, _, rfl, rfl, .ref d, rfl, d, _, rfl, dpA (z + 1) hd, ?_⟩
    have hd1 : upd H d (.dK [(kC, .ref l), (kS, .int y), (kA, .int (z + 1))]) d = some (.dK [(kC, .ref l), (kS, .int y), (kA, .int (z + 1))]) := upd_same
    have hl1 : upd H d (.dK [(kC, .ref l), (kS, .int y), (kA, .int (z + 1))]) l = some (.lst (cs.map V.int)) := by rw [upd_ne ne.symm]; exact hl
    have fr1 : Fr d l H (upd H d (.dK [(kC, .ref l), (kS, .int y), (kA, .int (z + 1))])) := Fr.d
    generalize upd H d (.dK [(kC, .ref l), (kS, .int y), (kA, .int (z + 1))]) = H1 at hd1 hl1 fr1 ⊢
    refine ⟨.ref d, rfl, d, .ref l, rfl, dgC hd1, Nat.zero_le _, fun p np => ?_⟩
    have s2 := same_upd (o := (HO.lst [])) np
    have h2 : upd H1 p (HO.lst []) p = some (HO.lst []) := upd_same
    generalize upd H1 p (HO.lst []) = H2 at s2 h2 ⊢
    have hd2 := s2 _ _ hd1
    have hl2 := s2 _ _ hl1
    refine ⟨.list (cs.map .int), .list [], .lst (SqL.of hl2) (dpInts cs), .lst (SqL.of h2) .nil, shInts cs, rfl, _, rfl, ?_⟩
    have fr2 : Fr d l H H2 := fr1.trans (Fr.of s2)
    cases cs with
    | nil =>
      refine iteT ?_
      refine ⟨.ref d, rfl, d, .int y, rfl, dgS hd2, .ref d, rfl, d, .int (z + 1), rfl, dgA hd2, _, _, rfl, rfl, _, rfl, fun v v0 v1 => ?_⟩
      refine ⟨.ref d, rfl, d, _, rfl, dpS v hd2, ?_⟩
      refine ⟨.ref d, rfl, d, .int v, rfl, dgS upd_same, _, _, rfl, rfl, (⟨by decide, by decide⟩ : (0 : Int) < 8 ∧ (8 : Int) < 1073741824), .int m, rfl, _, _, rfl, rfl, hm0, ?_⟩
      exact q _ _ ⟨ne, [], v, z + 1, upd_same, by rw [upd_ne ne.symm]; exact hl2, Nat.zero_le _, by omega, by omega⟩ (fr2.trans Fr.d) (Int.emod_nonneg _ (by omega)) (Int.emod_lt_of_pos _ hm0)
    | cons c0 r0 =>
      refine iteF ?_
      obtain ⟨r, c, hrc⟩ : ∃ r c, c0 :: r0 = r ++ [c] := ⟨(c0 :: r0).dropLast, (c0 :: r0).getLast (by simp), (List.dropLast_concat_getLast (by simp)).symm⟩
      rw [hrc] at hl2 hcs
      rw [List.map_append] at hl2
      have lr : r.length ≤ 62 := by rw [List.length_append] at hcs; simp at hcs; omega
      refine ⟨.ref d, rfl, d, .ref l, rfl, dgC hd2, .inl ⟨rfl, _, SqL.of hl2⟩, l, _, .int c, rfl, rfl, hl2, by simp, ?_⟩
      have edl : (r.map V.int ++ [c].map V.int).dropLast = r.map V.int := List.dropLast_concat ..
      rw [edl]
      have hl3 : upd H2 l (.lst (r.map V.int)) l = some (.lst (r.map V.int)) := upd_same
      have hd3 : upd H2 l (.lst (r.map V.int)) d = some (.dK [(kC, .ref l), (kS, .int y), (kA, .int (z + 1))]) := by rw [upd_ne ne]; exact hd2
      have fr3 : Fr d l H (upd H2 l (.lst (r.map V.int))) := fr2.trans Fr.l
      show tSeq _ _ _ _ (upd H2 l (.lst (r.map V.int)))
      generalize upd H2 l (.lst (r.map V.int)) = H3 at hl3 hd3 fr3 ⊢
      have m6 : m ≤ 1000000 := by
        have e6 : (10 : Int) ^ (6 : Int).toNat = 1000000 := by decide
        have h6 : ¬ (10 : Int) ^ (6 : Int).toNat < m := fun k => small (decide_eq_true k)
        rw [e6] at h6
        omega
      refine ⟨.int c, rfl, _, _, rfl, rfl, ⟨by decide, by decide, by decide⟩, _, _, rfl, rfl, _, rfl, ite2 (fun _ => ?_) (fun _ => ?_)⟩
      · refine ⟨.ref d, rfl, d, .ref l, rfl, dgC hd3, .inl ⟨rfl, _, SqL.of hl3⟩, .int c, rfl, .int m, rfl, _, _, rfl, rfl, (⟨hm0, by omega⟩ : 0 < m ∧ m < 1073741824), l, _, _, rfl, rfl, hl3, ?_, ?_⟩
        · rw [List.length_map]
          exact Nat.lt_of_lt_of_le (show r.length < 128 by omega) (by decide)
        refine ⟨.int c, rfl, .int m, rfl, _, _, rfl, rfl, hm0, ?_⟩
        exact q _ _ ⟨ne, r ++ [c / m], y, z + 1, by rw [upd_ne ne]; exact hd3, by rw [upd_same, List.map_append]; rfl, by rw [List.length_append]; show r.length + 1 ≤ 63; omega, by omega, by omega⟩ (fr3.trans Fr.l) (Int.emod_nonneg _ (by omega)) (Int.emod_lt_of_pos _ hm0)
      · refine ⟨.int c, rfl, .ref d, rfl, d, .int (z + 1), rfl, dgA hd3, _, _, rfl, rfl, _, rfl, fun v v0 v1 => ?_⟩
        refine ⟨_, _, rfl, rfl, (⟨by decide, by decide⟩ : (0 : Int) < 8 ∧ (8 : Int) < 1073741824), .int m, rfl, _, _, rfl, rfl, hm0, ?_⟩
        exact q _ _ ⟨ne, r, y, z + 1, hd3, hl3, by omega, by omega, by omega⟩ fr3 (Int.emod_nonneg _ (by omega)) (Int.emod_lt_of_pos _ hm0)
theorem ok_draw4 (T : Tx K mg) : FnOk P w K mg base CX0 6 T.f_draw T.fd_draw ["_law_deck_here", "_law_most"] (sp_drawN K 1000000000000000000000000000000 16) := by
  refine T.F_draw.ok sc_draw (fun vs H Q E h => ?_) (fun cdv A outer s H vs Q E hr h => ?_)
  · obtain ⟨d, l, m, n, rfl, _⟩ := h
    rfl
  · obtain ⟨d, l, m, n, rfl, D, hn, hm0, hm1, q⟩ := h
    refine ⟨_, (pss_cons (ps_if (pt_cmpR op_gt (pv 1) (pe_op op_pow pe_int pe_int) (nomark _)) (pss_cons (ps_set (i := 2) sc_draw.nd rfl (by first | exact .inl rfl | exact .inr rfl) (pe_call (ok_draw3 T) (hr.mono (by decide)) (by rfl) T.g_draw T.F_draw.kp T.b_draw .nil pass0 (pa_cons (pv 0) (pa_cons (pe_op op_pow pe_int pe_int) pa_nil)))) (pss_one (ps_ret (pe_op op_mod (pe_op op_add (pv 2) (pe_op op_mul (pe_op op_pow pe_int pe_int) (pe_call (ok_draw3 T) (hr.mono (by decide)) (by rfl) T.g_draw T.F_draw.kp T.b_draw .nil pass0 (pa_cons (pv 0) (pa_cons (pe_op op_add (pe_op op_fdiv (pe_op op_sub (pv 1) pe_int) (pe_op op_pow pe_int pe_int)) pe_int) pa_nil))))) (pv 1))))) pss_nil) (pss_cons (ps_dput (hu_of hr) (pv 0) pe_str (pe_op op_add (pe_dget (hu_of hr) (pv 0) pe_str (fun _ _ => rfl)) pe_int) rfl) (pss_cons (ps_if (pt_cmpR (op_eqD hr.units) (pe_dget (hu_of hr) (pv 0) pe_str (fun _ _ => rfl)) (pe_lst pa_nil) (nomark _)) (pss_cons (ps_dput (hu_of hr) (pv 0) pe_str (pe_call (ok_mixed T) (hr.mono (by decide)) (by rfl) T.g_mixed T.F_mixed.kp T.b_mixed .nil pass0 (pa_cons (pe_op op_add (pe_dget (hu_of hr) (pv 0) pe_str (fun _ _ => rfl)) (pe_dget (hu_of hr) (pv 0) pe_str (fun _ _ => rfl))) pa_nil)) rfl) (pss_one (ps_ret (pe_op op_mod (pe_op op_fdiv (pe_dget (hu_of hr) (pv 0) pe_str (fun _ _ => rfl)) pe_int) (pv 1))))) pss_nil) (pss_cons (ps_set (i := 3) sc_draw.nd rfl (by first | exact .inl rfl | exact .inr rfl) (pe_bm0 PySem.F.plainAttrs_list PySem.F.slot_list_pop PySem.F.type_list_pop mt_pop (pe_dget (hu_of hr) (pv 0) pe_str (fun _ _ => rfl)))) (pss_cons (ps_if (pt_cmpR op_ge (pv 3) (pe_op op_pow pe_int pe_int) (nomark _)) (pss_cons (ps_expr (pe_bm PySem.F.plainAttrs_list PySem.F.slot_list_append PySem.F.type_list_append mt_append (pe_dget (hu_of hr) (pv 0) pe_str (fun _ _ => rfl)) (pa_cons (pe_op op_fdiv (pv 3) (pv 1)) pa_nil))) (pss_one (ps_ret (pe_op op_mod (pv 3) (pv 1))))) pss_nil) (pss_one (ps_ret (pe_op op_mod (pe_op op_fdiv (pe_call (ok_mixed T) (hr.mono (by decide)) (by rfl) T.g_mixed T.F_mixed.kp T.b_mixed .nil pass0 (pa_cons (pe_op op_add (pv 3) (pe_dget (hu_of hr) (pv 0) pe_str (fun _ _ => rfl))) pa_nil)) pe_int) (pv 1))))))))), ?_⟩
    refine ⟨.int m, rfl, _, _, rfl, rfl, ⟨by decide, by decide, by decide⟩, _, _, rfl, rfl, _, rfl, ite2 (fun z => ?_) (fun small => ?_)⟩
    · have z' : (10 : Int) ^ (6 : Int).toNat < m := of_decide_eq_true z
      have e6 : (10 : Int) ^ (6 : Int).toNat = 1000000 := by decide
      rw [e6] at z'
      have hq : (m - 1) / (10 : Int) ^ (6 : Int).toNat + 1 ≤ 1000000000000000000000000 ∧ 0 < (m - 1) / (10 : Int) ^ (6 : Int).toNat + 1 := by rw [e6]; omega
      refine ⟨.ref d, rfl, _, _, rfl, rfl, ⟨by decide, by decide, by decide⟩, d, l, _, n, rfl, D, by omega, by decide, by decide, fun H1 low D1 fr1 l0 l1 => ?_⟩
      refine ⟨.int low, rfl, _, _, rfl, rfl, ⟨by decide, by decide, by decide⟩, .ref d, rfl, .int m, rfl, _, _, rfl, rfl, _, _, rfl, rfl, ⟨by decide, by decide, by decide⟩, _, _, rfl, rfl, (⟨by decide, by decide⟩ : (0 : Int) < 10 ^ (6 : Int).toNat ∧ (10 : Int) ^ (6 : Int).toNat < 1073741824), _, _, rfl, rfl, d, l, _, _, rfl, D1, ?_, hq.2, hq.1, fun H2 v D2 fr2 v0 v1 => ⟨_, _, rfl, rfl, .inl ⟨by decide, by decide⟩, _, _, rfl, rfl, .int m, rfl, _, _, rfl, rfl, hm0, ?_⟩⟩
      · omega
      exact q _ _ (D2.mono (by omega)) (fr1.trans fr2) (Int.emod_nonneg _ (by omega)) (Int.emod_lt_of_pos _ hm0)
    obtain ⟨ne, cs, y, z, hd, hl, hcs, hz0, hz1⟩ := D
    refine ⟨.ref d, rfl, d, .int z, rfl, dgA hd, _, _, rfl, rfl, .ref d, rfl, d, _, rfl, dpA (z + 1) hd, ?_⟩
    have hd1 : upd H d (.dK [(kC, .ref l), (kS, .int y), (kA, .int (z + 1))]) d = some (.dK [(kC, .ref l), (kS, .int y), (kA, .int (z + 1))]) := upd_same
    have hl1 : upd H d (.dK [(kC, .ref l), (kS, .int y), (kA, .int (z + 1))]) l = some (.lst (cs.map V.int)) := by rw [upd_ne ne.symm]; exact hl
    have fr1 : Fr d l H (upd H d (.dK [(kC, .ref l), (kS, .int y), (kA, .int (z + 1))])) := Fr.d
    generalize upd H d (.dK [(kC, .ref l), (kS, .int y), (kA, .int (z + 1))]) = H1 at hd1 hl1 fr1 ⊢
    refine ⟨.ref d, rfl, d, .ref l, rfl, dgC hd1, Nat.zero_le _, fun p np => ?_⟩
    have s2 := same_upd (o := (HO.lst [])) np
    have h2 : upd H1 p (HO.lst []) p = some (HO.lst []) := upd_same
    generalize upd H1 p (HO.lst []) = H2 at s2 h2 ⊢
    have hd2 := s2 _ _ hd1
    have hl2 := s2 _ _ hl1
    refine ⟨.list (cs.map .int), .list [], .lst (SqL.of hl2) (dpInts cs), .lst (SqL.of h2) .nil, shInts cs, rfl, _, rfl, ?_⟩
    have fr2 : Fr d l H H2 := fr1.trans (Fr.of s2)
    cases cs with
    | nil =>
      refine iteT ?_
      refine ⟨.ref d, rfl, d, .int y, rfl, dgS hd2, .ref d, rfl, d, .int (z + 1), rfl, dgA hd2, _, _, rfl, rfl, _, rfl, fun v v0 v1 => ?_⟩
      refine ⟨.ref d, rfl, d, _, rfl, dpS v hd2, ?_⟩
      refine ⟨.ref d, rfl, d, .int v, rfl, dgS upd_same, _, _, rfl, rfl, (⟨by decide, by decide⟩ : (0 : Int) < 8 ∧ (8 : Int) < 1073741824), .int m, rfl, _, _, rfl, rfl, hm0, ?_⟩
      exact q _ _ ⟨ne, [], v, z + 1, upd_same, by rw [upd_ne ne.symm]; exact hl2, Nat.zero_le _, by omega, by omega⟩ (fr2.trans Fr.d) (Int.emod_nonneg _ (by omega)) (Int.emod_lt_of_pos _ hm0)
    | cons c0 r0 =>
      refine iteF ?_
      obtain ⟨r, c, hrc⟩ : ∃ r c, c0 :: r0 = r ++ [c] := ⟨(c0 :: r0).dropLast, (c0 :: r0).getLast (by simp), (List.dropLast_concat_getLast (by simp)).symm⟩
      rw [hrc] at hl2 hcs
      rw [List.map_append] at hl2
      have lr : r.length ≤ 62 := by rw [List.length_append] at hcs; simp at hcs; omega
      refine ⟨.ref d, rfl, d, .ref l, rfl, dgC hd2, .inl ⟨rfl, _, SqL.of hl2⟩, l, _, .int c, rfl, rfl, hl2, by simp, ?_⟩
      have edl : (r.map V.int ++ [c].map V.int).dropLast = r.map V.int := List.dropLast_concat ..
      rw [edl]
      have hl3 : upd H2 l (.lst (r.map V.int)) l = some (.lst (r.map V.int)) := upd_same
      have hd3 : upd H2 l (.lst (r.map V.int)) d = some (.dK [(kC, .ref l), (kS, .int y), (kA, .int (z + 1))]) := by rw [upd_ne ne]; exact hd2
      have fr3 : Fr d l H (upd H2 l (.lst (r.map V.int))) := fr2.trans Fr.l
      show tSeq _ _ _ _ (upd H2 l (.lst (r.map V.int)))
      generalize upd H2 l (.lst (r.map V.int)) = H3 at hl3 hd3 fr3 ⊢
      have m6 : m ≤ 1000000 := by
        have e6 : (10 : Int) ^ (6 : Int).toNat = 1000000 := by decide
        have h6 : ¬ (10 : Int) ^ (6 : Int).toNat < m := fun k => small (decide_eq_true k)
        rw [e6] at h6
        omega
      refine ⟨.int c, rfl, _, _, rfl, rfl, ⟨by decide, by decide, by decide⟩, _, _, rfl, rfl, _, rfl, ite2 (fun _ => ?_) (fun _ => ?_)⟩
      · refine ⟨.ref d, rfl, d, .ref l, rfl, dgC hd3, .inl ⟨rfl, _, SqL.of hl3⟩, .int c, rfl, .int m, rfl, _, _, rfl, rfl, (⟨hm0, by omega⟩ : 0 < m ∧ m < 1073741824), l, _, _, rfl, rfl, hl3, ?_, ?_⟩
        · rw [List.length_map]
          exact Nat.lt_of_lt_of_le (show r.length < 128 by omega) (by decide)
        refine ⟨.int c, rfl, .int m, rfl, _, _, rfl, rfl, hm0, ?_⟩
        exact q _ _ ⟨ne, r ++ [c / m], y, z + 1, by rw [upd_ne ne]; exact hd3, by rw [upd_same, List.map_append]; rfl, by rw [List.length_append]; show r.length + 1 ≤ 63; omega, by omega, by omega⟩ (fr3.trans Fr.l) (Int.emod_nonneg _ (by omega)) (Int.emod_lt_of_pos _ hm0)
      · refine ⟨.int c, rfl, .ref d, rfl, d, .int (z + 1), rfl, dgA hd3, _, _, rfl, rfl, _, rfl, fun v v0 v1 => ?_⟩
        refine ⟨_, _, rfl, rfl, (⟨by decide, by decide⟩ : (0 : Int) < 8 ∧ (8 : Int) < 1073741824), .int m, rfl, _, _, rfl, rfl, hm0, ?_⟩
        exact q _ _ ⟨ne, r, y, z + 1, hd3, hl3, by omega, by omega, by omega⟩ fr3 (Int.emod_nonneg _ (by omega)) (Int.emod_lt_of_pos _ hm0)
theorem ok_draw5 (T : Tx K mg) : FnOk P w K mg base CX0 7 T.f_draw T.fd_draw ["_law_deck_here", "_law_most"] (sp_drawN K 1000000000000000000000000000000000000 32) := by
  refine T.F_draw.ok sc_draw (fun vs H Q E h => ?_) (fun cdv A outer s H vs Q E hr h => ?_)
  · obtain ⟨d, l, m, n, rfl, _⟩ := h
    rfl
  · obtain ⟨d, l, m, n, rfl, D, hn, hm0, hm1, q⟩ := h
    refine ⟨_, (pss_cons (ps_if (pt_cmpR op_gt (pv 1) (pe_op op_pow pe_int pe_int) (nomark _)) (pss_cons (ps_set (i := 2) sc_draw.nd rfl (by first | exact .inl rfl | exact .inr rfl) (pe_call (ok_draw4 T) (hr.mono (by decide)) (by rfl) T.g_draw T.F_draw.kp T.b_draw .nil pass0 (pa_cons (pv 0) (pa_cons (pe_op op_pow pe_int pe_int) pa_nil)))) (pss_one (ps_ret (pe_op op_mod (pe_op op_add (pv 2) (pe_op op_mul (pe_op op_pow pe_int pe_int) (pe_call (ok_draw4 T) (hr.mono (by decide)) (by rfl) T.g_draw T.F_draw.kp T.b_draw .nil pass0 (pa_cons (pv 0) (pa_cons (pe_op op_add (pe_op op_fdiv (pe_op op_sub (pv 1) pe_int) (pe_op op_pow pe_int pe_int)) pe_int) pa_nil))))) (pv 1))))) pss_nil) (pss_cons (ps_dput (hu_of hr) (pv 0) pe_str (pe_op op_add (pe_dget (hu_of hr) (pv 0) pe_str (fun _ _ => rfl)) pe_int) rfl) (pss_cons (ps_if (pt_cmpR (op_eqD hr.units) (pe_dget (hu_of hr) (pv 0) pe_str (fun _ _ => rfl)) (pe_lst pa_nil) (nomark _)) (pss_cons (ps_dput (hu_of hr) (pv 0) pe_str (pe_call (ok_mixed T) (hr.mono (by decide)) (by rfl) T.g_mixed T.F_mixed.kp T.b_mixed .nil pass0 (pa_cons (pe_op op_add (pe_dget (hu_of hr) (pv 0) pe_str (fun _ _ => rfl)) (pe_dget (hu_of hr) (pv 0) pe_str (fun _ _ => rfl))) pa_nil)) rfl) (pss_one (ps_ret (pe_op op_mod (pe_op op_fdiv (pe_dget (hu_of hr) (pv 0) pe_str (fun _ _ => rfl)) pe_int) (pv 1))))) pss_nil) (pss_cons (ps_set (i := 3) sc_draw.nd rfl (by first | exact .inl rfl | exact .inr rfl) (pe_bm0 PySem.F.plainAttrs_list PySem.F.slot_list_pop PySem.F.type_list_pop mt_pop (pe_dget (hu_of hr) (pv 0) pe_str (fun _ _ => rfl)))) (pss_cons (ps_if (pt_cmpR op_ge (pv 3) (pe_op op_pow pe_int pe_int) (nomark _)) (pss_cons (ps_expr (pe_bm PySem.F.plainAttrs_list PySem.F.slot_list_append PySem.F.type_list_append mt_append (pe_dget (hu_of hr) (pv 0) pe_str (fun _ _ => rfl)) (pa_cons (pe_op op_fdiv (pv 3) (pv 1)) pa_nil))) (pss_one (ps_ret (pe_op op_mod (pv 3) (pv 1))))) pss_nil) (pss_one (ps_ret (pe_op op_mod (pe_op op_fdiv (pe_call (ok_mixed T) (hr.mono (by decide)) (by rfl) T.g_mixed T.F_mixed.kp T.b_mixed .nil pass0 (pa_cons (pe_op op_add (pv 3) (pe_dget (hu_of hr) (pv 0) pe_str (fun _ _ => rfl))) pa_nil)) pe_int) (pv 1))))))))), ?_⟩
    refine ⟨.int m, rfl, _, _, rfl, rfl, ⟨by decide, by decide, by decide⟩, _, _, rfl, rfl, _, rfl, ite2 (fun z => ?_) (fun small => ?_)⟩
    · have z' : (10 : Int) ^ (6 : Int).toNat < m := of_decide_eq_true z
      have e6 : (10 : Int) ^ (6 : Int).toNat = 1000000 := by decide
      rw [e6] at z'
      have hq : (m - 1) / (10 : Int) ^ (6 : Int).toNat + 1 ≤ 1000000000000000000000000000000 ∧ 0 < (m - 1) / (10 : Int) ^ (6 : Int).toNat + 1 := by rw [e6]; omega
      refine ⟨.ref d, rfl, _, _, rfl, rfl, ⟨by decide, by decide, by decide⟩, d, l, _, n, rfl, D, by omega, by decide, by decide, fun H1 low D1 fr1 l0 l1 => ?_⟩
      refine ⟨.int low, rfl, _, _, rfl, rfl, ⟨by decide, by decide, by decide⟩, .ref d, rfl, .int m, rfl, _, _, rfl, rfl, _, _, rfl, rfl, ⟨by decide, by decide, by decide⟩, _, _, rfl, rfl, (⟨by decide, by decide⟩ : (0 : Int) < 10 ^ (6 : Int).toNat ∧ (10 : Int) ^ (6 : Int).toNat < 1073741824), _, _, rfl, rfl, d, l, _, _, rfl, D1, ?_, hq.2, hq.1, fun H2 v D2 fr2 v0 v1 => ⟨_, _, rfl, rfl, .inl ⟨by decide, by decide⟩, _, _, rfl, rfl, .int m, rfl, _, _, rfl, rfl, hm0, ?_⟩⟩
      · omega
      exact q _ _ (D2.mono (by omega)) (fr1.trans fr2) (Int.emod_nonneg _ (by omega)) (Int.emod_lt_of_pos _ hm0)
    obtain ⟨ne, cs, y, z, hd, hl, hcs, hz0, hz1⟩ := D
    refine ⟨.ref d, rfl, d, .int z, rfl, dgA hd, _, _, rfl, rfl, .ref d, rfl, d, _, rfl, dpA (z + 1) hd, ?_⟩
    have hd1 : upd H d (.dK [(kC, .ref l), (kS, .int y), (kA, .int (z + 1))]) d = some (.dK [(kC, .ref l), (kS, .int y), (kA, .int (z + 1))]) := upd_same
    have hl1 : upd H d (.dK [(kC, .ref l), (kS, .int y), (kA, .int (z + 1))]) l = some (.lst (cs.map V.int)) := by rw [upd_ne ne.symm]; exact hl
    have fr1 : Fr d l H (upd H d (.dK [(kC, .ref l), (kS, .int y), (kA, .int (z + 1))])) := Fr.d
    generalize upd H d (.dK [(kC, .ref l), (kS, .int y), (kA, .int (z + 1))]) = H1 at hd1 hl1 fr1 ⊢
    refine ⟨.ref d, rfl, d, .ref l, rfl, dgC hd1, Nat.zero_le _, fun p np => ?_⟩
    have s2 := same_upd (o := (HO.lst [])) np
    have h2 : upd H1 p (HO.lst []) p = some (HO.lst []) := upd_same
    generalize upd H1 p (HO.lst []) = H2 at s2 h2 ⊢
    have hd2 := s2 _ _ hd1
    have hl2 := s2 _ _ hl1
    refine ⟨.list (cs.map .int), .list [], .lst (SqL.of hl2) (dpInts cs), .lst (SqL.of h2) .nil, shInts cs, rfl, _, rfl, ?_⟩
    have fr2 : Fr d l H H2 := fr1.trans (Fr.of s2)
    cases cs with
    | nil =>
      refine iteT ?_
      refine ⟨.ref d, rfl, d, .int y, rfl, dgS hd2, .ref d, rfl, d, .int (z + 1), rfl, dgA hd2, _, _, rfl, rfl, _, rfl, fun v v0 v1 => ?_⟩
      refine ⟨.ref d, rfl, d, _, rfl, dpS v hd2, ?_⟩
      refine ⟨.ref d, rfl, d, .int v, rfl, dgS upd_same, _, _, rfl, rfl, (⟨by decide, by decide⟩ : (0 : Int) < 8 ∧ (8 : Int) < 1073741824), .int m, rfl, _, _, rfl, rfl, hm0, ?_⟩
      exact q _ _ ⟨ne, [], v, z + 1, upd_same, by rw [upd_ne ne.symm]; exact hl2, Nat.zero_le _, by omega, by omega⟩ (fr2.trans Fr.d) (Int.emod_nonneg _ (by omega)) (Int.emod_lt_of_pos _ hm0)
    | cons c0 r0 =>
      refine iteF ?_
      obtain ⟨r, c, hrc⟩ : ∃ r c, c0 :: r0 = r ++ [c] := ⟨(c0 :: r0).dropLast, (c0 :: r0).getLast (by simp), (List.dropLast_concat_getLast (by simp)).symm⟩
      rw [hrc] at hl2 hcs
      rw [List.map_append] at hl2
      have lr : r.length ≤ 62 := by rw [List.length_append] at hcs; simp at hcs; omega
      refine ⟨.ref d, rfl, d, .ref l, rfl, dgC hd2, .inl ⟨rfl, _, SqL.of hl2⟩, l, _, .int c, rfl, rfl, hl2, by simp, ?_⟩
      have edl : (r.map V.int ++ [c].map V.int).dropLast = r.map V.int := List.dropLast_concat ..
      rw [edl]
      have hl3 : upd H2 l (.lst (r.map V.int)) l = some (.lst (r.map V.int)) := upd_same
      have hd3 : upd H2 l (.lst (r.map V.int)) d = some (.dK [(kC, .ref l), (kS, .int y), (kA, .int (z + 1))]) := by rw [upd_ne ne]; exact hd2
      have fr3 : Fr d l H (upd H2 l (.lst (r.map V.int))) := fr2.trans Fr.l
      show tSeq _ _ _ _ (upd H2 l (.lst (r.map V.int)))
      generalize upd H2 l (.lst (r.map V.int)) = H3 at hl3 hd3 fr3 ⊢
      have m6 : m ≤ 1000000 := by
        have e6 : (10 : Int) ^ (6 : Int).toNat = 1000000 := by decide
        have h6 : ¬ (10 : Int) ^ (6 : Int).toNat < m := fun k => small (decide_eq_true k)
        rw [e6] at h6
        omega
      refine ⟨.int c, rfl, _, _, rfl, rfl, ⟨by decide, by decide, by decide⟩, _, _, rfl, rfl, _, rfl, ite2 (fun _ => ?_) (fun _ => ?_)⟩
      · refine ⟨.ref d, rfl, d, .ref l, rfl, dgC hd3, .inl ⟨rfl, _, SqL.of hl3⟩, .int c, rfl, .int m, rfl, _, _, rfl, rfl, (⟨hm0, by omega⟩ : 0 < m ∧ m < 1073741824), l, _, _, rfl, rfl, hl3, ?_, ?_⟩
        · rw [List.length_map]
          exact Nat.lt_of_lt_of_le (show r.length < 128 by omega) (by decide)
        refine ⟨.int c, rfl, .int m, rfl, _, _, rfl, rfl, hm0, ?_⟩
        exact q _ _ ⟨ne, r ++ [c / m], y, z + 1, by rw [upd_ne ne]; exact hd3, by rw [upd_same, List.map_append]; rfl, by rw [List.length_append]; show r.length + 1 ≤ 63; omega, by omega, by omega⟩ (fr3.trans Fr.l) (Int.emod_nonneg _ (by omega)) (Int.emod_lt_of_pos _ hm0)
      · refine ⟨.int c, rfl, .ref d, rfl, d, .int (z + 1), rfl, dgA hd3, _, _, rfl, rfl, _, rfl, fun v v0 v1 => ?_⟩
        refine ⟨_, _, rfl, rfl, (⟨by decide, by decide⟩ : (0 : Int) < 8 ∧ (8 : Int) < 1073741824), .int m, rfl, _, _, rfl, rfl, hm0, ?_⟩
        exact q _ _ ⟨ne, r, y, z + 1, hd3, hl3, by omega, by omega, by omega⟩ fr3 (Int.emod_nonneg _ (by omega)) (Int.emod_lt_of_pos _ hm0)
def sp_draw (K : PySem.W.Frag) : Sp := sp_drawN K 1000000000000000000000000000000000000 32
theorem ok_draw (T : Tx K mg) : FnOk P w K mg base CX0 7 T.f_draw T.fd_draw ["_law_deck_here", "_law_most"] (sp_draw K) := ok_draw5 T

end
end Gk

set_option Elab.async false
set_option linter.all false
set_option maxRecDepth 100000
set_option maxHeartbeats 1000000
set_option pp.maxSteps 1500
set_option pp.deepTerms false
namespace Gk
open PySem PySem.Spec PyProof.Rows L2
/-! ### sum(elt for tg in iter ..), of ints -/
namespace GxS
open PySem PySem.Spec PyProof.Rows L2
section
variable {X : Cx} {A A' : Around} {s_0 : Shared} {H_0 : Hp} {cenv : Env} {fp : List Addr} {tn : Nat → Heap → Prop} {ga S : Addr} {gn n : Nat} {go : Obj}
def ACs (ga : Addr) (go : Obj) (S : Addr) (a : Int) (cp : List (Addr × Obj)) : Prop := ∃ (t : Tok) (c : Nat), cp = [(ga, go), (S, lstObj #[.int a t] c)]
def YdS (a : Int) (y : V) (H : Hp) (Nx : Int → Hp → Prop) : Prop := ∃ i : Int, y = .int i ∧ InLong i ∧ InLong (a + i) ∧ Nx (a + i) H
theorem lst_one {a a' : Int} {t t' : Tok} {c c' : Nat} (h : some (lstObj #[Value.int a t] c) = some (lstObj #[Value.int a' t'] c')) : a' = a := by
  have h1 := congrArg Obj.data (Option.some.inj h)
  have h2 : #[Value.int a t] = #[Value.int a' t'] := by
    have h1 : (lstObj #[Value.int a t] c).data = (lstObj #[Value.int a' t'] c').data := h1
    unfold lstObj at h1
    injection h1
  have h3 : [Value.int a t] = [Value.int a' t'] := congrArg Array.toList h2
  have h4 := (List.cons.inj h3).1
  injection h4 with h5 _
  exact h5.symm
theorem sum_gx {R : Result → Shared → Prop} {End : Int → Hp → Prop} (hh : A.handled = none) (hroom : A.depth < recursionLimit) (hG : GenObj go gn) (hSa : S ≠ ga) (far : (gblk X A' s_0 H_0 cenv fp).s_0.heap.objs.size ≤ S) (hSc : ∀ x c, cenv.cells.lookup x = some c → c ≠ S)
    (keep : ∀ i h h', tn i h → (∀ b ∈ fp, ∀ o, h.get? b = some o → h'.get? b = some o) → tn i h') (hSf : ∀ b ∈ fp, b ≠ S)
    (yes : ∀ (σ : L2.St) (H : Hp) (a : Int) (t : Tok) (cp : List (Addr × Obj)) (s1 : Shared), Inv (gblk X A' s_0 H_0 cenv fp) cp σ H s1 → End a H → R (.ok (.ret (.int a t))) s1) :
    ∀ (n : Nat) (s : Shared) (a : Int) (t : Tok) (c : Nat), s.heap.NoLimit → s.heap.get? ga = some go → s.heap.get? S = some (lstObj #[.int a t] c) → (∃ gs, s.gens[gn]? = some gs ∧ gs.Goes (model X.prog X.w) A.in1.in1 (RG (gblk X A' s_0 H_0 cenv fp) (ACs ga go S) End)
      (YG (gblk X A' s_0 H_0 cenv fp) fp tn (ACs ga go S) YdS) n (.send .none) (s.setGen gn .running)) →
      codeAny (model X.prog X.w) A (.builtin "sum.loop" ⟨[.ref ga, .ref S, rawInt 0, rawInt 0], []⟩) R s := by
  intro n
  induction n using Nat.strongRecOn with
  | ind n ih =>
    rintro s a t c hl e hS ⟨gs, hgs, hgo⟩
    refine codeAny_builtin F.entry_sum_loop ?_
    rw [Around.under_plainId F.plain_sum_loop _]
    show wpAny _ A.in1 (seqItems? (.ref S) >>= _) _ _ s
    refine wpAny_bind (wpAny_seqItems hS rfl ?_)
    show wpAny _ A.in1 (tryCatch (pyNext (.ref ga)) _ >>= _) _ _ s
    refine wpAny_bind (wpAny_tryCatch (next_gx2 (A := A.in1) hh hroom hl hG e hgs hgo (fun a' x σ H i cp Nx v s1 gs' r hac tie I st hy at_ kap => ?_) fun a' σ H cp s1 hac tie I q => ?_))
    · obtain ⟨t', c', rfl⟩ := hac
      have e1 := tie (S, lstObj #[.int a' t'] c') (List.mem_cons_of_mem _ List.mem_cons_self)
      rw [hS] at e1
      obtain rfl := lst_one e1
      obtain ⟨j, rfl, ⟨f1, f2⟩, ⟨f3, f4⟩, nx⟩ := hy
      obtain ⟨tk, rfl⟩ := (show ∃ t, v = Value.int j t from r)
      have pS := I.pin (S, lstObj #[.int a' t'] c') (List.mem_append_right _ (List.mem_cons_of_mem _ List.mem_cons_self))
      have I0 : Inv (gblk X A' s_0 H_0 cenv fp) [(ga, go)] σ H s1 := I.pins_of fun p hp => I.pin p (List.mem_append_right _ (by rw [List.mem_singleton.mp hp]; exact List.mem_cons_self))
      have I1 := I0.turned (t' := s1.toks + 1) (h' := s1.heap.update S (Obj.mapSeq (fun _ => #[Value.int (a' + j) s1.toks]))) (it := S) (fun b o hb q => (Heap.get?_update_other _ _ (Ne.symm hb)).trans q) pS.2.1 pS.2.2.1 (.inr far) hSc (fun p hp => by rw [List.mem_singleton.mp (show p ∈ [(ga, go)] by simpa using hp)]; exact Ne.symm hSa)
      have e2 := Heap.get?_update_self (Obj.mapSeq (fun _ => #[Value.int (a' + j) s1.toks])) pS.1 rfl
      have pG := I1.pin (ga, go) (List.mem_append_right _ List.mem_cons_self)
      have hc : ((decide (-(2 ^ 63) ≤ j) && decide (j < 2 ^ 63)) && (decide (-(2 ^ 63) ≤ a' + j) && decide (a' + j < 2 ^ 63))) = true := by
        simp only [Bool.and_eq_true, decide_eq_true_eq]
        exact ⟨⟨f1, f2⟩, f3, f4⟩
      show wpAny _ A.in1 (if (_ : Bool) = true then (mkInt (a' + j) >>= _) else _) _ _ _
      split
      · refine wpAny_bind (wpAny_mkInt ?_)
        show wpAny _ A.in1 (updateSeq S (fun _ => #[Value.int (a' + j) s1.toks]) >>= _) _ _ _
        refine wpAny_bind ?_
        obtain ⟨m, hm, z⟩ := kap (a' + j) [(ga, go), (S, _)] (({ s1 with toks := s1.toks + 1, heap := s1.heap.update S (Obj.mapSeq (fun _ => #[Value.int (a' + j) s1.toks])) } : Shared).setGen gn .running) nx ⟨_, _, rfl⟩ (inv_moved (I1.pins_of fun p hp => by
          rcases List.mem_cons.mp hp with z | z
          · rw [z]; exact pG
          · rw [List.mem_singleton.mp z]; exact ⟨e2, pS.2.1, pS.2.2.1, pS.2.2.2.1, fun v q => by cases q⟩) rfl (allBare_setGen (s := { s1 with toks := s1.toks + 1, heap := s1.heap.update S (Obj.mapSeq (fun _ => #[Value.int (a' + j) s1.toks])) }) I1.bare rfl) fun _ _ q => q) (keep _ _ _ st fun b hb o q => (Heap.get?_update_other _ _ (Ne.symm (hSf b hb))).trans q)
        refine wpAny_updateSeq pS.1 rfl (wpAny_pure ⟨plainId_quiet F.plain_sum_loop _, ih m (by omega) _ (a' + j) s1.toks _ I1.nolimit pG.1 e2 ⟨gs', at_, z⟩⟩)
      · rename_i hneg
        exact absurd hc hneg
    · obtain ⟨t', c', rfl⟩ := hac
      have e1 := tie (S, lstObj #[.int a' t'] c') (List.mem_cons_of_mem _ List.mem_cons_self)
      rw [hS] at e1
      obtain rfl := lst_one e1
      exact wpAny_pure (yes σ H a' t _ s1 I q)
end
section
variable {X : Cx}
def tSumX (P : Addr) (wi : TI) (g : TG) (tt : TT) (te : TE) (vs : List Nat) : TE := fun σ H Q => wi σ H fun J H1 => GxR.TabG H1 P ∧ ∀ H2, GxR.Tabbed P H1 H2 → ∃ W : Nat → Nat → Int → Hp → Prop, (∃ m, W 0 m 0 H2) ∧
  tGx J g tt te (wipe σ vs) vs (fun a H => Q (.int a) H) YdS W
theorem pe_sumX {c P : Addr} {elt tg iter : Expr} {ifs : List Expr} {p pos gpos : Pos} {scope : Scope} {own : List (Str × Nat)} {wi : TI} {g : TG} {tt : TT} {te : TE} {k : Nat}
    (hr : Room (k + 1) X.A) (hc : X.calm = true) (hN : X.N.Nodup) (hgl : Gl X "sum") (hm : X.mg "sum" = none) (hb : bootBuiltins "sum" = some (.builtin "sum")) (TB : GxR.TabB X.base X.mg c P) (hcode : X.env.code = .ref c)
    (hco : scope.isCoroutine = false) (hdot : scope.names.lookup (".0" : Str) = some NameKind.local) (nocell : ∀ y ∈ scope.names, y.2 ≠ .cell) (ok : BlkOk X.N X.env.scope scope own) (hi : PI X tg iter wi)
    (hg : ∀ (A' : Around) (s : Shared) (H : Hp) (C : Addr) (cl : List (Str × Addr)) (code : Value) (fp : List Addr), Room k A' → A'.guards = X.A.guards → PG (gblk X A' s H (genEnv scope cl C code builtinsNs X.env) fp) tg g)
    (ht : ∀ (A' : Around) (s : Shared) (H : Hp) (C : Addr) (cl : List (Str × Addr)) (code : Value) (fp : List Addr), Room k A' → A'.guards = X.A.guards → PTs (gblk X A' s H (genEnv scope cl C code builtinsNs X.env) fp) ifs tt)
    (he : ∀ (A' : Around) (s : Shared) (H : Hp) (C : Addr) (cl : List (Str × Addr)) (code : Value) (fp : List Addr), Room k A' → A'.guards = X.A.guards → PE (gblk X A' s H (genEnv scope cl C code builtinsNs X.env) fp) elt te)
    (hs : ∀ v, genFold iter X.env v = pure v)
    (hst : starEach [.GeneratorExp elt [⟨tg, iter, ifs, 0⟩] scope gpos] X.env = (false, eval (.GeneratorExp elt [⟨tg, iter, ifs, 0⟩] scope gpos) X.env) :: starEach [] X.env := by rfl) :
    PE X (.Call (.Name "sum" p) [.GeneratorExp elt [⟨tg, iter, ifs, 0⟩] scope gpos] [] pos) (tSumX P wi g tt te (own.map (·.2))) := by
  refine ⟨fun pins s σ H Q I h => ?_⟩
  refine wpAny_Call_Name_kw (ld_blt I hgl hm hb ?_)
  refine PyProof.Rows.callWith_builtin1 ?_ hst (by rfl)
  rw [hst]
  show wpAny _ _ (spliced ((false, eval (.GeneratorExp elt [⟨tg, iter, ifs, 0⟩] scope gpos) X.env) :: backTo pos (starEach [] X.env))) _ _ s
  refine Calls.spliced_cons (gx_make (A := X.A.in1.in1) hr ⟨rfl, rfl, rfl, rfl, (by show X.A.units + 1 + 1 ≤ _; omega)⟩ hc hN TB hcode hco hdot nocell ok hi hg ht he hs I h fun J H1 H2 u s5 hR hT hG => ?_)
  obtain ⟨A', s_0, H_0, cenv, fp, ga, gn, go, tn, gs, rfl, hGO, hgs, hbare, I5, st5, nf, hlt, keep, back, goes⟩ := hG
  obtain ⟨W, ⟨m, w0⟩, turn⟩ := hR H2 hT
  refine Calls.spliced_nil ?_
  have pin5 := (I5.pin (ga, go) (List.mem_append_right _ List.mem_cons_self)).1
  have glt : ga < s5.heap.objs.size := Heap.lt_size pin5
  have hSI : s5.heap.objs.size ≠ ga := Nat.ne_of_gt glt
  refine call_function_tree F.kind_sum F.plain_sum F.entry_sum (F.args_sum1 _) ?_
  unfold Builtin.«sum»
  simp only [List.length_cons, List.length_nil]
  rw [if_neg (by decide)]
  refine wpAny_bind (wpAny_of_eq (show Builtin.Builtins.bindParams "sum" ["start"] 0 { } = pure [none] from rfl) ?_)
  refine wpAny_bind (wpAny_pyIter_gen (hGO.isGen pin5) ?_)
  refine wpAny_bind (wpAny_mkInt ?_)
  refine wpAny_bind (wpAny_pure ?_)
  simp only [List.forIn_cons, List.forIn_nil]
  refine wpAny_bind (wpAny_bind (wpAny_bind (wpAny_isInstance (T := "int") (b := false) (typeIs_int _ _ _) PySem.sub_int_str ?_)))
  simp only [Bool.false_eq_true, if_false]
  refine wpAny_pure (wpAny_bind (wpAny_bind (wpAny_isInstance (T := "int") (b := false) (typeIs_int _ _ _) PySem.sub_int_bytes ?_)))
  simp only [Bool.false_eq_true, if_false]
  refine wpAny_pure (wpAny_bind (wpAny_bind (wpAny_isInstance (T := "int") (b := false) (typeIs_int _ _ _) PySem.sub_int_bytearray ?_)))
  simp only [Bool.false_eq_true, if_false]
  refine wpAny_pure (wpAny_pure ?_)
  refine wpAny_bind (wpAny_newObj_type ?_)
  have k1 : ∀ b o, s5.heap.get? b = some o → (s5.heap.push { cls := .type "list", data := .seq [Value.int 0 s5.toks].toArray }).get? b = some o := fun b o e => Heap.get?_push_of_some _ e
  have hS₁ : (s5.heap.push { cls := .type "list", data := .seq [Value.int 0 s5.toks].toArray }).get? s5.heap.objs.size = some (lstObj #[.int 0 s5.toks] 0) := Heap.get?_push_size _ rfl
  have fS : FpOk (gblk X A' s_0 H_0 cenv fp) [(ga, go)] H2 s5.heap.objs.size := I5.fpOk (Nat.le_refl _) (I5.hok.fresh (Nat.le_refl _))
  have hfS : ∀ b ∈ fp, b ≠ s5.heap.objs.size := fun b hb => Nat.ne_of_lt (Nat.lt_trans (hlt b hb) glt)
  have I6 := inv_moved (s' := { s5 with toks := s5.toks + 1, heap := s5.heap.push { cls := .type "list", data := .seq [Value.int 0 s5.toks].toArray } }) I5 rfl I5.bare k1
  refine wpAny_pure ⟨plainId_quiet F.plain_sum_loop _, sum_gx (A' := A') (s_0 := s_0) (H_0 := H_0) (cenv := cenv) (fp := fp) (tn := tn) (go := go) (gn := gn) (End := fun a H => Q (.int a) H) hr.hd hr.depth hGO hSI (Nat.le_trans I5.sz (Nat.le_refl _)) fS.2.2.2.2.1 keep hfS
    (fun σ' H' a t cp s1 I1 q => ⟨.int a, H', back _ _ _ _ I1, ⟨t, rfl⟩, q⟩) (m + 1) _ 0 s5.toks 0 I6.nolimit (k1 _ _ pin5) hS₁ ⟨gs, hgs, ?_⟩⟩
  refine goes Int (ACs ga go s5.heap.objs.size) _ YdS W m (m + 1) 0 [(ga, go), (s5.heap.objs.size, lstObj #[.int 0 s5.toks] 0)] _ turn w0 (Nat.lt_succ_self _) (fun a cp hac p hp b hb z => ?_) ⟨_, _, rfl⟩
    (inv_moved (I6.pins_of fun p hp => ?_) rfl (allBare_setGen (s := { s5 with toks := s5.toks + 1, heap := _ }) I5.bare rfl) fun _ _ q => q) (keep _ _ _ st5 fun b hb o q => k1 b o q)
  · obtain ⟨t, c, rfl⟩ := hac
    rcases List.mem_cons.mp hp with e | e
    · rw [e] at z
      exact absurd (hlt b hb) (by rw [← z]; exact Nat.lt_irrefl _)
    · rw [List.mem_singleton.mp e] at z
      exact hfS b hb z.symm
  · rcases List.mem_cons.mp hp with e | e
    · rw [e]
      exact I6.pin (ga, go) (List.mem_append_right _ List.mem_cons_self)
    · rw [List.mem_singleton.mp e]
      exact ⟨hS₁, fS.1, fS.2.1, fS.2.2.1, fun v q => by cases q⟩
end
end GxS

/-! ### sizes of what is shown -/
def fineB (n m : Nat) (d : PyData) : Bool := d.showable && (d.leavesShort 200 && (decide (d.weight ≤ n) && decide (d.depth ≤ m)))
theorem fine_iff {n m : Nat} {d : PyData} : fineB n m d = true ↔ d.showable = true ∧ d.leavesShort 200 = true ∧ d.weight ≤ n ∧ d.depth ≤ m := by
  unfold fineB
  rw [Bool.and_eq_true, Bool.and_eq_true, Bool.and_eq_true, decide_eq_true_eq, decide_eq_true_eq]
theorem fine_mono {n m n' m' : Nat} {d : PyData} (h : fineB n m d = true) (a : n ≤ n') (b : m ≤ m') : fineB n' m' d = true := by
  obtain ⟨h1, h2, h3, h4⟩ := fine_iff.mp h
  exact fine_iff.mpr ⟨h1, h2, Nat.le_trans h3 a, Nat.le_trans h4 b⟩
theorem fine_fits {n m : Nat} {d : PyData} (h : fineB n m d = true) (hn : n ≤ 50000) : d.shown.length ≤ sizeLine := by
  obtain ⟨_, h2, h3, _⟩ := fine_iff.mp h
  have := PyData.shown_le 200 (by decide) d h2
  have e : sizeLine = 16777216 := by decide
  rw [e]
  omega
theorem fine_all {n m : Nat} : ∀ {ds : List PyData}, (∀ d ∈ ds, fineB n m d = true) → PyData.showableAll ds = true ∧ PyData.leavesShortAll 200 ds = true ∧ PyData.weightAll ds ≤ ds.length * (n + 1) ∧ PyData.depthAll ds ≤ m
  | [], _ => ⟨rfl, rfl, Nat.zero_le _, Nat.zero_le _⟩
  | d :: r, h => by
    obtain ⟨a1, a2, a3, a4⟩ := fine_iff.mp (h d (List.mem_cons_self ..))
    obtain ⟨b1, b2, b3, b4⟩ := fine_all (ds := r) fun x hx => h x (List.mem_cons_of_mem _ hx)
    refine ⟨?_, ?_, ?_, ?_⟩
    · unfold PyData.showableAll
      rw [a1, b1]
      rfl
    · unfold PyData.leavesShortAll
      rw [a2, b2]
      rfl
    · unfold PyData.weightAll
      rw [List.length_cons, Nat.succ_mul]
      omega
    · unfold PyData.depthAll
      omega
theorem fine_tup {n m k : Nat} {ds : List PyData} (h : ∀ d ∈ ds, fineB n m d = true) (hk : ds.length ≤ k) : fineB (k * (n + 1)) (m + 1) (.tuple ds) = true := by
  obtain ⟨b1, b2, b3, b4⟩ := fine_all h
  refine fine_iff.mpr ⟨b1, b2, ?_, ?_⟩
  · show PyData.weightAll ds ≤ _
    exact Nat.le_trans b3 (Nat.mul_le_mul_right _ hk)
  · show PyData.depthAll ds + 1 ≤ _
    omega
theorem fine_lst {n m k : Nat} {ds : List PyData} (h : ∀ d ∈ ds, fineB n m d = true) (hk : ds.length ≤ k) : fineB (k * (n + 1)) (m + 1) (.list ds) = true := by
  obtain ⟨b1, b2, b3, b4⟩ := fine_all h
  refine fine_iff.mpr ⟨b1, b2, ?_, ?_⟩
  · show PyData.weightAll ds ≤ _
    exact Nat.le_trans b3 (Nat.mul_le_mul_right _ hk)
  · show PyData.depthAll ds + 1 ≤ _
    omega

mutual
theorem Sh.gr {H H' : Hp} (s : Gr H H') : ∀ {v : V} {d : PyData}, Sh H v d → Sh H' v d
  | _, _, .non => .non
  | _, _, .bl b => .bl b
  | _, _, .int i => .int i
  | _, _, .str x => .str x
  | _, _, .lst h n t => .lst (s.lst h) n (t.gr s)
  | _, _, .tup h t => .tup (s.tup h) (t.gr s)
  | _, _, .dic h t => .dic (s.1 _ _ (fun _ z => by cases z) h) (t.gr s)
theorem ShAll.gr {H H' : Hp} (s : Gr H H') : ∀ {vs : List V} {ds : List PyData}, ShAll H vs ds → ShAll H' vs ds
  | _, _, .nil => .nil
  | _, _, .cons h t => .cons (h.gr s) (t.gr s)
end
theorem ShAll.get {H : Hp} : ∀ {xs : List V} {ds : List PyData} {j : Nat} {x : V}, ShAll H xs ds → xs[j]? = some x → ∃ d, ds[j]? = some d ∧ Sh H x d
  | _, _, _, _, .nil, h => by simp at h
  | _, _, 0, _, .cons (d := d) a _, h => by
    cases (Option.some.inj h)
    exact ⟨d, rfl, a⟩
  | _, _, j + 1, _, .cons _ t, h => t.get h
theorem ShAll.append {H : Hp} : ∀ {xs ys : List V} {ds es : List PyData}, ShAll H xs ds → ShAll H ys es → ShAll H (xs ++ ys) (ds ++ es)
  | _, _, _, _, .nil, t => t
  | _, _, _, _, .cons a r, t => .cons a (r.append t)
theorem ShAll.take {H : Hp} : ∀ {xs : List V} {ds : List PyData} (n : Nat), ShAll H xs ds → ShAll H (xs.take n) (ds.take n)
  | _, _, 0, _ => by rw [List.take_zero, List.take_zero]; exact .nil
  | _, _, n + 1, .nil => .nil
  | _, _, n + 1, .cons a r => .cons a (r.take n)
theorem ShAll.drop {H : Hp} : ∀ {xs : List V} {ds : List PyData} (n : Nat), ShAll H xs ds → ShAll H (xs.drop n) (ds.drop n)
  | _, _, 0, h => h
  | _, _, n + 1, .nil => .nil
  | _, _, n + 1, .cons _ r => r.drop n
theorem notT {b : Bool} (h : (!b) = true) : ¬ b = true := by cases b <;> simp_all
theorem notF {b : Bool} (h : ¬ (!b) = true) : b = true := by cases b <;> simp_all

section
variable {P : Program} {w : World} {K : PySem.W.Frag} {mg : Str → Option Value} {base : Heap}
/-! ### kinds of data -/
def isIntD : PyData → Bool
  | .int _ => true
  | .bool _ => true
  | _ => false
def isBoolD : PyData → Bool
  | .bool _ => true
  | _ => false
def isTupD : PyData → Bool
  | .tuple _ => true
  | _ => false
def isStrD : PyData → Bool
  | .str _ => true
  | _ => false
theorem kitInt : ∀ d : PyData, kitB (tyD d) "int" = some (isIntD d)
  | .none => (by decide +kernel : kitB "NoneType" "int" = some false)
  | .bool _ => (by decide +kernel : kitB "bool" "int" = some true)
  | .int _ => (by decide +kernel : kitB "int" "int" = some true)
  | .str _ => (by decide +kernel : kitB "str" "int" = some false)
  | .list _ => (by decide +kernel : kitB "list" "int" = some false)
  | .tuple _ => (by decide +kernel : kitB "tuple" "int" = some false)
  | .dict _ => (by decide +kernel : kitB "dict" "int" = some false)
theorem kitBool : ∀ d : PyData, kitB (tyD d) "bool" = some (isBoolD d)
  | .none => (by decide +kernel : kitB "NoneType" "bool" = some false)
  | .bool _ => (by decide +kernel : kitB "bool" "bool" = some true)
  | .int _ => (by decide +kernel : kitB "int" "bool" = some false)
  | .str _ => (by decide +kernel : kitB "str" "bool" = some false)
  | .list _ => (by decide +kernel : kitB "list" "bool" = some false)
  | .tuple _ => (by decide +kernel : kitB "tuple" "bool" = some false)
  | .dict _ => (by decide +kernel : kitB "dict" "bool" = some false)
theorem kitTup : ∀ d : PyData, kitB (tyD d) "tuple" = some (isTupD d)
  | .none => (by decide +kernel : kitB "NoneType" "tuple" = some false)
  | .bool _ => (by decide +kernel : kitB "bool" "tuple" = some false)
  | .int _ => (by decide +kernel : kitB "int" "tuple" = some false)
  | .str _ => (by decide +kernel : kitB "str" "tuple" = some false)
  | .list _ => (by decide +kernel : kitB "list" "tuple" = some false)
  | .tuple _ => (by decide +kernel : kitB "tuple" "tuple" = some true)
  | .dict _ => (by decide +kernel : kitB "dict" "tuple" = some false)
theorem kitStr : ∀ d : PyData, kitB (tyD d) "str" = some (isStrD d)
  | .none => (by decide +kernel : kitB "NoneType" "str" = some false)
  | .bool _ => (by decide +kernel : kitB "bool" "str" = some false)
  | .int _ => (by decide +kernel : kitB "int" "str" = some false)
  | .str _ => (by decide +kernel : kitB "str" "str" = some true)
  | .list _ => (by decide +kernel : kitB "list" "str" = some false)
  | .tuple _ => (by decide +kernel : kitB "tuple" "str" = some false)
  | .dict _ => (by decide +kernel : kitB "dict" "str" = some false)
def wholeD : PyData → Bool
  | .int _ => true
  | _ => false
def worthD : PyData → Bool
  | .int i => decide (0 ≤ i) && decide (i ≤ 1)
  | _ => false
theorem whole_of : ∀ {d : PyData}, isIntD d = true → wholeD d = !isBoolD d
  | .int _, _ => rfl
  | .bool _, _ => rfl
  | .none, h => by cases h
  | .str _, h => by cases h
  | .list _, h => by cases h
  | .tuple _, h => by cases h
  | .dict _, h => by cases h
theorem whole_not : ∀ {d : PyData}, ¬ isIntD d = true → wholeD d = false
  | .int _, h => absurd rfl h
  | .bool _, h => absurd rfl h
  | .none, _ => rfl
  | .str _, _ => rfl
  | .list _, _ => rfl
  | .tuple _, _ => rfl
  | .dict _, _ => rfl
theorem whole_int : ∀ {d : PyData}, wholeD d = true → ∃ i, d = .int i
  | .int i, _ => ⟨i, rfl⟩
  | .bool _, h => by cases h
  | .none, h => by cases h
  | .str _, h => by cases h
  | .list _, h => by cases h
  | .tuple _, h => by cases h
  | .dict _, h => by cases h
theorem worth_not : ∀ {d : PyData}, ¬ wholeD d = true → worthD d = false
  | .int _, h => absurd rfl h
  | .bool _, _ => rfl
  | .none, _ => rfl
  | .str _, _ => rfl
  | .list _, _ => rfl
  | .tuple _, _ => rfl
  | .dict _, _ => rfl
theorem tup_of : ∀ {d : PyData}, isTupD d = true → ∃ ds, d = .tuple ds
  | .tuple ds, _ => ⟨ds, rfl⟩
  | .bool _, h => by cases h
  | .none, h => by cases h
  | .str _, h => by cases h
  | .list _, h => by cases h
  | .int _, h => by cases h
  | .dict _, h => by cases h
def sp_is_whole (K : PySem.W.Frag) : Sp := fun vs H Q _ => ∃ (v : V) (d : PyData), vs = [v] ∧ Sh H v d ∧ Q (.bl (wholeD d)) H
theorem ok_is_whole (T : Tx K mg) : FnOk P w K mg base CX0 1 T.f_is_whole T.fd_is_whole ["thing"] (sp_is_whole K) := by
  refine T.F_is_whole.ok sc_is_whole (fun vs H Q E h => ?_) (fun cdv A outer s H vs Q E hr h => ?_)
  · obtain ⟨v, d, rfl, _⟩ := h
    rfl
  · obtain ⟨v, d, rfl, sh, q⟩ := h
    refine ⟨_, (pss_one (ps_ret (pe_and (pe_callB call_isi (by rfl) T.m_isinstance (by decide +kernel) (pa_cons (pv 0) (pa_cons (pe_bltn (v := .ty "int") (u := .type "int") (by rfl) T.m_int (by decide +kernel) rfl) pa_nil))) (pe_one (pe_not (pe_callB call_isi (by rfl) T.m_isinstance (by decide +kernel) (pa_cons (pv 0) (pa_cons (pe_bltn (v := .ty "bool") (u := .type "bool") (by rfl) T.m_bool (by decide +kernel) rfl) pa_nil)))))))), ?_⟩
    refine ⟨v, rfl, _, _, _, _, _, rfl, .ty _, sh.ty, kit_ty (kitInt d), _, rfl, ite2 (fun e => ?_) (fun e => ?_)⟩
    · refine ⟨v, rfl, _, _, _, _, _, rfl, .ty _, sh.ty, kit_ty (kitBool d), _, rfl, ?_⟩
      rw [← whole_of e]
      exact q
    · rw [whole_not e] at q
      exact q

def sp_is_worth (K : PySem.W.Frag) : Sp := fun vs H Q _ => ∃ (v : V) (d : PyData), vs = [v] ∧ Sh H v d ∧ Q (.bl (worthD d)) H
theorem ok_is_worth (T : Tx K mg) : FnOk P w K mg base CX0 2 T.f_is_worth T.fd_is_worth ["thing"] (sp_is_worth K) := by
  refine T.F_is_worth.ok sc_is_worth (fun vs H Q E h => ?_) (fun cdv A outer s H vs Q E hr h => ?_)
  · obtain ⟨v, d, rfl, _⟩ := h
    rfl
  · obtain ⟨v, d, rfl, sh, q⟩ := h
    refine ⟨_, (pss_one (ps_ret (pe_and (pe_call (ok_is_whole T) (hr.mono (by decide)) (by rfl) T.g_is_whole T.F_is_whole.kp T.b_is_whole .nil pass0 (pa_cons (pv 0) pa_nil)) (pe_one (pe_chain op_le op_le pe_int (pv 0) pe_int))))), ?_⟩
    refine ⟨v, rfl, v, d, rfl, sh, _, rfl, ite2 (fun e => ?_) (fun e => ?_)⟩
    · obtain ⟨i, rfl⟩ := whole_int e
      cases sh
      replace q : Q (.bl (decide (0 ≤ i) && decide (i ≤ 1))) H := q
      refine ⟨.int i, rfl, 0, i, rfl, rfl, _, rfl, ite2 (fun e1 => ?_) (fun e1 => ?_)⟩
      · refine ⟨i, 1, rfl, rfl, ?_⟩
        rw [e1, Bool.true_and] at q
        exact q
      · rw [Bool.eq_false_iff.mpr e1, Bool.false_and] at q
        exact q
    · rw [worth_not e] at q
      exact q

/-! ### what a wave is worth at a time -/
def doneM (ts : List Int) (x : Int) : Nat := (ts.filter fun t => decide (t ≤ x)).length
def sp_worth_at (T : Tx K mg) : Sp := fun vs H Q _ => ∃ (c t : Addr) (f x : Int) (ts : List Int), vs = [.ref c, .int x] ∧ H c = some (.tup [.int f, .ref t]) ∧ H t = some (.tup (ts.map V.int)) ∧ (f = 0 ∨ f = 1) ∧ ts.length ≤ 1000000 ∧ GxR.TabG H T.P_worth_at ∧ ∀ H', Gr H H' → Q (.int (if (f = 1) = ((doneM ts x) % 2 = 1) then 0 else 1)) H'
theorem ok_worth_at (T : Tx K mg) (B : Tb base T) : FnOk P w K mg base CX0 2 T.f_worth_at T.fd_worth_at ["wave", "time"] (sp_worth_at T) := by
  refine okC T.F_worth_at sc_worth_at (fun vs H Q E h => ?_) (fun A outer s H vs Q E hr h => ?_)
  · obtain ⟨c, t, f, x, ts, rfl, _⟩ := h
    rfl
  · obtain ⟨c, t, f, x, ts, rfl, hc, ht, hf, hl, tab, q⟩ := h
    refine ⟨_, (pss_cons (ps_asg (pv 0) (pg_tup rfl (pgs_cons (pg_name (i := 2) sc_worth_at.nd rfl (by first | exact .inl rfl | exact .inr rfl)) (pgs_cons (pg_name (i := 3) sc_worth_at.nd rfl (by first | exact .inl rfl | exact .inr rfl)) pgs_nil)))) (pss_cons (ps_set (i := 4) sc_worth_at.nd rfl (by first | exact .inl rfl | exact .inr rfl) (GxS.pe_sumX (own := [("turn", 5)]) (k := 0) (hr.mono (by decide)) rfl sc_worth_at.nd (by rfl) T.m_sum (by decide +kernel) B.TB_worth_at T.cd_worth_at rfl rfl (by decide +kernel) (blkOk_by (own := [("turn", 5)]) (N := ["wave", "time", "first", "times", "done", "turn"]) (sc := defScope s_worth_at) (by decide +kernel)) (pi_tup (pv 3)) (fun _ _ _ _ _ _ _ hr gd => (pg_name (i := 5) sc_worth_at.nd rfl (by first | exact .inl rfl | exact .inr rfl))) (fun _ _ _ _ _ _ _ hr gd => (pts_one (pt_cmpR op_le (pv 5) (pv 1) (nomark _)))) (fun _ _ _ _ _ _ _ hr gd => pe_int) (fun _ => rfl))) (pss_one (ps_ret (pe_op op_xor (pv 2) (pe_op op_odd (pv 4) pe_int)))))), ?_⟩
    refine ⟨.ref c, rfl, c, _, rfl, SqT.of hc, rfl, _, _, rfl, _, _, rfl, rfl, ?_⟩
    refine ⟨.ref t, rfl, t, rfl, ⟨_, SqT.of ht⟩, tab, fun H2 tb2 => ?_⟩
    have g2 := Gr.tab tab tb2
    have lV : (ts.map V.int).length = ts.length := List.length_map ..
    refine gx_tup (K := K) (a := t) (xs := ts.map V.int) (fun i acc H' => Gr H H' ∧ acc = ((((ts.take i).filter fun t => decide (t ≤ x)).length : Nat) : Int)) ⟨g2, rfl⟩ (fun i ys H' _ hP => SqT.of (hP.1.tup ht)) ?_ ?_
    · rintro i v acc H3 hv ⟨g3, rfl⟩
      obtain ⟨u, hu, rfl⟩ : ∃ u, ts[i]? = some u ∧ v = V.int u := by
        rw [List.getElem?_map] at hv
        obtain ⟨u, hu, e⟩ := Option.map_eq_some_iff.mp hv
        exact ⟨u, hu, e.symm⟩
      have hi : i < ts.length := (List.getElem?_eq_some_iff.mp hu).1
      have lf : ((ts.take i).filter fun t => decide (t ≤ x)).length ≤ i := Nat.le_trans (List.length_filter_le ..) (by rw [List.length_take]; omega)
      have step : (ts.take (i + 1)).filter (fun t => decide (t ≤ x)) = (ts.take i).filter (fun t => decide (t ≤ x)) ++ (if decide (u ≤ x) = true then [u] else []) := by
        rw [List.take_add_one, hu, List.filter_append]
        congr 1
        show List.filter _ [u] = _
        rw [List.filter_cons, List.filter_nil]
      refine ⟨rfl, .int u, rfl, .int x, rfl, _, _, rfl, rfl, _, rfl, ite2 (fun e => ?_) (fun e => ⟨g3, ?_⟩)⟩
      · refine ⟨1, rfl, ⟨by decide, by decide⟩, ⟨by omega, by omega⟩, g3, ?_⟩
        rw [step, if_pos e, List.length_append]
        push_cast
        rfl
      · rw [step, if_neg e, List.append_nil]
    · rintro acc H3 ⟨g3, rfl⟩
      rw [lV, List.take_length]
      refine ⟨.int f, rfl, .int ((ts.filter fun t => decide (t ≤ x)).length : Nat), rfl, _, rfl, rfl, ?_⟩
      have r := q H3 g3
      have ex : ∀ k : Nat, Builtin.bitXor f ((k % 2 : Nat) : Int) = (if (f = 1) = (k % 2 = 1) then 0 else 1) := fun k => by
        have : k % 2 = 0 ∨ k % 2 = 1 := by omega
        rcases hf with rfl | rfl <;> rcases this with z | z <;> rw [z] <;> decide
      refine ⟨_, _, rfl, rfl, ?_⟩
      show Q (V.int (Builtin.bitXor f (((ts.filter fun t => decide (t ≤ x)).length % 2 : Nat) : Int))) H3
      rw [ex]
      exact r

end
end Gk

set_option Elab.async false
set_option linter.all false
set_option maxRecDepth 100000
set_option maxHeartbeats 1000000
namespace Gk
open PySem PySem.Spec PyProof.Rows L2
/-! ### zip of two or three texts, tuples, lists -/
namespace ZpG
open PySem PySem.Spec PyProof.Rows L2
inductive ZS where
  | tx (x : PySem.Str)
  | tu (a : Addr)
  | li (a : Addr)
def ZS.val : ZS → V
  | .tx x => .str x
  | .tu a => .ref a
  | .li a => .ref a
def ZS.at (K : PySem.W.Frag) : ZS → Hp → List V → Prop
  | .tx x, _, xs => xs = x.cps.toList.map fun c => V.str ⟨#[c]⟩
  | .tu a, H, xs => SqT K H a xs
  | .li a, H, xs => SqL K H a xs
def ZS.it : ZS → Addr → Nat → Heap → Prop
  | .tx x, it, i, h => ∃ t, h.IsStrIter it (strIterType x) x t i
  | .tu a, it, i, h => h.IsTupleIter it a i
  | .li a, it, i, h => h.IsListIter it a i
def ZS.lt : ZS → Nat → Prop
  | .tx _, _ => True
  | .tu a, n => a < n
  | .li a, n => a < n
def ZS.off : ZS → Addr → Prop
  | .tx _, _ => True
  | .tu a, c => a ≠ c
  | .li a, c => a ≠ c
theorem ne' {a b : Nat} (h : a ≠ b) : @Ne Addr a b := h
theorem ZS.off_of {n c : Nat} (hc : n ≤ c) : ∀ {z : ZS}, z.lt n → z.off c
  | .tx _, _ => trivial
  | .tu _, h => Nat.ne_of_lt (Nat.lt_of_lt_of_le h hc)
  | .li _, h => Nat.ne_of_lt (Nat.lt_of_lt_of_le h hc)
theorem ZS.obj {it : Addr} {i : Nat} {h : Heap} : ∀ {z : ZS}, z.it it i h → ∃ o, h.get? it = some o ∧ ∀ v, o.data ≠ .cell v
  | .tx _, ⟨_, o, e, _, d⟩ => ⟨o, e, fun v q => by rw [d] at q; cases q⟩
  | .tu _, ⟨o, e, _, d⟩ => ⟨o, e, fun v q => by rw [d] at q; cases q⟩
  | .li _, ⟨o, e, _, d⟩ => ⟨o, e, fun v q => by rw [d] at q; cases q⟩
theorem ZS.move {it : Addr} {i : Nat} {h h' : Heap} (k : ∀ o, h.get? it = some o → h'.get? it = some o) : ∀ {z : ZS}, z.it it i h → z.it it i h'
  | .tx _, ⟨t, o, e, r⟩ => ⟨t, o, k o e, r⟩
  | .tu _, ⟨o, e, r⟩ => ⟨o, k o e, r⟩
  | .li _, ⟨o, e, r⟩ => ⟨o, k o e, r⟩
section
variable {X : Cx} {pins : List (Addr × Obj)} {σ : L2.St} {H : Hp} {s : Shared}
theorem ZS.inj (I : Inv X pins σ H s) {z : ZS} {xs ys : List V} (h1 : z.at X.K H xs) (h2 : z.at X.K H ys) : xs = ys := by
  cases z with
  | tx x =>
    have e1 : xs = _ := h1
    have e2 : ys = _ := h2
    rw [e1, e2]
  | tu a => exact I.tuple_inj h1 h2
  | li a => exact I.list_inj h1 h2
theorem ZS.draws {A : Around} {it : Addr} {i : Nat} {xs : List V} (z : ZS) (I : Inv X pins σ H s) (hq : z.at X.K H xs) (hh : A.handled = none) (off : z.off it) (st : z.it it i s.heap) :
    ∃ (fp : List Addr) (P : Nat → Value → Prop) (St : Nat → Heap → Prop), Draws X.prog X.w A it fp xs.length P St ∧ it ∈ fp ∧ (∀ c, c ∈ fp → c = it ∨ ¬ z.off c) ∧ St i s.heap ∧ (∀ j h, St j h → z.it it j h) ∧ ∀ j v, P j v → ∃ x, xs[j]? = some x ∧ RelV x v := by
  cases z with
  | tx x =>
    obtain ⟨t, st⟩ := st
    have e : xs = x.cps.toList.map fun c => V.str ⟨#[c]⟩ := hq
    have el : xs.length = x.cps.size := by rw [e, List.length_map, Array.length_toList]
    refine ⟨[it], fun i v => ∃ c u, x.cps[i]? = some c ∧ v = .str ⟨#[c]⟩ u, fun i h => h.IsStrIter it (strIterType x) x t i, ?_, List.mem_cons_self, fun c hc => .inl (List.mem_singleton.mp hc), st, fun j h q => ⟨t, q⟩, fun j v p => ?_⟩
    · rw [el]
      exact Draws.text hh it x t
    · obtain ⟨c, u, hc, rfl⟩ := p
      refine ⟨.str ⟨#[c]⟩, ?_, ⟨u, rfl⟩⟩
      rw [e, List.getElem?_map, Array.getElem?_toList, hc]
      rfl
  | tu a =>
    obtain ⟨its, rv, p, _⟩ := I.tuple hq
    have hl := rv.length
    refine ⟨[it, a], fun i v => its.toArray[i]? = some v, fun i h => h.IsTupleIter it a i ∧ h.IsTuple a its.toArray, ?_, List.mem_cons_self, fun c hc => ?_, ⟨st, p⟩, fun j h q => q.1, fun j v q => ?_⟩
    · rw [hl, ← List.size_toArray]
      exact Draws.tuple hh it a off its.toArray
    · rcases List.mem_cons.mp hc with e | e
      · exact .inl e
      · refine .inr fun q => ?_
        rw [List.mem_singleton.mp e] at q
        exact q rfl
    · have q : its[j]? = some v := by simpa using q
      have hj := (List.getElem?_eq_some_iff.mp q).1
      have hx : xs[j]? = some (xs[j]'(by omega)) := List.getElem?_eq_getElem _
      obtain ⟨u, hu, ru⟩ := rv.get hx
      rw [q] at hu
      cases Option.some.inj hu
      exact ⟨_, hx, ru⟩
  | li a =>
    obtain ⟨its, rv, p, _⟩ := I.list hq
    have hl := rv.length
    refine ⟨[it, a], fun i v => its.toArray[i]? = some v, fun i h => h.IsListIter it a i ∧ h.IsList a its.toArray, ?_, List.mem_cons_self, fun c hc => ?_, ⟨st, p.isList⟩, fun j h q => q.1, fun j v q => ?_⟩
    · rw [hl, ← List.size_toArray]
      exact Draws.list hh it a off its.toArray
    · rcases List.mem_cons.mp hc with e | e
      · exact .inl e
      · refine .inr fun q => ?_
        rw [List.mem_singleton.mp e] at q
        exact q rfl
    · have q : its[j]? = some v := by simpa using q
      have hj := (List.getElem?_eq_some_iff.mp q).1
      have hx : xs[j]? = some (xs[j]'(by omega)) := List.getElem?_eq_getElem _
      obtain ⟨u, hu, ru⟩ := rv.get hx
      rw [q] at hu
      cases Option.some.inj hu
      exact ⟨_, hx, ru⟩
theorem ZS.begins {v : Value} {xs : List V} (z : ZS) (I : Inv X pins σ H s) (hq : z.at X.K H xs) (r : RelV z.val v) : ∃ o Hh, Begins v o Hh ∧ Hh s.heap ∧ (∀ it h, h.get? it = some o → z.it it 0 h) ∧ z.lt s.heap.objs.size := by
  cases z with
  | tx x =>
    obtain ⟨t, rfl⟩ := (show ∃ t, v = Value.str x t from r)
    exact ⟨_, _, begins_text x t, trivial, fun it h e => ⟨t, _, e, rfl, rfl⟩, trivial⟩
  | tu a =>
    cases (show v = Value.ref a from r)
    obtain ⟨its, rv, p, _⟩ := I.tuple hq
    obtain ⟨o1, ho1, _⟩ := id p
    exact ⟨_, _, begins_tuple a its.toArray, p, fun it h e => ⟨_, e, rfl, rfl⟩, Heap.lt_size ho1⟩
  | li a =>
    cases (show v = Value.ref a from r)
    obtain ⟨its, rv, p, _⟩ := I.list hq
    exact ⟨_, _, begins_list a its.toArray, p.isList, fun it h e => ⟨_, e, rfl, rfl⟩, p.lt⟩
end
def Itz2 (K : PySem.W.Frag) (z1 z2 : ZS) : It :=
  ⟨fun i H => ∃ (xs1 xs2 : List V) (x1 x2 : V), z1.at K H xs1 ∧ z2.at K H xs2 ∧ xs1[i]? = some x1 ∧ xs2[i]? = some x2,
    fun i H v H' => ∃ T x1 x2, v = .ref T ∧ H T = none ∧ H' = upd H T (.tup [x1, x2]) ∧ (∀ xs, z1.at K H xs → xs[i]? = some x1) ∧ (∀ xs, z2.at K H xs → xs[i]? = some x2),
    fun i H => ∃ xs1 xs2 : List V, z1.at K H xs1 ∧ z2.at K H xs2 ∧ i ≤ xs1.length ∧ i ≤ xs2.length ∧ (i = xs1.length ∨ i = xs2.length)⟩
theorem turn_zip2 {P : Program} {w : World} {K : PySem.W.Frag} {elts : List Expr} {kk : Nat} {tpos : Pos} {z1 z2 : ZS} {n : Nat} (l1 : z1.lt n) (l2 : z2.lt n) :
    Turn P w K (.Tuple elts kk tpos) (Itz2 K z1 z2) [n + 4, n + 2, n + 3, n, n + 1] (n + 4) (fun i h => IsZip h (n + 4) (n + 2) (n + 3) .none ∧ IsTupOf2 h (n + 2) (.ref (n)) (.ref (n + 1)) ∧ (∃ x1 x2, IsTupOf2 h (n + 3) x1 x2) ∧ z1.it (n) i h ∧ z2.it (n + 1) i h) where
  mem := List.mem_cons_self
  obj := fun i h st c hc => by
    obtain ⟨hz, hTI, ⟨x1, x2, hTO⟩, st1, st2⟩ := st
    have e' : c = n + 4 ∨ c = n + 2 ∨ c = n + 3 ∨ c = n ∨ c = n + 1 := by simpa using hc
    rcases e' with q | q | q | q | q
    · rw [q]; exact ⟨_, hz, fun v q => nomatch q⟩
    · rw [q]; exact ⟨_, hTI, fun v q => nomatch q⟩
    · rw [q]; exact ⟨_, hTO, fun v q => nomatch q⟩
    · rw [q]; exact ZS.obj (z := z1) st1
    · rw [q]; exact ZS.obj (z := z2) st2
  keep := fun i h h' st k => by
    obtain ⟨hz, hTI, ⟨x1, x2, hTO⟩, st1, st2⟩ := st
    exact ⟨k _ (by simp) _ hz, k _ (by simp) _ hTI, ⟨x1, x2, k _ (by simp) _ hTO⟩, ZS.move (z := z1) (fun o q => k _ (by simp) o q) st1, ZS.move (z := z2) (fun o q => k _ (by simp) o q) st2⟩
  item := by
    intro X hP hw hK hc i pins s σ H E I hf st hg
    subst hP hw hK
    obtain ⟨hz, hTI, ⟨y1, y2, hTO⟩, st1, st2⟩ := st
    obtain ⟨xs1, xs2, x1, x2, q1, q2, h1, h2⟩ := hg
    have hh : X.A.in1.handled = none := I.ok.hd hc
    obtain ⟨fp1, P1, St1, D1, m1, f1, s1, b1, p1⟩ := z1.draws (A := X.A.in1) I q1 hh (ZS.off_of (by omega) l1) st1
    have nf1 : ∀ c, n ≤ c → c ≠ n → c ∉ fp1 := fun c h1 h2 h3 => by
      rcases f1 c h3 with e | e
      · exact h2 e
      · exact e (ZS.off_of h1 l1)
    obtain ⟨fp2, P2, St2, D2, m2, f2, s2, b2, p2⟩ := z2.draws (A := X.A.in1) I q2 hh (ZS.off_of (by omega) l2) st2
    have nf2 : ∀ c, n ≤ c → c ≠ n + 1 → c ∉ fp2 := fun c h1 h2 h3 => by
      rcases f2 c h3 with e | e
      · exact h2 e
      · exact e (ZS.off_of h1 l2)
    have t1 : i < xs1.length := (List.getElem?_eq_some_iff.mp h1).1
    have t2 : i < xs2.length := (List.getElem?_eq_some_iff.mp h2).1
    have hzl : n + 4 < s.heap.objs.size := Heap.lt_size hz
    have S : ZipSep2 (n + 4) (n + 2) (n + 3) (n) (n + 1) fp1 fp2 := { TIz := (ne' (a := n + 2) (b := n + 4) (by omega)), TOz := (ne' (a := n + 3) (b := n + 4) (by omega)), TITO := (ne' (a := n + 2) (b := n + 3) (by omega)), TIi1 := (ne' (a := n + 2) (b := n) (by omega)), mem1 := m1, zf1 := nf1 (n + 4) (by omega) (ne' (a := n + 4) (b := n) (by omega)), Tf1 := nf1 (n + 3) (by omega) (ne' (a := n + 3) (b := n) (by omega)), TIi2 := (ne' (a := n + 2) (b := n + 1) (by omega)), mem2 := m2, zf2 := nf2 (n + 4) (by omega) (ne' (a := n + 4) (b := n + 1) (by omega)), Tf2 := nf2 (n + 3) (by omega) (ne' (a := n + 3) (b := n + 1) (by omega)), sep1_2 := nf2 (n) (by omega) (ne' (a := n) (b := n + 1) (by omega)), sep2_1 := nf1 (n + 1) (by omega) (ne' (a := n + 1) (b := n) (by omega)) }
    refine wpAny_pyNext_zipD2_item S D1 D2 hz hTI hTO s1 s2 t1 t2 fun u1 u2 h' tk g1 g2 z' TO' w1 w2 hT hsz hk => ?_
    refine ⟨_, rfl, wpAny_letOwnedTupleGo_zip (s := { s with heap := h', toks := tk }) z' fun h'' z'' sb => ?_⟩
    obtain ⟨x1', e1, ru1⟩ := p1 i u1 g1
    rw [h1] at e1
    cases Option.some.inj e1
    obtain ⟨x2', e2, ru2⟩ := p2 i u2 g2
    rw [h2] at e2
    cases Option.some.inj e2
    have hT2 : h''.get? s.heap.objs.size = some { cls := .type "tuple", data := .seq #[u1, u2] } := (sb.2 _ (Nat.ne_of_gt hzl)).trans hT
    have new : ObjOk X.prog X.w (upd H s.heap.objs.size (.tup [x1, x2])) h'' s.heap.objs.size (.tup [x1, x2]) :=
      ⟨by show 2 ≤ sizeLine; decide, [u1, u2], .cons ru1 (.cons ru2 (.nil)), ⟨_, hT2, rfl, _, rfl⟩⟩
    have out5 : ∀ c, c ∉ [n + 4, n + 2, n + 3, n, n + 1] → c ≠ n + 4 ∧ c ≠ n + 3 ∧ c ≠ n ∧ c ≠ n + 1 := fun c hb => ⟨fun q' => hb (by simp [q']), fun q' => hb (by simp [q']), fun q' => hb (by simp [q']), fun q' => hb (by simp [q'])⟩
    have I1 : Inv X pins σ (upd H s.heap.objs.size (.tup [x1, x2])) { s with heap := h'', toks := tk } :=
      I.turnedNew (t' := tk) (ch := [n + 4, n + 2, n + 3, n, n + 1]) (fun c o hb q => by
        obtain ⟨a1, a2, b1', b2'⟩ := out5 c hb
        exact (sb.2 c a1).trans (hk c o a1 a2 b1' b2' q)) hf (Nat.le_refl _) new
    refine ⟨.ref s.heap.objs.size, _, I1, rfl, ⟨_, x1, x2, rfl, I.hok.fresh (Nat.le_refl _), rfl, fun l hl => by rw [ZS.inj I hl q1]; exact h1, fun l hl => by rw [ZS.inj I hl q2]; exact h2⟩, ⟨z'', ?_, ⟨u1, u2, ?_⟩, ?_, ?_⟩, fun c hcm => ?_⟩
    · exact (sb.2 (n + 2) (ne' (a := n + 2) (b := n + 4) (by omega))).trans (hk (n + 2) _ (ne' (a := n + 2) (b := n + 4) (by omega)) (ne' (a := n + 2) (b := n + 3) (by omega)) (ne' (a := n + 2) (b := n) (by omega)) (ne' (a := n + 2) (b := n + 1) (by omega)) hTI)
    · exact (sb.2 (n + 3) (ne' (a := n + 3) (b := n + 4) (by omega))).trans TO'
    · exact ZS.move (z := z1) (fun o q => (sb.2 (n) (ne' (a := n) (b := n + 4) (by omega))).trans q) (b1 _ _ w1)
    · exact ZS.move (z := z2) (fun o q => (sb.2 (n + 1) (ne' (a := n + 1) (b := n + 4) (by omega))).trans q) (b2 _ _ w2)
    · have hlt : c < s.heap.objs.size := by
        have e' : c = n + 4 ∨ c = n + 2 ∨ c = n + 3 ∨ c = n ∨ c = n + 1 := by simpa using hcm
        rcases e' with q | q | q | q | q
        · rw [q]; exact (show (n + 4 : Nat) < s.heap.objs.size by omega)
        · rw [q]; exact (show (n + 2 : Nat) < s.heap.objs.size by omega)
        · rw [q]; exact (show (n + 3 : Nat) < s.heap.objs.size by omega)
        · rw [q]; exact (show (n : Nat) < s.heap.objs.size by omega)
        · rw [q]; exact (show (n + 1 : Nat) < s.heap.objs.size by omega)
      rw [upd_ne (Nat.ne_of_lt hlt)]
      exact (hf c hcm).1
  done := by
    intro X hP hw hK hc i pins s σ H E I hf st hg
    subst hP hw hK
    obtain ⟨hz, hTI, ⟨y1, y2, hTO⟩, st1, st2⟩ := st
    obtain ⟨xs1, xs2, q1, q2, t1, t2, hend⟩ := hg
    have hh : X.A.in1.handled = none := I.ok.hd hc
    obtain ⟨fp1, P1, St1, D1, m1, f1, s1, b1, p1⟩ := z1.draws (A := X.A.in1) I q1 hh (ZS.off_of (by omega) l1) st1
    have nf1 : ∀ c, n ≤ c → c ≠ n → c ∉ fp1 := fun c h1 h2 h3 => by
      rcases f1 c h3 with e | e
      · exact h2 e
      · exact e (ZS.off_of h1 l1)
    obtain ⟨fp2, P2, St2, D2, m2, f2, s2, b2, p2⟩ := z2.draws (A := X.A.in1) I q2 hh (ZS.off_of (by omega) l2) st2
    have nf2 : ∀ c, n ≤ c → c ≠ n + 1 → c ∉ fp2 := fun c h1 h2 h3 => by
      rcases f2 c h3 with e | e
      · exact h2 e
      · exact e (ZS.off_of h1 l2)
    have S : ZipSep2 (n + 4) (n + 2) (n + 3) (n) (n + 1) fp1 fp2 := { TIz := (ne' (a := n + 2) (b := n + 4) (by omega)), TOz := (ne' (a := n + 3) (b := n + 4) (by omega)), TITO := (ne' (a := n + 2) (b := n + 3) (by omega)), TIi1 := (ne' (a := n + 2) (b := n) (by omega)), mem1 := m1, zf1 := nf1 (n + 4) (by omega) (ne' (a := n + 4) (b := n) (by omega)), Tf1 := nf1 (n + 3) (by omega) (ne' (a := n + 3) (b := n) (by omega)), TIi2 := (ne' (a := n + 2) (b := n + 1) (by omega)), mem2 := m2, zf2 := nf2 (n + 4) (by omega) (ne' (a := n + 4) (b := n + 1) (by omega)), Tf2 := nf2 (n + 3) (by omega) (ne' (a := n + 3) (b := n + 1) (by omega)), sep1_2 := nf2 (n) (by omega) (ne' (a := n) (b := n + 1) (by omega)), sep2_1 := nf1 (n + 1) (by omega) (ne' (a := n + 1) (b := n) (by omega)) }
    exact wpAny_pyNext_zipD2_end S D1 D2 hz hTI hTO s1 s2 t1 t2 hend fun h' tk hk => ⟨rfl, I.turnedL (t' := tk) (ch := [n + 4, n + 2, n + 3, n, n + 1]) (fun c o hb q =>
      hk c o (fun q' => hb (by simp [q'])) (fun q' => hb (by simp [q'])) (fun q' => hb (by simp [q'])) (fun q' => hb (by simp [q'])) q) hf⟩
  self := fun A i s Q E st h => wpAny_pyIter_zip st.1 h
def iZip2 (K : PySem.W.Frag) (ta : TA) : TI := fun σ H R => ta σ H fun vs H1 => ∃ (z1 z2 : ZS) (xs1 xs2 : List V), vs = [z1.val, z2.val] ∧ z1.at K H1 xs1 ∧ z2.at K H1 xs2 ∧ R (Itz2 K z1 z2) H1
theorem pi_zip2 {X : Cx} {e e2 : Expr} {ta : TA} {p pos tpos : Pos} {elts : List Expr} {kk : Nat} (hg : Gl X "zip") (hm : X.mg "zip" = none) (ha : PA X [e, e2] ta)
    (hs : starEach [e, e2] X.env = (false, eval e X.env) :: starEach [e2] X.env := by rfl) (hpl : (backTo pos (starEach [e2] X.env)).any (·.1) = false := by rfl) :
    PI X (.Tuple elts kk tpos) (.Call (.Name "zip" p) [e, e2] [] pos) (iZip2 X.K ta) := by
  refine ⟨fun pins s σ H R I h => ?_⟩
  refine Call_ (ld_blt I hg hm PyProof.Rows.boot_zip (PyProof.Rows.callWith_type1 (thn (ha.run pos pins s σ H _ I h) fun us s1 ⟨vs, H1, I1, r1, q1⟩ => ?_) hs hpl))
  obtain ⟨z1, z2, xs1, xs2, ex, q1, q2, q⟩ := q1
  subst ex
  cases r1 with
  | cons r1 rr =>
    cases rr with
    | cons r2 rr =>
      cases rr
      obtain ⟨o1, G1, B1, h1, i1, l1⟩ := z1.begins I1 q1 r1
      obtain ⟨o2, G2, B2, h2, i2, l2⟩ := z2.begins I1 q2 r2
      have fresh5 : ∀ c, c ∈ [s1.heap.objs.size + 4, s1.heap.objs.size + 2, s1.heap.objs.size + 3, s1.heap.objs.size, s1.heap.objs.size + 1] → FpOk X pins H1 c := fun c hcm => by
        have e' : c = s1.heap.objs.size + 4 ∨ c = s1.heap.objs.size + 2 ∨ c = s1.heap.objs.size + 3 ∨ c = s1.heap.objs.size ∨ c = s1.heap.objs.size + 1 := by simpa using hcm
        have hle : s1.heap.objs.size ≤ c := by omega
        exact I1.fpOk hle (I1.hok.fresh hle)
      refine zip_begins2 B1 B2 h1 h2 fun h' hz hTI hTO g1 g2 hsz hk => wpAny_pyIter_zip hz ?_
      have I2 : Inv X pins σ H1 { s1 with heap := h' } := I1.kept (t' := s1.toks) hk
      exact ⟨s1.heap.objs.size + 4, [s1.heap.objs.size + 4, s1.heap.objs.size + 2, s1.heap.objs.size + 3, s1.heap.objs.size, s1.heap.objs.size + 1], _, _, H1, rfl, I2, turn_zip2 l1 l2, ⟨hz, hTI, ⟨_, _, hTO⟩, i1 _ _ g1, i2 _ _ g2⟩, fresh5, q⟩
theorem for_zip2 {K : PySem.W.Frag} {z1 z2 : ZS} {xs1 xs2 : List V} {n : Nat} {g : TG} {tb : TS} {D : Ends} {σ : L2.St} {H : Hp} (n1 : xs1.length = n) (n2 : xs2.length = n) (Pv : Nat → L2.St → Hp → Prop) (h0 : Pv 0 σ H) (hl : ∀ i σ H, i ≤ n → Pv i σ H → z1.at K H xs1 ∧ z2.at K H xs2)
    (hs : ∀ (i : Nat) (x1 x2 : V) (T : Addr) (σ : L2.St) (H : Hp), xs1[i]? = some x1 → xs2[i]? = some x2 → H T = none → Pv i σ H → g (.ref T) σ (upd H T (.tup [x1, x2])) fun σ2 H2 => tb { D with nx := Pv (i + 1), ct := Pv (i + 1), bk := D.nx } σ2 H2) (hd : ∀ σ H, Pv n σ H → D.nx σ H) :
    ∃ W : Nat → Nat → L2.St → Hp → Prop, (∃ m, W 0 m σ H) ∧ ∀ i m σ H, W i m σ H →
      ((Itz2 K z1 z2).stop i H ∧ D.nx σ H) ∨ ((Itz2 K z1 z2).go i H ∧ ∃ N : L2.St → Hp → Prop, (∀ σ' H', N σ' H' → ∃ m', m' < m ∧ W (i + 1) m' σ' H') ∧ ∀ v H', (Itz2 K z1 z2).yld i H v H' → g v σ H' fun σ2 H2 => tb { D with nx := N, ct := N, bk := D.nx } σ2 H2) := by
  refine ⟨fun i m σ H => m = n - i ∧ i ≤ n ∧ Pv i σ H, ⟨n, rfl, Nat.zero_le _, h0⟩, ?_⟩
  rintro i m σ H ⟨rfl, hi, p⟩
  obtain ⟨q1, q2⟩ := hl i σ H hi p
  by_cases hlt : i < n
  · have e1 : xs1[i]? = some (xs1[i]'(by omega)) := List.getElem?_eq_getElem _
    have e2 : xs2[i]? = some (xs2[i]'(by omega)) := List.getElem?_eq_getElem _
    refine .inr ⟨⟨xs1, xs2, _, _, q1, q2, e1, e2⟩, Pv (i + 1), fun σ' H' p' => ⟨n - (i + 1), by omega, rfl, hlt, p'⟩, fun v H' y => ?_⟩
    obtain ⟨T, y1, y2, rfl, hT, rfl, f1, f2⟩ := y
    exact hs i y1 y2 T σ H (f1 xs1 q1) (f2 xs2 q2) hT p
  · have e : i = n := by omega
    subst e
    exact .inl ⟨⟨xs1, xs2, q1, q2, by omega, by omega, .inl (by omega)⟩, hd σ H p⟩
theorem lc_zip2 {K : PySem.W.Frag} {z1 z2 : ZS} {xs1 xs2 : List V} {n : Nat} {g : TG} {tt : TT} {te : TE} {vs : List Nat} {σ : L2.St} {H1 : Hp} {D : Addr} {Qd : Hp → Prop} (n1 : xs1.length = n) (n2 : xs2.length = n) (Pv : Nat → Hp → Prop) (h0 : Pv 0 (upd H1 D (.lst []))) (hl : ∀ i H, i ≤ n → Pv i H → z1.at K H xs1 ∧ z2.at K H xs2)
    (hs : ∀ (i : Nat) (x1 x2 : V) (T : Addr) (H : Hp), xs1[i]? = some x1 → xs2[i]? = some x2 → H T = none → Pv i H → g (.ref T) (wipe σ vs) (upd H T (.tup [x1, x2])) fun σ2 H2 => wipe σ2 vs = wipe σ vs ∧ tt σ2 H2 fun b H3 =>
      if b = true then te σ2 H3 fun y H4 => ∃ acc, H4 D = some (.lst acc) ∧ acc.length < sizeLine ∧ Pv (i + 1) (upd H4 D (.lst (acc ++ [y]))) else Pv (i + 1) H3) (hd : ∀ H, Pv n H → Qd H) :
    ∃ W : Nat → Nat → Hp → Prop, (∃ m, W 0 m (upd H1 D (.lst []))) ∧ ∀ i m H, W i m H →
      ((Itz2 K z1 z2).stop i H ∧ Qd H) ∨ ((Itz2 K z1 z2).go i H ∧ ∃ Nx : Hp → Prop, (∀ H', Nx H' → ∃ m', m' < m ∧ W (i + 1) m' H') ∧ ∀ x H', (Itz2 K z1 z2).yld i H x H' → g x (wipe σ vs) H' fun σ2 H2 => wipe σ2 vs = wipe σ vs ∧ tt σ2 H2 fun b H3 =>
        if b = true then te σ2 H3 fun y H4 => ∃ acc, H4 D = some (.lst acc) ∧ acc.length < sizeLine ∧ Nx (upd H4 D (.lst (acc ++ [y]))) else Nx H3) := by
  refine ⟨fun i m H => m = n - i ∧ i ≤ n ∧ Pv i H, ⟨n, by simp, Nat.zero_le _, h0⟩, ?_⟩
  rintro i m H ⟨rfl, hi, p⟩
  obtain ⟨q1, q2⟩ := hl i H hi p
  by_cases hlt : i < n
  · have e1 : xs1[i]? = some (xs1[i]'(by omega)) := List.getElem?_eq_getElem _
    have e2 : xs2[i]? = some (xs2[i]'(by omega)) := List.getElem?_eq_getElem _
    refine .inr ⟨⟨xs1, xs2, _, _, q1, q2, e1, e2⟩, Pv (i + 1), fun H' p' => ⟨n - (i + 1), by omega, rfl, hlt, p'⟩, fun v H' y => ?_⟩
    obtain ⟨T, y1, y2, rfl, hT, rfl, f1, f2⟩ := y
    exact hs i y1 y2 T H (f1 xs1 q1) (f2 xs2 q2) hT p
  · have e : i = n := by omega
    subst e
    exact .inl ⟨⟨xs1, xs2, q1, q2, by omega, by omega, .inl (by omega)⟩, hd H p⟩
theorem gx_zip2 {α : Type} {K : PySem.W.Frag} {z1 z2 : ZS} {xs1 xs2 : List V} {n : Nat} {g : TG} {tt : TT} {te : TE} {vs : List Nat} {σ0 : L2.St} {End : α → Hp → Prop} {Yd : α → V → Hp → (α → Hp → Prop) → Prop} {a0 : α} {H0 : Hp} (n1 : xs1.length = n) (n2 : xs2.length = n) (Pv : Nat → α → Hp → Prop) (h0 : Pv 0 a0 H0) (hl : ∀ i c H, i ≤ n → Pv i c H → z1.at K H xs1 ∧ z2.at K H xs2)
    (hs : ∀ (i : Nat) (x1 x2 : V) (T : Addr) (c : α) (H : Hp), xs1[i]? = some x1 → xs2[i]? = some x2 → H T = none → Pv i c H → g (.ref T) σ0 (upd H T (.tup [x1, x2])) fun σ2 H2 => wipe σ2 vs = σ0 ∧ tt σ2 H2 fun b H3 => if b = true then te σ2 H3 fun y H4 => Yd c y H4 (Pv (i + 1)) else Pv (i + 1) c H3) (hd : ∀ c H, Pv n c H → End c H) :
    ∃ W : Nat → Nat → α → Hp → Prop, (∃ m, W 0 m a0 H0) ∧ tGx (Itz2 K z1 z2) g tt te σ0 vs End Yd W := by
  refine ⟨fun i m c H => m = n - i ∧ i ≤ n ∧ Pv i c H, ⟨n, rfl, Nat.zero_le _, h0⟩, ?_⟩
  rintro i m c H ⟨rfl, hi, p⟩
  obtain ⟨q1, q2⟩ := hl i c H hi p
  by_cases hlt : i < n
  · have e1 : xs1[i]? = some (xs1[i]'(by omega)) := List.getElem?_eq_getElem _
    have e2 : xs2[i]? = some (xs2[i]'(by omega)) := List.getElem?_eq_getElem _
    refine .inr ⟨⟨xs1, xs2, _, _, q1, q2, e1, e2⟩, Pv (i + 1), fun c' H' p' => ⟨n - (i + 1), by omega, rfl, hlt, p'⟩, fun v H' y => ?_⟩
    obtain ⟨T, y1, y2, rfl, hT, rfl, f1, f2⟩ := y
    exact hs i y1 y2 T c H (f1 xs1 q1) (f2 xs2 q2) hT p
  · have e : i = n := by omega
    subst e
    exact .inl ⟨⟨xs1, xs2, q1, q2, by omega, by omega, .inl (by omega)⟩, hd c H p⟩
def Itz3 (K : PySem.W.Frag) (z1 z2 z3 : ZS) : It :=
  ⟨fun i H => ∃ (xs1 xs2 xs3 : List V) (x1 x2 x3 : V), z1.at K H xs1 ∧ z2.at K H xs2 ∧ z3.at K H xs3 ∧ xs1[i]? = some x1 ∧ xs2[i]? = some x2 ∧ xs3[i]? = some x3,
    fun i H v H' => ∃ T x1 x2 x3, v = .ref T ∧ H T = none ∧ H' = upd H T (.tup [x1, x2, x3]) ∧ (∀ xs, z1.at K H xs → xs[i]? = some x1) ∧ (∀ xs, z2.at K H xs → xs[i]? = some x2) ∧ (∀ xs, z3.at K H xs → xs[i]? = some x3),
    fun i H => ∃ xs1 xs2 xs3 : List V, z1.at K H xs1 ∧ z2.at K H xs2 ∧ z3.at K H xs3 ∧ i ≤ xs1.length ∧ i ≤ xs2.length ∧ i ≤ xs3.length ∧ (i = xs1.length ∨ i = xs2.length ∨ i = xs3.length)⟩
theorem turn_zip3 {P : Program} {w : World} {K : PySem.W.Frag} {elts : List Expr} {kk : Nat} {tpos : Pos} {z1 z2 z3 : ZS} {n : Nat} (l1 : z1.lt n) (l2 : z2.lt n) (l3 : z3.lt n) :
    Turn P w K (.Tuple elts kk tpos) (Itz3 K z1 z2 z3) [n + 5, n + 3, n + 4, n, n + 1, n + 2] (n + 5) (fun i h => IsZip h (n + 5) (n + 3) (n + 4) .none ∧ IsTupOf3 h (n + 3) (.ref (n)) (.ref (n + 1)) (.ref (n + 2)) ∧ (∃ x1 x2 x3, IsTupOf3 h (n + 4) x1 x2 x3) ∧ z1.it (n) i h ∧ z2.it (n + 1) i h ∧ z3.it (n + 2) i h) where
  mem := List.mem_cons_self
  obj := fun i h st c hc => by
    obtain ⟨hz, hTI, ⟨x1, x2, x3, hTO⟩, st1, st2, st3⟩ := st
    have e' : c = n + 5 ∨ c = n + 3 ∨ c = n + 4 ∨ c = n ∨ c = n + 1 ∨ c = n + 2 := by simpa using hc
    rcases e' with q | q | q | q | q | q
    · rw [q]; exact ⟨_, hz, fun v q => nomatch q⟩
    · rw [q]; exact ⟨_, hTI, fun v q => nomatch q⟩
    · rw [q]; exact ⟨_, hTO, fun v q => nomatch q⟩
    · rw [q]; exact ZS.obj (z := z1) st1
    · rw [q]; exact ZS.obj (z := z2) st2
    · rw [q]; exact ZS.obj (z := z3) st3
  keep := fun i h h' st k => by
    obtain ⟨hz, hTI, ⟨x1, x2, x3, hTO⟩, st1, st2, st3⟩ := st
    exact ⟨k _ (by simp) _ hz, k _ (by simp) _ hTI, ⟨x1, x2, x3, k _ (by simp) _ hTO⟩, ZS.move (z := z1) (fun o q => k _ (by simp) o q) st1, ZS.move (z := z2) (fun o q => k _ (by simp) o q) st2, ZS.move (z := z3) (fun o q => k _ (by simp) o q) st3⟩
  item := by
    intro X hP hw hK hc i pins s σ H E I hf st hg
    subst hP hw hK
    obtain ⟨hz, hTI, ⟨y1, y2, y3, hTO⟩, st1, st2, st3⟩ := st
    obtain ⟨xs1, xs2, xs3, x1, x2, x3, q1, q2, q3, h1, h2, h3⟩ := hg
    have hh : X.A.in1.handled = none := I.ok.hd hc
    obtain ⟨fp1, P1, St1, D1, m1, f1, s1, b1, p1⟩ := z1.draws (A := X.A.in1) I q1 hh (ZS.off_of (by omega) l1) st1
    have nf1 : ∀ c, n ≤ c → c ≠ n → c ∉ fp1 := fun c h1 h2 h3 => by
      rcases f1 c h3 with e | e
      · exact h2 e
      · exact e (ZS.off_of h1 l1)
    obtain ⟨fp2, P2, St2, D2, m2, f2, s2, b2, p2⟩ := z2.draws (A := X.A.in1) I q2 hh (ZS.off_of (by omega) l2) st2
    have nf2 : ∀ c, n ≤ c → c ≠ n + 1 → c ∉ fp2 := fun c h1 h2 h3 => by
      rcases f2 c h3 with e | e
      · exact h2 e
      · exact e (ZS.off_of h1 l2)
    obtain ⟨fp3, P3, St3, D3, m3, f3, s3, b3, p3⟩ := z3.draws (A := X.A.in1) I q3 hh (ZS.off_of (by omega) l3) st3
    have nf3 : ∀ c, n ≤ c → c ≠ n + 2 → c ∉ fp3 := fun c h1 h2 h3 => by
      rcases f3 c h3 with e | e
      · exact h2 e
      · exact e (ZS.off_of h1 l3)
    have t1 : i < xs1.length := (List.getElem?_eq_some_iff.mp h1).1
    have t2 : i < xs2.length := (List.getElem?_eq_some_iff.mp h2).1
    have t3 : i < xs3.length := (List.getElem?_eq_some_iff.mp h3).1
    have hzl : n + 5 < s.heap.objs.size := Heap.lt_size hz
    have S : ZipSep3 (n + 5) (n + 3) (n + 4) (n) (n + 1) (n + 2) fp1 fp2 fp3 := { TIz := (ne' (a := n + 3) (b := n + 5) (by omega)), TOz := (ne' (a := n + 4) (b := n + 5) (by omega)), TITO := (ne' (a := n + 3) (b := n + 4) (by omega)), TIi1 := (ne' (a := n + 3) (b := n) (by omega)), mem1 := m1, zf1 := nf1 (n + 5) (by omega) (ne' (a := n + 5) (b := n) (by omega)), Tf1 := nf1 (n + 4) (by omega) (ne' (a := n + 4) (b := n) (by omega)), TIi2 := (ne' (a := n + 3) (b := n + 1) (by omega)), mem2 := m2, zf2 := nf2 (n + 5) (by omega) (ne' (a := n + 5) (b := n + 1) (by omega)), Tf2 := nf2 (n + 4) (by omega) (ne' (a := n + 4) (b := n + 1) (by omega)), TIi3 := (ne' (a := n + 3) (b := n + 2) (by omega)), mem3 := m3, zf3 := nf3 (n + 5) (by omega) (ne' (a := n + 5) (b := n + 2) (by omega)), Tf3 := nf3 (n + 4) (by omega) (ne' (a := n + 4) (b := n + 2) (by omega)), sep1_2 := nf2 (n) (by omega) (ne' (a := n) (b := n + 1) (by omega)), sep1_3 := nf3 (n) (by omega) (ne' (a := n) (b := n + 2) (by omega)), sep2_1 := nf1 (n + 1) (by omega) (ne' (a := n + 1) (b := n) (by omega)), sep2_3 := nf3 (n + 1) (by omega) (ne' (a := n + 1) (b := n + 2) (by omega)), sep3_1 := nf1 (n + 2) (by omega) (ne' (a := n + 2) (b := n) (by omega)), sep3_2 := nf2 (n + 2) (by omega) (ne' (a := n + 2) (b := n + 1) (by omega)) }
    refine wpAny_pyNext_zipD3_item S D1 D2 D3 hz hTI hTO s1 s2 s3 t1 t2 t3 fun u1 u2 u3 h' tk g1 g2 g3 z' TO' w1 w2 w3 hT hsz hk => ?_
    refine ⟨_, rfl, wpAny_letOwnedTupleGo_zip (s := { s with heap := h', toks := tk }) z' fun h'' z'' sb => ?_⟩
    obtain ⟨x1', e1, ru1⟩ := p1 i u1 g1
    rw [h1] at e1
    cases Option.some.inj e1
    obtain ⟨x2', e2, ru2⟩ := p2 i u2 g2
    rw [h2] at e2
    cases Option.some.inj e2
    obtain ⟨x3', e3, ru3⟩ := p3 i u3 g3
    rw [h3] at e3
    cases Option.some.inj e3
    have hT2 : h''.get? s.heap.objs.size = some { cls := .type "tuple", data := .seq #[u1, u2, u3] } := (sb.2 _ (Nat.ne_of_gt hzl)).trans hT
    have new : ObjOk X.prog X.w (upd H s.heap.objs.size (.tup [x1, x2, x3])) h'' s.heap.objs.size (.tup [x1, x2, x3]) :=
      ⟨by show 3 ≤ sizeLine; decide, [u1, u2, u3], .cons ru1 (.cons ru2 (.cons ru3 (.nil))), ⟨_, hT2, rfl, _, rfl⟩⟩
    have out5 : ∀ c, c ∉ [n + 5, n + 3, n + 4, n, n + 1, n + 2] → c ≠ n + 5 ∧ c ≠ n + 4 ∧ c ≠ n ∧ c ≠ n + 1 ∧ c ≠ n + 2 := fun c hb => ⟨fun q' => hb (by simp [q']), fun q' => hb (by simp [q']), fun q' => hb (by simp [q']), fun q' => hb (by simp [q']), fun q' => hb (by simp [q'])⟩
    have I1 : Inv X pins σ (upd H s.heap.objs.size (.tup [x1, x2, x3])) { s with heap := h'', toks := tk } :=
      I.turnedNew (t' := tk) (ch := [n + 5, n + 3, n + 4, n, n + 1, n + 2]) (fun c o hb q => by
        obtain ⟨a1, a2, b1', b2', b3'⟩ := out5 c hb
        exact (sb.2 c a1).trans (hk c o a1 a2 b1' b2' b3' q)) hf (Nat.le_refl _) new
    refine ⟨.ref s.heap.objs.size, _, I1, rfl, ⟨_, x1, x2, x3, rfl, I.hok.fresh (Nat.le_refl _), rfl, fun l hl => by rw [ZS.inj I hl q1]; exact h1, fun l hl => by rw [ZS.inj I hl q2]; exact h2, fun l hl => by rw [ZS.inj I hl q3]; exact h3⟩, ⟨z'', ?_, ⟨u1, u2, u3, ?_⟩, ?_, ?_, ?_⟩, fun c hcm => ?_⟩
    · exact (sb.2 (n + 3) (ne' (a := n + 3) (b := n + 5) (by omega))).trans (hk (n + 3) _ (ne' (a := n + 3) (b := n + 5) (by omega)) (ne' (a := n + 3) (b := n + 4) (by omega)) (ne' (a := n + 3) (b := n) (by omega)) (ne' (a := n + 3) (b := n + 1) (by omega)) (ne' (a := n + 3) (b := n + 2) (by omega)) hTI)
    · exact (sb.2 (n + 4) (ne' (a := n + 4) (b := n + 5) (by omega))).trans TO'
    · exact ZS.move (z := z1) (fun o q => (sb.2 (n) (ne' (a := n) (b := n + 5) (by omega))).trans q) (b1 _ _ w1)
    · exact ZS.move (z := z2) (fun o q => (sb.2 (n + 1) (ne' (a := n + 1) (b := n + 5) (by omega))).trans q) (b2 _ _ w2)
    · exact ZS.move (z := z3) (fun o q => (sb.2 (n + 2) (ne' (a := n + 2) (b := n + 5) (by omega))).trans q) (b3 _ _ w3)
    · have hlt : c < s.heap.objs.size := by
        have e' : c = n + 5 ∨ c = n + 3 ∨ c = n + 4 ∨ c = n ∨ c = n + 1 ∨ c = n + 2 := by simpa using hcm
        rcases e' with q | q | q | q | q | q
        · rw [q]; exact (show (n + 5 : Nat) < s.heap.objs.size by omega)
        · rw [q]; exact (show (n + 3 : Nat) < s.heap.objs.size by omega)
        · rw [q]; exact (show (n + 4 : Nat) < s.heap.objs.size by omega)
        · rw [q]; exact (show (n : Nat) < s.heap.objs.size by omega)
        · rw [q]; exact (show (n + 1 : Nat) < s.heap.objs.size by omega)
        · rw [q]; exact (show (n + 2 : Nat) < s.heap.objs.size by omega)
      rw [upd_ne (Nat.ne_of_lt hlt)]
      exact (hf c hcm).1
  done := by
    intro X hP hw hK hc i pins s σ H E I hf st hg
    subst hP hw hK
    obtain ⟨hz, hTI, ⟨y1, y2, y3, hTO⟩, st1, st2, st3⟩ := st
    obtain ⟨xs1, xs2, xs3, q1, q2, q3, t1, t2, t3, hend⟩ := hg
    have hh : X.A.in1.handled = none := I.ok.hd hc
    obtain ⟨fp1, P1, St1, D1, m1, f1, s1, b1, p1⟩ := z1.draws (A := X.A.in1) I q1 hh (ZS.off_of (by omega) l1) st1
    have nf1 : ∀ c, n ≤ c → c ≠ n → c ∉ fp1 := fun c h1 h2 h3 => by
      rcases f1 c h3 with e | e
      · exact h2 e
      · exact e (ZS.off_of h1 l1)
    obtain ⟨fp2, P2, St2, D2, m2, f2, s2, b2, p2⟩ := z2.draws (A := X.A.in1) I q2 hh (ZS.off_of (by omega) l2) st2
    have nf2 : ∀ c, n ≤ c → c ≠ n + 1 → c ∉ fp2 := fun c h1 h2 h3 => by
      rcases f2 c h3 with e | e
      · exact h2 e
      · exact e (ZS.off_of h1 l2)
    obtain ⟨fp3, P3, St3, D3, m3, f3, s3, b3, p3⟩ := z3.draws (A := X.A.in1) I q3 hh (ZS.off_of (by omega) l3) st3
    have nf3 : ∀ c, n ≤ c → c ≠ n + 2 → c ∉ fp3 := fun c h1 h2 h3 => by
      rcases f3 c h3 with e | e
      · exact h2 e
      · exact e (ZS.off_of h1 l3)
    have S : ZipSep3 (n + 5) (n + 3) (n + 4) (n) (n + 1) (n + 2) fp1 fp2 fp3 := { TIz := (ne' (a := n + 3) (b := n + 5) (by omega)), TOz := (ne' (a := n + 4) (b := n + 5) (by omega)), TITO := (ne' (a := n + 3) (b := n + 4) (by omega)), TIi1 := (ne' (a := n + 3) (b := n) (by omega)), mem1 := m1, zf1 := nf1 (n + 5) (by omega) (ne' (a := n + 5) (b := n) (by omega)), Tf1 := nf1 (n + 4) (by omega) (ne' (a := n + 4) (b := n) (by omega)), TIi2 := (ne' (a := n + 3) (b := n + 1) (by omega)), mem2 := m2, zf2 := nf2 (n + 5) (by omega) (ne' (a := n + 5) (b := n + 1) (by omega)), Tf2 := nf2 (n + 4) (by omega) (ne' (a := n + 4) (b := n + 1) (by omega)), TIi3 := (ne' (a := n + 3) (b := n + 2) (by omega)), mem3 := m3, zf3 := nf3 (n + 5) (by omega) (ne' (a := n + 5) (b := n + 2) (by omega)), Tf3 := nf3 (n + 4) (by omega) (ne' (a := n + 4) (b := n + 2) (by omega)), sep1_2 := nf2 (n) (by omega) (ne' (a := n) (b := n + 1) (by omega)), sep1_3 := nf3 (n) (by omega) (ne' (a := n) (b := n + 2) (by omega)), sep2_1 := nf1 (n + 1) (by omega) (ne' (a := n + 1) (b := n) (by omega)), sep2_3 := nf3 (n + 1) (by omega) (ne' (a := n + 1) (b := n + 2) (by omega)), sep3_1 := nf1 (n + 2) (by omega) (ne' (a := n + 2) (b := n) (by omega)), sep3_2 := nf2 (n + 2) (by omega) (ne' (a := n + 2) (b := n + 1) (by omega)) }
    exact wpAny_pyNext_zipD3_end S D1 D2 D3 hz hTI hTO s1 s2 s3 t1 t2 t3 hend fun h' tk hk => ⟨rfl, I.turnedL (t' := tk) (ch := [n + 5, n + 3, n + 4, n, n + 1, n + 2]) (fun c o hb q =>
      hk c o (fun q' => hb (by simp [q'])) (fun q' => hb (by simp [q'])) (fun q' => hb (by simp [q'])) (fun q' => hb (by simp [q'])) (fun q' => hb (by simp [q'])) q) hf⟩
  self := fun A i s Q E st h => wpAny_pyIter_zip st.1 h
def iZip3 (K : PySem.W.Frag) (ta : TA) : TI := fun σ H R => ta σ H fun vs H1 => ∃ (z1 z2 z3 : ZS) (xs1 xs2 xs3 : List V), vs = [z1.val, z2.val, z3.val] ∧ z1.at K H1 xs1 ∧ z2.at K H1 xs2 ∧ z3.at K H1 xs3 ∧ R (Itz3 K z1 z2 z3) H1
theorem pi_zip3 {X : Cx} {e e2 e3 : Expr} {ta : TA} {p pos tpos : Pos} {elts : List Expr} {kk : Nat} (hg : Gl X "zip") (hm : X.mg "zip" = none) (ha : PA X [e, e2, e3] ta)
    (hs : starEach [e, e2, e3] X.env = (false, eval e X.env) :: starEach [e2, e3] X.env := by rfl) (hpl : (backTo pos (starEach [e2, e3] X.env)).any (·.1) = false := by rfl) :
    PI X (.Tuple elts kk tpos) (.Call (.Name "zip" p) [e, e2, e3] [] pos) (iZip3 X.K ta) := by
  refine ⟨fun pins s σ H R I h => ?_⟩
  refine Call_ (ld_blt I hg hm PyProof.Rows.boot_zip (PyProof.Rows.callWith_type1 (thn (ha.run pos pins s σ H _ I h) fun us s1 ⟨vs, H1, I1, r1, q1⟩ => ?_) hs hpl))
  obtain ⟨z1, z2, z3, xs1, xs2, xs3, ex, q1, q2, q3, q⟩ := q1
  subst ex
  cases r1 with
  | cons r1 rr =>
    cases rr with
    | cons r2 rr =>
      cases rr with
      | cons r3 rr =>
        cases rr
        obtain ⟨o1, G1, B1, h1, i1, l1⟩ := z1.begins I1 q1 r1
        obtain ⟨o2, G2, B2, h2, i2, l2⟩ := z2.begins I1 q2 r2
        obtain ⟨o3, G3, B3, h3, i3, l3⟩ := z3.begins I1 q3 r3
        have fresh5 : ∀ c, c ∈ [s1.heap.objs.size + 5, s1.heap.objs.size + 3, s1.heap.objs.size + 4, s1.heap.objs.size, s1.heap.objs.size + 1, s1.heap.objs.size + 2] → FpOk X pins H1 c := fun c hcm => by
          have e' : c = s1.heap.objs.size + 5 ∨ c = s1.heap.objs.size + 3 ∨ c = s1.heap.objs.size + 4 ∨ c = s1.heap.objs.size ∨ c = s1.heap.objs.size + 1 ∨ c = s1.heap.objs.size + 2 := by simpa using hcm
          have hle : s1.heap.objs.size ≤ c := by omega
          exact I1.fpOk hle (I1.hok.fresh hle)
        refine zip_begins3 B1 B2 B3 h1 h2 h3 fun h' hz hTI hTO g1 g2 g3 hsz hk => wpAny_pyIter_zip hz ?_
        have I2 : Inv X pins σ H1 { s1 with heap := h' } := I1.kept (t' := s1.toks) hk
        exact ⟨s1.heap.objs.size + 5, [s1.heap.objs.size + 5, s1.heap.objs.size + 3, s1.heap.objs.size + 4, s1.heap.objs.size, s1.heap.objs.size + 1, s1.heap.objs.size + 2], _, _, H1, rfl, I2, turn_zip3 l1 l2 l3, ⟨hz, hTI, ⟨_, _, _, hTO⟩, i1 _ _ g1, i2 _ _ g2, i3 _ _ g3⟩, fresh5, q⟩
theorem for_zip3 {K : PySem.W.Frag} {z1 z2 z3 : ZS} {xs1 xs2 xs3 : List V} {n : Nat} {g : TG} {tb : TS} {D : Ends} {σ : L2.St} {H : Hp} (n1 : xs1.length = n) (n2 : xs2.length = n) (n3 : xs3.length = n) (Pv : Nat → L2.St → Hp → Prop) (h0 : Pv 0 σ H) (hl : ∀ i σ H, i ≤ n → Pv i σ H → z1.at K H xs1 ∧ z2.at K H xs2 ∧ z3.at K H xs3)
    (hs : ∀ (i : Nat) (x1 x2 x3 : V) (T : Addr) (σ : L2.St) (H : Hp), xs1[i]? = some x1 → xs2[i]? = some x2 → xs3[i]? = some x3 → H T = none → Pv i σ H → g (.ref T) σ (upd H T (.tup [x1, x2, x3])) fun σ2 H2 => tb { D with nx := Pv (i + 1), ct := Pv (i + 1), bk := D.nx } σ2 H2) (hd : ∀ σ H, Pv n σ H → D.nx σ H) :
    ∃ W : Nat → Nat → L2.St → Hp → Prop, (∃ m, W 0 m σ H) ∧ ∀ i m σ H, W i m σ H →
      ((Itz3 K z1 z2 z3).stop i H ∧ D.nx σ H) ∨ ((Itz3 K z1 z2 z3).go i H ∧ ∃ N : L2.St → Hp → Prop, (∀ σ' H', N σ' H' → ∃ m', m' < m ∧ W (i + 1) m' σ' H') ∧ ∀ v H', (Itz3 K z1 z2 z3).yld i H v H' → g v σ H' fun σ2 H2 => tb { D with nx := N, ct := N, bk := D.nx } σ2 H2) := by
  refine ⟨fun i m σ H => m = n - i ∧ i ≤ n ∧ Pv i σ H, ⟨n, rfl, Nat.zero_le _, h0⟩, ?_⟩
  rintro i m σ H ⟨rfl, hi, p⟩
  obtain ⟨q1, q2, q3⟩ := hl i σ H hi p
  by_cases hlt : i < n
  · have e1 : xs1[i]? = some (xs1[i]'(by omega)) := List.getElem?_eq_getElem _
    have e2 : xs2[i]? = some (xs2[i]'(by omega)) := List.getElem?_eq_getElem _
    have e3 : xs3[i]? = some (xs3[i]'(by omega)) := List.getElem?_eq_getElem _
    refine .inr ⟨⟨xs1, xs2, xs3, _, _, _, q1, q2, q3, e1, e2, e3⟩, Pv (i + 1), fun σ' H' p' => ⟨n - (i + 1), by omega, rfl, hlt, p'⟩, fun v H' y => ?_⟩
    obtain ⟨T, y1, y2, y3, rfl, hT, rfl, f1, f2, f3⟩ := y
    exact hs i y1 y2 y3 T σ H (f1 xs1 q1) (f2 xs2 q2) (f3 xs3 q3) hT p
  · have e : i = n := by omega
    subst e
    exact .inl ⟨⟨xs1, xs2, xs3, q1, q2, q3, by omega, by omega, by omega, .inl (by omega)⟩, hd σ H p⟩
theorem lc_zip3 {K : PySem.W.Frag} {z1 z2 z3 : ZS} {xs1 xs2 xs3 : List V} {n : Nat} {g : TG} {tt : TT} {te : TE} {vs : List Nat} {σ : L2.St} {H1 : Hp} {D : Addr} {Qd : Hp → Prop} (n1 : xs1.length = n) (n2 : xs2.length = n) (n3 : xs3.length = n) (Pv : Nat → Hp → Prop) (h0 : Pv 0 (upd H1 D (.lst []))) (hl : ∀ i H, i ≤ n → Pv i H → z1.at K H xs1 ∧ z2.at K H xs2 ∧ z3.at K H xs3)
    (hs : ∀ (i : Nat) (x1 x2 x3 : V) (T : Addr) (H : Hp), xs1[i]? = some x1 → xs2[i]? = some x2 → xs3[i]? = some x3 → H T = none → Pv i H → g (.ref T) (wipe σ vs) (upd H T (.tup [x1, x2, x3])) fun σ2 H2 => wipe σ2 vs = wipe σ vs ∧ tt σ2 H2 fun b H3 =>
      if b = true then te σ2 H3 fun y H4 => ∃ acc, H4 D = some (.lst acc) ∧ acc.length < sizeLine ∧ Pv (i + 1) (upd H4 D (.lst (acc ++ [y]))) else Pv (i + 1) H3) (hd : ∀ H, Pv n H → Qd H) :
    ∃ W : Nat → Nat → Hp → Prop, (∃ m, W 0 m (upd H1 D (.lst []))) ∧ ∀ i m H, W i m H →
      ((Itz3 K z1 z2 z3).stop i H ∧ Qd H) ∨ ((Itz3 K z1 z2 z3).go i H ∧ ∃ Nx : Hp → Prop, (∀ H', Nx H' → ∃ m', m' < m ∧ W (i + 1) m' H') ∧ ∀ x H', (Itz3 K z1 z2 z3).yld i H x H' → g x (wipe σ vs) H' fun σ2 H2 => wipe σ2 vs = wipe σ vs ∧ tt σ2 H2 fun b H3 =>
        if b = true then te σ2 H3 fun y H4 => ∃ acc, H4 D = some (.lst acc) ∧ acc.length < sizeLine ∧ Nx (upd H4 D (.lst (acc ++ [y]))) else Nx H3) := by
  refine ⟨fun i m H => m = n - i ∧ i ≤ n ∧ Pv i H, ⟨n, by simp, Nat.zero_le _, h0⟩, ?_⟩
  rintro i m H ⟨rfl, hi, p⟩
  obtain ⟨q1, q2, q3⟩ := hl i H hi p
  by_cases hlt : i < n
  · have e1 : xs1[i]? = some (xs1[i]'(by omega)) := List.getElem?_eq_getElem _
    have e2 : xs2[i]? = some (xs2[i]'(by omega)) := List.getElem?_eq_getElem _
    have e3 : xs3[i]? = some (xs3[i]'(by omega)) := List.getElem?_eq_getElem _
    refine .inr ⟨⟨xs1, xs2, xs3, _, _, _, q1, q2, q3, e1, e2, e3⟩, Pv (i + 1), fun H' p' => ⟨n - (i + 1), by omega, rfl, hlt, p'⟩, fun v H' y => ?_⟩
    obtain ⟨T, y1, y2, y3, rfl, hT, rfl, f1, f2, f3⟩ := y
    exact hs i y1 y2 y3 T H (f1 xs1 q1) (f2 xs2 q2) (f3 xs3 q3) hT p
  · have e : i = n := by omega
    subst e
    exact .inl ⟨⟨xs1, xs2, xs3, q1, q2, q3, by omega, by omega, by omega, .inl (by omega)⟩, hd H p⟩
theorem gx_zip3 {α : Type} {K : PySem.W.Frag} {z1 z2 z3 : ZS} {xs1 xs2 xs3 : List V} {n : Nat} {g : TG} {tt : TT} {te : TE} {vs : List Nat} {σ0 : L2.St} {End : α → Hp → Prop} {Yd : α → V → Hp → (α → Hp → Prop) → Prop} {a0 : α} {H0 : Hp} (n1 : xs1.length = n) (n2 : xs2.length = n) (n3 : xs3.length = n) (Pv : Nat → α → Hp → Prop) (h0 : Pv 0 a0 H0) (hl : ∀ i c H, i ≤ n → Pv i c H → z1.at K H xs1 ∧ z2.at K H xs2 ∧ z3.at K H xs3)
    (hs : ∀ (i : Nat) (x1 x2 x3 : V) (T : Addr) (c : α) (H : Hp), xs1[i]? = some x1 → xs2[i]? = some x2 → xs3[i]? = some x3 → H T = none → Pv i c H → g (.ref T) σ0 (upd H T (.tup [x1, x2, x3])) fun σ2 H2 => wipe σ2 vs = σ0 ∧ tt σ2 H2 fun b H3 => if b = true then te σ2 H3 fun y H4 => Yd c y H4 (Pv (i + 1)) else Pv (i + 1) c H3) (hd : ∀ c H, Pv n c H → End c H) :
    ∃ W : Nat → Nat → α → Hp → Prop, (∃ m, W 0 m a0 H0) ∧ tGx (Itz3 K z1 z2 z3) g tt te σ0 vs End Yd W := by
  refine ⟨fun i m c H => m = n - i ∧ i ≤ n ∧ Pv i c H, ⟨n, rfl, Nat.zero_le _, h0⟩, ?_⟩
  rintro i m c H ⟨rfl, hi, p⟩
  obtain ⟨q1, q2, q3⟩ := hl i c H hi p
  by_cases hlt : i < n
  · have e1 : xs1[i]? = some (xs1[i]'(by omega)) := List.getElem?_eq_getElem _
    have e2 : xs2[i]? = some (xs2[i]'(by omega)) := List.getElem?_eq_getElem _
    have e3 : xs3[i]? = some (xs3[i]'(by omega)) := List.getElem?_eq_getElem _
    refine .inr ⟨⟨xs1, xs2, xs3, _, _, _, q1, q2, q3, e1, e2, e3⟩, Pv (i + 1), fun c' H' p' => ⟨n - (i + 1), by omega, rfl, hlt, p'⟩, fun v H' y => ?_⟩
    obtain ⟨T, y1, y2, y3, rfl, hT, rfl, f1, f2, f3⟩ := y
    exact hs i y1 y2 y3 T c H (f1 xs1 q1) (f2 xs2 q2) (f3 xs3 q3) hT p
  · have e : i = n := by omega
    subst e
    exact .inl ⟨⟨xs1, xs2, xs3, q1, q2, q3, by omega, by omega, by omega, .inl (by omega)⟩, hd c H p⟩
end ZpG

end Gk

set_option Elab.async false
set_option linter.all false
set_option maxRecDepth 100000
set_option maxHeartbeats 1000000
set_option pp.maxSteps 1500
set_option pp.deepTerms false
namespace Gk
open PySem PySem.Spec PyProof.Rows L2
section
variable {P : Program} {w : World} {K : PySem.W.Frag} {mg : Str → Option Value} {base : Heap}
/-! ### is_wave of anything -/
def timeD : PyData → Bool
  | .int i => decide (0 ≤ i)
  | _ => false
def ltD : PyData → PyData → Bool
  | .int i, .int j => decide (i < j)
  | _, _ => false
def risesD (ts : List PyData) : Bool := (ts.zip (ts.drop 1)).all fun z => ltD z.1 z.2
def waveParts (a b : PyData) : Bool :=
  match b with
  | .tuple ts => worthD a && (ts.all timeD && risesD ts)
  | _ => false
def isWaveD : PyData → Bool
  | .tuple ds => (match ds with
    | [a, b] => waveParts a b
    | _ => false)
  | _ => false
theorem wave_not : ∀ {d : PyData}, ¬ isTupD d = true → isWaveD d = false
  | .tuple _, h => absurd rfl h
  | .bool _, _ => rfl
  | .none, _ => rfl
  | .str _, _ => rfl
  | .list _, _ => rfl
  | .int _, _ => rfl
  | .dict _, _ => rfl
theorem wave_len : ∀ {ds : List PyData}, ¬ ds.length = 2 → isWaveD (.tuple ds) = false
  | [], _ => rfl
  | [_], _ => rfl
  | [_, _], h => absurd rfl h
  | _ :: _ :: _ :: _, _ => rfl
theorem wave_worth {a : PyData} (h : ¬ worthD a = true) : ∀ b : PyData, waveParts a b = false
  | .tuple ts => by
    show (worthD a && _) = false
    rw [Bool.eq_false_iff.mpr h]; rfl
  | .bool _ => rfl
  | .none => rfl
  | .str _ => rfl
  | .list _ => rfl
  | .int _ => rfl
  | .dict _ => rfl
theorem wave_tup (a : PyData) : ∀ {b : PyData}, ¬ isTupD b = true → waveParts a b = false
  | .tuple _, h => absurd rfl h
  | .bool _, _ => rfl
  | .none, _ => rfl
  | .str _, _ => rfl
  | .list _, _ => rfl
  | .int _, _ => rfl
  | .dict _, _ => rfl
theorem gx_zip2u {α : Type} {K : PySem.W.Frag} {z1 z2 : ZpG.ZS} {xs1 xs2 : List V} {n : Nat} {g : TG} {tt : TT} {te : TE} {vs : List Nat} {σ0 : L2.St} {End : α → Hp → Prop} {Yd : α → V → Hp → (α → Hp → Prop) → Prop} {a0 : α} {H0 : Hp} (n1 : n ≤ xs1.length) (n2 : n ≤ xs2.length) (nn : n = xs1.length ∨ n = xs2.length) (Pv : Nat → α → Hp → Prop) (h0 : Pv 0 a0 H0) (hl : ∀ i c H, i ≤ n → Pv i c H → z1.at K H xs1 ∧ z2.at K H xs2)
    (hs : ∀ (i : Nat) (x1 x2 : V) (T : Addr) (c : α) (H : Hp), xs1[i]? = some x1 → xs2[i]? = some x2 → H T = none → Pv i c H → g (.ref T) σ0 (upd H T (.tup [x1, x2])) fun σ2 H2 => wipe σ2 vs = σ0 ∧ tt σ2 H2 fun b H3 => if b = true then te σ2 H3 fun y H4 => Yd c y H4 (Pv (i + 1)) else Pv (i + 1) c H3) (hd : ∀ c H, Pv n c H → End c H) :
    ∃ W : Nat → Nat → α → Hp → Prop, (∃ m, W 0 m a0 H0) ∧ tGx (ZpG.Itz2 K z1 z2) g tt te σ0 vs End Yd W := by
  refine ⟨fun i m c H => m = n - i ∧ i ≤ n ∧ Pv i c H, ⟨n, rfl, Nat.zero_le _, h0⟩, ?_⟩
  rintro i m c H ⟨rfl, hi, p⟩
  obtain ⟨q1, q2⟩ := hl i c H hi p
  by_cases hlt : i < n
  · have e1 : xs1[i]? = some (xs1[i]'(by omega)) := List.getElem?_eq_getElem _
    have e2 : xs2[i]? = some (xs2[i]'(by omega)) := List.getElem?_eq_getElem _
    refine .inr ⟨⟨xs1, xs2, _, _, q1, q2, e1, e2⟩, Pv (i + 1), fun c' H' p' => ⟨n - (i + 1), by omega, rfl, hlt, p'⟩, fun v H' y => ?_⟩
    obtain ⟨T, y1, y2, rfl, hT, rfl, f1, f2⟩ := y
    exact hs i y1 y2 T c H (f1 xs1 q1) (f2 xs2 q2) hT p
  · have e : i = n := by omega
    subst e
    exact .inl ⟨⟨xs1, xs2, q1, q2, n1, n2, nn⟩, hd c H p⟩
def sp_is_wave (T : Tx K mg) : Sp := fun vs H Q _ => ∃ (v : V) (d : PyData), vs = [v] ∧ Sh H v d ∧ GxR.TabG H T.P_is_wave ∧ ∀ H', Gr H H' → Q (.bl (isWaveD d)) H'
theorem ok_is_wave (T : Tx K mg) (B : Tb base T) : FnOk P w K mg base CX0 3 T.f_is_wave T.fd_is_wave ["thing"] (sp_is_wave T) := by
  refine okC T.F_is_wave sc_is_wave (fun vs H Q E h => ?_) (fun A outer s H vs Q E hr h => ?_)
  · obtain ⟨v, d, rfl, _⟩ := h
    rfl
  · obtain ⟨v, d, rfl, sh, tab, q⟩ := h
    refine ⟨_, (pss_cons (ps_if (pw_or (pt_not (pt_val (pe_callB call_isi (by rfl) T.m_isinstance (by decide +kernel) (pa_cons (pv 0) (pa_cons (pe_bltn (v := .ty "tuple") (u := .type "tuple") (by rfl) T.m_tuple (by decide +kernel) rfl) pa_nil))))) (pw_or1 (pt_cmpR op_ne (pe_callB call_len_seq (by rfl) T.m_len PySem.boot_len (pa_cons (pv 0) pa_nil)) pe_int (nomark _)))).pt (pss_one (ps_ret pe_bl)) pss_nil) (pss_cons (ps_asg (pv 0) (pg_tup rfl (pgs_cons (pg_name (i := 1) sc_is_wave.nd rfl (by first | exact .inl rfl | exact .inr rfl)) (pgs_cons (pg_name (i := 2) sc_is_wave.nd rfl (by first | exact .inl rfl | exact .inr rfl)) pgs_nil)))) (pss_cons (ps_if (pw_or (pt_not (pt_val (pe_call (ok_is_worth T) (hr.mono (by decide)) (by rfl) T.g_is_worth T.F_is_worth.kp T.b_is_worth .nil pass0 (pa_cons (pv 1) pa_nil)))) (pw_or1 (pt_not (pt_val (pe_callB call_isi (by rfl) T.m_isinstance (by decide +kernel) (pa_cons (pv 2) (pa_cons (pe_bltn (v := .ty "tuple") (u := .type "tuple") (by rfl) T.m_tuple (by decide +kernel) rfl) pa_nil))))))).pt (pss_one (ps_ret pe_bl)) pss_nil) (pss_cons (ps_if (pt_not (pt_val (pe_allX (own := [("time", 5)]) (k := 1) (hr.mono (by decide)) rfl sc_is_wave.nd (by rfl) T.m_all (by decide +kernel) B.TB_is_wave T.cd_is_wave rfl rfl (by decide +kernel) (blkOk_by (own := [("time", 5)]) (N := ["thing", "first", "times", "early", "late", "time"]) (sc := defScope s_is_wave) (by decide +kernel)) (pi_tup (pv 2)) (fun _ _ _ _ _ _ _ hr gd => (pg_name (i := 5) sc_is_wave.nd rfl (by first | exact .inl rfl | exact .inr rfl))) (fun _ _ _ _ _ _ _ hr gd => pts_nil) (fun _ _ _ _ _ _ _ hr gd => (pe_and (pe_call (ok_is_whole T) (hr.mono (by decide)) (by rfl) T.g_is_whole T.F_is_whole.kp T.b_is_whole .nil pass0 (pa_cons (pv 5) pa_nil)) (pe_one (pe_cmpR op_ge (pv 5) pe_int (nomark _))))) (fun _ => rfl)))) (pss_one (ps_ret pe_bl)) pss_nil) (pss_one (ps_ret (pe_allX (own := [("early", 3), ("late", 4)]) (k := 0) (hr.mono (by decide)) rfl sc_is_wave.nd (by rfl) T.m_all (by decide +kernel) B.TB_is_wave T.cd_is_wave rfl rfl (by decide +kernel) (blkOk_by (own := [("early", 3), ("late", 4)]) (N := ["thing", "first", "times", "early", "late", "time"]) (sc := defScope s_is_wave) (by decide +kernel)) (ZpG.pi_zip2 (by rfl) T.m_zip (pa_cons (pv 2) (pa_cons (pe_slice sl_tupA (pv 2) (po_some pe_int) po_none) pa_nil))) (fun _ _ _ _ _ _ _ hr gd => (show PG _ _ (gTup K 2 _) from pg_tup rfl (pgs_cons (pg_name (i := 3) sc_is_wave.nd rfl (by first | exact .inl rfl | exact .inr rfl)) (pgs_cons (pg_name (i := 4) sc_is_wave.nd rfl (by first | exact .inl rfl | exact .inr rfl)) pgs_nil)))) (fun _ _ _ _ _ _ _ hr gd => pts_nil) (fun _ _ _ _ _ _ _ hr gd => (pe_cmpR op_lt (pv 3) (pv 4) (nomark _))) (fun _ => rfl)))))))), ?_⟩
    refine ⟨v, rfl, _, _, _, _, _, rfl, .ty _, sh.ty, kit_ty (kitTup d), _, rfl, ite2 (fun e => ?_) (fun e => ?_)⟩
    · have q' := q H Gr.refl
      rw [wave_not (notT e)] at q'
      exact q'
    obtain ⟨ds, rfl⟩ := tup_of (notF e)
    cases sh with
    | @tup a xs _ h t =>
      have lx := t.length
      refine ⟨.ref a, rfl, a, xs, rfl, .inr (SqT.of h), rfl, _, rfl, ?_⟩
      have e2 : decide (V.int (xs.length : Int) = V.int 2) = decide (ds.length = 2) := by
        rw [lx]
        by_cases z : ds.length = 2
        · rw [decide_eq_true z, z]; rfl
        · rw [decide_eq_false z, decide_eq_false (fun k => z (by have := V.int.inj k; omega))]
      rw [e2]
      refine ite2 (fun e1 => ?_) (fun e1 => ?_)
      · have q' := q H Gr.refl
        rw [wave_len (fun z => by rw [z] at e1; cases e1)] at q'
        exact q'
      obtain ⟨d0, d1, rfl⟩ : ∃ d0 d1, ds = [d0, d1] := by
        have := of_decide_eq_true (notF e1)
        match ds, this with
        | [d0, d1], _ => exact ⟨d0, d1, rfl⟩
      cases t with
      | @cons v0 _ _ _ t0 t1 =>
        cases t1 with
        | @cons v1 _ _ _ t1 t2 =>
          cases t2
          refine ⟨.ref a, rfl, a, _, rfl, SqT.of h, rfl, _, _, rfl, _, _, rfl, rfl, ?_⟩
          refine ⟨v0, rfl, v0, d0, rfl, t0, _, rfl, ite2 (fun e3 => ?_) (fun e3 => ?_)⟩
          · have q' := q H Gr.refl
            rw [show isWaveD (.tuple [d0, d1]) = false from wave_worth (notT e3) d1] at q'
            exact q'
          have w0 : worthD d0 = true := notF e3
          refine ⟨v1, rfl, _, _, _, _, _, rfl, .ty _, t1.ty, kit_ty (kitTup d1), _, rfl, ite2 (fun e6 => ?_) (fun e6 => ?_)⟩
          · have q' := q H Gr.refl
            rw [show isWaveD (.tuple [d0, d1]) = false from wave_tup d0 (notT e6)] at q'
            exact q'
          obtain ⟨ts, rfl⟩ := tup_of (notF e6)
          cases t1 with
          | @tup b ys _ hb tb =>
            have ly := tb.length
            have val : isWaveD (.tuple [d0, .tuple ts]) = (ts.all timeD && risesD ts) := by
              show (worthD d0 && (ts.all timeD && risesD ts)) = _
              rw [w0, Bool.true_and]
            rw [val] at q
            refine ⟨.ref b, rfl, b, rfl, ⟨_, SqT.of hb⟩, tab, fun H2 tb2 => ?_⟩
            have g2 := Gr.tab tab tb2
            refine gx_tup (K := K) (a := b) (xs := ys) (fun j _ H' => Gr H H' ∧ (ts.take j).all timeD = true) ⟨g2, rfl⟩ (fun j _ H' _ e => SqT.of (e.1.tup hb)) ?_ ?_
            · rintro j x _ H' hx ⟨g3, p⟩
              obtain ⟨e0, he0, te0⟩ := tb.get hx
              have no : ¬ timeD e0 = true → (ts.all timeD && risesD ts) = false := fun z => by
                have : ts.all timeD = false := by
                  cases ea : ts.all timeD
                  · rfl
                  · exact absurd (List.all_eq_true.mp ea _ (List.mem_of_getElem? he0)) z
                rw [this]; rfl
              refine ⟨rfl, x, rfl, x, e0, rfl, te0.gr g3, _, rfl, ite2 (fun z => ?_) (fun z => ?_)⟩
              · obtain ⟨i, rfl⟩ := whole_int z
                cases te0
                refine ⟨.int i, rfl, _, _, rfl, rfl, _, rfl, ite2 (fun z2 => ⟨g3, ?_⟩) (fun z2 => ?_)⟩
                · rw [List.take_add_one, he0, List.all_append, p, Bool.true_and]
                  show (timeD (.int i) && true) = true
                  rw [Bool.and_true]
                  exact z2
                · have q' := q H' g3
                  rw [no z2] at q'
                  exact ⟨false, rfl, iteT q'⟩
              · have q' := q H' g3
                rw [no (fun k => z (by cases e0 <;> first | rfl | cases k))] at q'
                exact ⟨false, rfl, iteF ⟨false, rfl, iteT q'⟩⟩
            · rintro _ H' ⟨g3, p⟩
              rw [ly, List.take_length] at p
              rw [p, Bool.true_and] at q
              refine ⟨true, rfl, iteF ?_⟩
              have hb3 := g3.tup hb
              refine ⟨.ref b, rfl, .ref b, rfl, ((1 : Nat) : Int), rfl, slAn hb3 fun q1 H4 s4 h4 => ?_⟩
              rw [cut_from] at h4
              have g4 := g3.trans (Gr.of s4)
              refine ⟨.tu b, .tu q1, _, _, rfl, SqT.of (s4 _ _ hb3), SqT.of h4, g4.2 _ tab, fun H5 tb5 => ?_⟩
              have g5 := Gr.tab (g4.2 _ tab) tb5
              have g45 := g4.trans g5
              have hq5 := g5.tup h4
              refine gx_zip2u (K := K) (n := ys.length - 1) (xs1 := ys) (xs2 := ys.drop 1) (by omega) (by rw [List.length_drop]; exact Nat.le_refl _) (.inr (by rw [List.length_drop])) (fun j _ H' => Gr H5 H' ∧ ((ts.zip (ts.drop 1)).take j).all (fun z => ltD z.1 z.2) = true) ⟨Gr.refl, rfl⟩ (fun j _ H' _ e => ⟨SqT.of (e.1.tup (g45.tup hb)), SqT.of (e.1.tup hq5)⟩) ?_ ?_
              · rintro j x y t _ H6 hx hy nt ⟨g6, ih⟩
                obtain ⟨e0, he0, te0⟩ := tb.get hx
                rw [List.getElem?_drop] at hy
                obtain ⟨e1', he1, te1⟩ := tb.get hy
                have k0 := List.all_eq_true.mp p _ (List.mem_of_getElem? he0)
                have k1 := List.all_eq_true.mp p _ (List.mem_of_getElem? he1)
                obtain ⟨u, rfl⟩ : ∃ u, e0 = .int u := by cases e0 <;> first | exact ⟨_, rfl⟩ | cases k0
                obtain ⟨w', rfl⟩ : ∃ w', e1' = .int w' := by cases e1' <;> first | exact ⟨_, rfl⟩ | cases k1
                cases te0
                cases te1
                have g7 := g6.trans (Gr.none (o := .tup [V.int u, V.int w']) nt)
                have hz : (ts.zip (ts.drop 1))[j]? = some (.int u, .int w') := by
                  rw [List.getElem?_zip_eq_some]
                  exact ⟨he0, by rw [List.getElem?_drop]; exact he1⟩
                refine ⟨t, _, rfl, SqT.of upd_same, rfl, _, _, rfl, _, _, rfl, rfl, rfl, ?_⟩
                refine ⟨.int u, rfl, .int w', rfl, _, _, rfl, rfl, _, rfl, ite2 (fun z2 => ⟨g7, ?_⟩) (fun z2 => ?_)⟩
                · rw [List.take_add_one, hz, List.all_append, ih, Bool.true_and]
                  show (ltD (.int u) (.int w') && true) = true
                  rw [Bool.and_true]
                  exact z2
                · have q' := q _ (g45.trans g7)
                  have : risesD ts = false := by
                    cases ea : risesD ts
                    · rfl
                    · exact absurd (List.all_eq_true.mp ea _ (List.mem_of_getElem? hz)) z2
                  rw [this] at q'
                  exact q'
              · rintro _ H6 ⟨g6, ih⟩
                have q' := q H6 (g45.trans g6)
                have hl : (ts.zip (ts.drop 1)).length ≤ ys.length - 1 := by rw [List.length_zip, List.length_drop, ly]; omega
                rw [List.take_of_length_le hl] at ih
                rw [show risesD ts = true from ih] at q'
                exact q'

end
end Gk

set_option Elab.async false
set_option linter.all false
set_option maxRecDepth 100000
set_option maxHeartbeats 1000000
set_option pp.maxSteps 1500
set_option pp.deepTerms false
namespace Gk
open PySem PySem.Spec PyProof.Rows L2
section
variable {P : Program} {w : World} {K : PySem.W.Frag} {mg : Str → Option Value} {base : Heap}
/-! ### the law's own judge of waves -/
def sp_l_is_whole (K : PySem.W.Frag) : Sp := fun vs H Q _ => ∃ (v : V) (d : PyData), vs = [v] ∧ Sh H v d ∧ Q (.bl (wholeD d)) H
theorem ok_l_is_whole (T : Tx K mg) : FnOk P w K mg base CX0 1 T.f_l_is_whole T.fd_l_is_whole ["_law_thing"] (sp_l_is_whole K) := by
  refine T.F_l_is_whole.ok sc_l_is_whole (fun vs H Q E h => ?_) (fun cdv A outer s H vs Q E hr h => ?_)
  · obtain ⟨v, d, rfl, _⟩ := h
    rfl
  · obtain ⟨v, d, rfl, sh, q⟩ := h
    refine ⟨_, (pss_one (ps_ret (pe_and (pe_callB call_isi (by rfl) T.m_isinstance (by decide +kernel) (pa_cons (pv 0) (pa_cons (pe_bltn (v := .ty "int") (u := .type "int") (by rfl) T.m_int (by decide +kernel) rfl) pa_nil))) (pe_one (pe_not (pe_callB call_isi (by rfl) T.m_isinstance (by decide +kernel) (pa_cons (pv 0) (pa_cons (pe_bltn (v := .ty "bool") (u := .type "bool") (by rfl) T.m_bool (by decide +kernel) rfl) pa_nil)))))))), ?_⟩
    refine ⟨v, rfl, _, _, _, _, _, rfl, .ty _, sh.ty, kit_ty (kitInt d), _, rfl, ite2 (fun e => ?_) (fun e => ?_)⟩
    · refine ⟨v, rfl, _, _, _, _, _, rfl, .ty _, sh.ty, kit_ty (kitBool d), _, rfl, ?_⟩
      rw [← whole_of e]
      exact q
    · rw [whole_not e] at q
      exact q
theorem time_no {ts : List PyData} {j : Nat} {e0 : PyData} (h : ts[j]? = some e0) (z : ¬ timeD e0 = true) : (ts.all timeD && risesD ts) = false := by
  have : ts.all timeD = false := by
    cases ea : ts.all timeD
    · rfl
    · exact absurd (List.all_eq_true.mp ea _ (List.mem_of_getElem? h)) z
  rw [this]; rfl
theorem rise_no {ts : List PyData} {k : Nat} {x y : PyData} (hx : ts[k]? = some x) (hy : ts[k + 1]? = some y) (z : ¬ ltD x y = true) : (ts.all timeD && risesD ts) = false := by
  have : risesD ts = false := by
    cases ea : risesD ts
    · rfl
    · refine absurd (List.all_eq_true.mp ea (x, y) (List.mem_of_getElem? (i := k) ?_)) z
      rw [List.getElem?_zip_eq_some]
      exact ⟨hx, by rw [List.getElem?_drop, Nat.add_comm]; exact hy⟩
  rw [this, Bool.and_false]
def RisT (ts : List PyData) (j : Nat) (ahead : Int) : Prop := (∀ (k : Nat) (x : PyData), k < j → ts[k]? = some x → timeD x = true) ∧ (∀ (k : Nat) (x y : PyData), k + 1 < j → ts[k]? = some x → ts[k + 1]? = some y → ltD x y = true) ∧ ((j = 0 ∧ ahead = -1) ∨ ∃ k : Nat, j = k + 1 ∧ ts[k]? = some (.int ahead) ∧ 0 ≤ ahead)
theorem RisT.all {ts : List PyData} {ahead : Int} (R : RisT ts ts.length ahead) : (ts.all timeD && risesD ts) = true := by
  rw [Bool.and_eq_true]
  refine ⟨List.all_eq_true.mpr fun x hx => ?_, List.all_eq_true.mpr fun z hz => ?_⟩
  · obtain ⟨k, hk⟩ := List.getElem?_of_mem hx
    exact R.1 k x (List.getElem?_eq_some_iff.mp hk).1 hk
  · obtain ⟨k, hk⟩ := List.getElem?_of_mem hz
    rw [List.getElem?_zip_eq_some] at hk
    have h2 := hk.2
    rw [List.getElem?_drop, Nat.add_comm] at h2
    exact R.2.1 k _ _ (List.getElem?_eq_some_iff.mp h2).1 hk.1 h2
theorem RisT.step {ts : List PyData} {j : Nat} {ahead u : Int} (R : RisT ts j ahead) (h : ts[j]? = some (.int u)) (lt : ahead < u) : RisT ts (j + 1) u := by
  have u0 : 0 ≤ u := by rcases R.2.2 with ⟨_, e⟩ | ⟨_, _, _, e⟩ <;> omega
  refine ⟨fun k x hk hx => ?_, fun k x y hk hx hy => ?_, .inr ⟨j, rfl, h, u0⟩⟩
  · by_cases e : k = j
    · rw [e, h] at hx
      obtain rfl := Option.some.inj hx
      exact decide_eq_true u0
    · exact R.1 k x (by omega) hx
  · by_cases e : k + 1 = j
    · rcases R.2.2 with ⟨z, _⟩ | ⟨k', e', hk', _⟩
      · omega
      · have : k' = k := by omega
        rw [this, hx] at hk'
        obtain rfl := Option.some.inj hk'
        rw [e, h] at hy
        obtain rfl := Option.some.inj hy
        exact decide_eq_true lt
    · exact R.2.1 k x y (by omega) hx hy
theorem RisT.no {ts : List PyData} {j : Nat} {ahead u : Int} (R : RisT ts j ahead) (h : ts[j]? = some (.int u)) (le : u ≤ ahead) : (ts.all timeD && risesD ts) = false := by
  rcases R.2.2 with ⟨_, e⟩ | ⟨k, rfl, hk, _⟩
  · exact time_no h fun z => by
      have : 0 ≤ u := of_decide_eq_true z
      omega
  · exact rise_no hk h fun z => by
      have : ahead < u := of_decide_eq_true z
      omega
def sp_is (K : PySem.W.Frag) : Sp := fun vs H Q _ => ∃ (v : V) (d : PyData), vs = [v] ∧ Sh H v d ∧ ∀ H', Same H H' → Q (.bl (isWaveD d)) H'
theorem ok_is (T : Tx K mg) : FnOk P w K mg base CX0 2 T.f_is T.fd_is ["_law_thing"] (sp_is K) := by
  refine T.F_is.ok sc_is (fun vs H Q E h => ?_) (fun cdv A outer s H vs Q E hr h => ?_)
  · obtain ⟨v, d, rfl, _⟩ := h
    rfl
  · obtain ⟨v, d, rfl, sh, q⟩ := h
    refine ⟨_, (pss_cons (ps_if (pw_or (pt_not (pt_val (pe_callB call_isi (by rfl) T.m_isinstance (by decide +kernel) (pa_cons (pv 0) (pa_cons (pe_bltn (v := .ty "tuple") (u := .type "tuple") (by rfl) T.m_tuple (by decide +kernel) rfl) pa_nil))))) (pw_or (pt_cmpR op_ne (pe_callB call_len_seq (by rfl) T.m_len PySem.boot_len (pa_cons (pv 0) pa_nil)) pe_int (nomark _)) (pw_or1 (pt_not (pt_val (pe_callB call_isi (by rfl) T.m_isinstance (by decide +kernel) (pa_cons (pe_ix ix_tup (pv 0) pe_int (fun _ _ => rfl)) (pa_cons (pe_bltn (v := .ty "tuple") (u := .type "tuple") (by rfl) T.m_tuple (by decide +kernel) rfl) pa_nil)))))))).pt (pss_one (ps_ret pe_bl)) pss_nil) (pss_cons (ps_if (pw_or (pt_not (pt_val (pe_call (ok_l_is_whole T) (hr.mono (by decide)) (by rfl) T.g_l_is_whole T.F_l_is_whole.kp T.b_l_is_whole .nil pass0 (pa_cons (pe_ix ix_tup (pv 0) pe_int (fun _ _ => rfl)) pa_nil)))) (pw_or1 (pt_cmpR op_notIn_seq (pe_ix ix_tup (pv 0) pe_int (fun _ _ => rfl)) (pe_tup (pa_cons pe_int (pa_cons pe_int pa_nil))) rfl))).pt (pss_one (ps_ret pe_bl)) pss_nil) (pss_cons (ps_set (i := 1) sc_is.nd rfl (by first | exact .inl rfl | exact .inr rfl) (pe_un un_neg pe_int)) (pss_cons (ps_for PassesOwn.never rfl (pi_tup (pe_ix ix_tup (pv 0) pe_int (fun _ _ => rfl))) (pg_name (i := 2) sc_is.nd rfl (by first | exact .inl rfl | exact .inr rfl)) (pss_cons (ps_if (pw_or (pt_not (pt_val (pe_call (ok_l_is_whole T) (hr.mono (by decide)) (by rfl) T.g_l_is_whole T.F_l_is_whole.kp T.b_l_is_whole .nil pass0 (pa_cons (pv 2) pa_nil)))) (pw_or1 (pt_cmpR op_le (pv 2) (pv 1) (nomark _)))).pt (pss_one (ps_ret pe_bl)) pss_nil) (pss_one (ps_set (i := 1) sc_is.nd rfl (by first | exact .inl rfl | exact .inr rfl) (pv 2))))) (pss_one (ps_ret pe_bl)))))), ?_⟩
    refine ⟨v, rfl, _, _, _, _, _, rfl, .ty _, sh.ty, kit_ty (kitTup d), _, rfl, ite2 (fun e => ?_) (fun e => ?_)⟩
    · have q' := q H (Same.refl _)
      rw [wave_not (notT e)] at q'
      exact q'
    obtain ⟨ds, rfl⟩ := tup_of (notF e)
    cases sh with
    | @tup a xs _ h t =>
      have lx := t.length
      refine ⟨.ref a, rfl, a, xs, rfl, .inr (SqT.of h), rfl, _, rfl, ?_⟩
      have e2 : decide (V.int (xs.length : Int) = V.int 2) = decide (ds.length = 2) := by
        rw [lx]
        by_cases z : ds.length = 2
        · rw [decide_eq_true z, z]; rfl
        · rw [decide_eq_false z, decide_eq_false (fun k => z (by have := V.int.inj k; omega))]
      rw [e2]
      refine ite2 (fun e1 => ?_) (fun e1 => ?_)
      · have q' := q H (Same.refl _)
        rw [wave_len (fun z => by rw [z] at e1; cases e1)] at q'
        exact q'
      obtain ⟨d0, d1, rfl⟩ : ∃ d0 d1, ds = [d0, d1] := by
        have := of_decide_eq_true (notF e1)
        match ds, this with
        | [d0, d1], _ => exact ⟨d0, d1, rfl⟩
      cases t with
      | @cons v0 _ _ _ t0 t1 =>
        cases t1 with
        | @cons v1 _ _ _ t1 t2 =>
          cases t2
          refine ⟨.ref a, rfl, a, _, 1, v1, rfl, rfl, SqT.of h, rfl, _, _, _, _, _, rfl, .ty _, t1.ty, kit_ty (kitTup d1), _, rfl, ite2 (fun e6 => ?_) (fun e6 => ?_)⟩
          · have q' := q H (Same.refl _)
            rw [show isWaveD (.tuple [d0, d1]) = false from wave_tup d0 (notT e6)] at q'
            exact q'
          refine ⟨.ref a, rfl, a, _, 0, v0, rfl, rfl, SqT.of h, rfl, v0, d0, rfl, t0, _, rfl, ite2 (fun e3 => ?_) (fun e3 => ?_)⟩
          · have q' := q H (Same.refl _)
            rw [show isWaveD (.tuple [d0, d1]) = false from wave_worth (fun k => (notT e3) (by cases d0 <;> first | rfl | cases k)) d1] at q'
            exact q'
          obtain ⟨i, rfl⟩ := whole_int (notF e3)
          cases t0
          refine ⟨.ref a, rfl, a, _, 0, .int i, rfl, rfl, SqT.of h, rfl, sl2, fun t nt => ?_⟩
          have s1 := same_upd (o := (HO.tup [V.int 0, V.int 1])) nt
          have h1 : upd H t (HO.tup [V.int 0, V.int 1]) t = some (HO.tup [V.int 0, V.int 1]) := upd_same
          generalize upd H t (HO.tup [V.int 0, V.int 1]) = H1 at s1 h1 ⊢
          refine ⟨t, _, rfl, .inr (SqT.of h1), rfl, rfl, _, rfl, ?_⟩
          have ein : (if true = true then !inV (.int i) [V.int 0, V.int 1] else inV (.int i) [V.int 0, V.int 1]) = !worthD (.int i) := by
            rw [if_pos rfl]
            congr 1
            show (eqV (.int 0) (.int i) || (eqV (.int 1) (.int i) || false)) = (decide (0 ≤ i) && decide (i ≤ 1))
            by_cases z0 : i = 0
            · rw [z0]; rfl
            · by_cases z1 : i = 1
              · rw [z1]; rfl
              · have a1 : eqV (.int 0) (.int i) = false := by show ((0 : Int) == i) = false; exact beq_eq_false_iff_ne.mpr fun k => z0 k.symm
                have a2 : eqV (.int 1) (.int i) = false := by show ((1 : Int) == i) = false; exact beq_eq_false_iff_ne.mpr fun k => z1 k.symm
                rw [a1, a2]
                by_cases p0 : 0 ≤ i
                · rw [decide_eq_true p0, decide_eq_false (show ¬ i ≤ 1 by omega)]; rfl
                · rw [decide_eq_false p0]; rfl
          rw [ein]
          refine ite2 (fun e4 => ?_) (fun e4 => ?_)
          · have q' := q H1 s1
            rw [show isWaveD (.tuple [.int i, d1]) = false from wave_worth (notT e4) d1] at q'
            exact q'
          have w0 : worthD (.int i) = true := notF e4
          obtain ⟨ts, rfl⟩ := tup_of (notF e6)
          cases t1 with
          | @tup b ys _ hb tb =>
            have ly := tb.length
            have val : isWaveD (.tuple [.int i, .tuple ts]) = (ts.all timeD && risesD ts) := by
              show (worthD (.int i) && (ts.all timeD && risesD ts)) = _
              rw [w0, Bool.true_and]
            rw [val] at q
            refine ⟨_, rfl, .ref a, rfl, a, _, 1, .ref b, rfl, rfl, SqT.of (s1 _ _ h), rfl, b, rfl, ⟨_, SqT.of (s1 _ _ hb)⟩, for_tup (K := K) (a := b) (xs := ys) (fun j σ H' => ∃ ahead y2, σ = [some (.ref a), some (.int ahead), y2] ∧ Same H H' ∧ RisT ts j ahead) ⟨-1, _, rfl, s1, fun k x hk => by omega, fun k x y hk => by omega, .inl ⟨rfl, rfl⟩⟩ (fun j σ H' _ ⟨_, _, _, z, _⟩ => SqT.of (z _ _ hb)) ?_ ?_⟩
            · rintro j x σ H2 hx ⟨ahead, y2, rfl, s2, R⟩
              obtain ⟨e0, he0, te0⟩ := tb.get hx
              refine ⟨x, rfl, x, e0, rfl, te0.same s2, _, rfl, ite2 (fun z => ?_) (fun z => ?_)⟩
              · have q' := q H2 s2
                rw [time_no he0 (fun k => (notT z) (by cases e0 <;> first | rfl | cases k))] at q'
                exact q'
              obtain ⟨u, rfl⟩ := whole_int (notF z)
              cases te0
              refine ⟨.int u, rfl, .int ahead, rfl, _, _, rfl, rfl, _, rfl, ite2 (fun z2 => ?_) (fun z2 => ?_)⟩
              · have q' := q H2 s2
                rw [R.no he0 (of_decide_eq_true z2)] at q'
                exact q'
              · exact ⟨.int u, rfl, u, _, rfl, s2, R.step he0 (Int.not_le.mp fun k => z2 (decide_eq_true k))⟩
            · rintro σ H2 ⟨ahead, y2, rfl, s2, R⟩
              rw [ly] at R
              have q' := q H2 s2
              rw [R.all] at q'
              exact q'

end
end Gk

set_option Elab.async false
set_option linter.all false
set_option maxRecDepth 100000
set_option maxHeartbeats 1000000
set_option pp.maxSteps 1500
set_option pp.deepTerms false
namespace Gk
open PySem PySem.Spec PyProof.Rows L2
theorem str_len (x : String) : (Str.ofString x).length = x.length := PySem.ofString_length x
/-! ### what is spoilt stays small -/
mutual
def gd (B : Nat) : PyData → Bool
  | .none => true
  | .bool _ => true
  | .int i => decide (i.natAbs ≤ B)
  | .str x => x.cps.toList.all fun c => decide (c < 128)
  | .list xs => gds B xs
  | .tuple xs => gds B xs
  | .dict kvs => kvs.isEmpty
def gds (B : Nat) : List PyData → Bool
  | [] => true
  | x :: r => gd B x && gds B r
end
theorem gds_iff {B : Nat} : ∀ {l : List PyData}, gds B l = true ↔ ∀ x ∈ l, gd B x = true
  | [] => ⟨fun _ x hx => (by cases hx), fun _ => rfl⟩
  | y :: r => by
    show (gd B y && gds B r) = true ↔ _
    rw [Bool.and_eq_true, gds_iff (l := r)]
    exact ⟨fun ⟨a, b⟩ x hx => (List.mem_cons.mp hx).elim (fun e => e ▸ a) (b x), fun h => ⟨h y (List.mem_cons_self ..), fun x hx => h x (List.mem_cons_of_mem _ hx)⟩⟩
mutual
theorem gd_mono {B C : Nat} (h : B ≤ C) : ∀ {d : PyData}, gd B d = true → gd C d = true
  | .none, _ => rfl
  | .bool _, _ => rfl
  | .int _, e => decide_eq_true (Nat.le_trans (of_decide_eq_true e) h)
  | .str _, e => e
  | .list _, e => gds_mono h e
  | .tuple _, e => gds_mono h e
  | .dict _, e => e
theorem gds_mono {B C : Nat} (h : B ≤ C) : ∀ {l : List PyData}, gds B l = true → gds C l = true
  | [], _ => rfl
  | _ :: _, e => by
    have e' := Bool.and_eq_true_iff.mp e
    exact Bool.and_eq_true_iff.mpr ⟨gd_mono h e'.1, gds_mono h e'.2⟩
end
theorem small_log {i : Int} {B : Nat} (h : i.natAbs ≤ B) (hB : B < 2 ^ 190) : i.natAbs.log2 < 190 := by
  by_cases z : i.natAbs = 0
  · rw [z]; decide
  · exact (Nat.log2_lt z).mpr (Nat.lt_of_le_of_lt h hB)
mutual
theorem gd_show {B : Nat} (hB : B < 2 ^ 190) : ∀ {d : PyData}, gd B d = true → d.showable = true ∧ d.leavesShort 200 = true
  | .none, _ => ⟨rfl, rfl⟩
  | .bool _, _ => ⟨rfl, rfl⟩
  | .int i, e => by
    have l := small_log (of_decide_eq_true e) hB
    refine ⟨decide_eq_true (Nat.lt_trans l (by decide)), decide_eq_true ?_⟩
    have := PySem.int_text_length_le (a := i) (k := 190) (by decide) l
    show (Str.ofString (toString i)).length ≤ 200
    rw [str_len]
    omega
  | .str x, e => by
    refine ⟨rfl, ?_⟩
    show (x.cps.toList.all fun c => decide (c < 16 ^ 8)) = true
    refine List.all_eq_true.mpr fun c hc => decide_eq_true (Nat.lt_trans (of_decide_eq_true (List.all_eq_true.mp e c hc)) (by decide))
  | .list _, e => gds_show hB e
  | .tuple _, e => gds_show hB e
  | .dict [], _ => ⟨rfl, rfl⟩
  | .dict (_ :: _), e => by cases e
theorem gds_show {B : Nat} (hB : B < 2 ^ 190) : ∀ {l : List PyData}, gds B l = true → PyData.showableAll l = true ∧ PyData.leavesShortAll 200 l = true
  | [], _ => ⟨rfl, rfl⟩
  | _ :: _, e => by
    have e' := Bool.and_eq_true_iff.mp e
    have a := gd_show hB e'.1
    have b := gds_show hB e'.2
    exact ⟨Bool.and_eq_true_iff.mpr ⟨a.1, b.1⟩, Bool.and_eq_true_iff.mpr ⟨a.2, b.2⟩⟩
end
def Fit (B n m : Nat) (d : PyData) : Prop := gd B d = true ∧ d.weight ≤ n ∧ d.depth ≤ m
def FitL (B n m : Nat) (ds : List PyData) : Prop := gds B ds = true ∧ PyData.weightAll ds ≤ n ∧ PyData.depthAll ds ≤ m
theorem Fit.mono {B n m B' n' m' : Nat} {d : PyData} (h : Fit B n m d) (a : B ≤ B') (b : n ≤ n') (c : m ≤ m') : Fit B' n' m' d := ⟨gd_mono a h.1, Nat.le_trans h.2.1 b, Nat.le_trans h.2.2 c⟩
theorem Fit.tup {B n m : Nat} {ds : List PyData} (h : FitL B n m ds) : Fit B n (m + 1) (.tuple ds) := ⟨h.1, h.2.1, Nat.succ_le_succ h.2.2⟩
theorem Fit.lst {B n m : Nat} {ds : List PyData} (h : FitL B n m ds) : Fit B n (m + 1) (.list ds) := ⟨h.1, h.2.1, Nat.succ_le_succ h.2.2⟩
theorem Fit.inv {B n m : Nat} {ds : List PyData} (h : Fit B n (m + 1) (.tuple ds)) : FitL B n m ds := ⟨h.1, h.2.1, Nat.le_of_succ_le_succ h.2.2⟩
theorem Fit.fine {B n m : Nat} {d : PyData} (h : Fit B n m d) (hB : B < 2 ^ 190) (hn : n ≤ 50000) (hm : m ≤ 50) : d.showable = true ∧ d.shown.length ≤ sizeLine ∧ d.depth ≤ 50 := by
  have s := gd_show hB h.1
  exact ⟨s.1, fine_fits (n := n) (m := m) (fine_iff.mpr ⟨s.1, s.2, h.2.1, h.2.2⟩) hn, Nat.le_trans h.2.2 hm⟩
theorem weight_app : ∀ a b : List PyData, PyData.weightAll (a ++ b) = PyData.weightAll a + PyData.weightAll b
  | [], b => (Nat.zero_add _).symm
  | x :: r, b => by
    show x.weight + 1 + PyData.weightAll (r ++ b) = x.weight + 1 + PyData.weightAll r + PyData.weightAll b
    rw [weight_app r b]
    omega
theorem depth_app : ∀ a b : List PyData, PyData.depthAll (a ++ b) = max (PyData.depthAll a) (PyData.depthAll b)
  | [], b => (Nat.zero_max _).symm
  | x :: r, b => by
    show max x.depth (PyData.depthAll (r ++ b)) = max (max x.depth (PyData.depthAll r)) (PyData.depthAll b)
    rw [depth_app r b, Nat.max_assoc]
theorem FitL.app {B n n' m : Nat} {a b : List PyData} (h : FitL B n m a) (g : FitL B n' m b) : FitL B (n + n') m (a ++ b) := by
  refine ⟨gds_iff.mpr fun x hx => ?_, ?_, ?_⟩
  · rcases List.mem_append.mp hx with z | z
    · exact gds_iff.mp h.1 x z
    · exact gds_iff.mp g.1 x z
  · rw [weight_app]
    exact Nat.add_le_add h.2.1 g.2.1
  · rw [depth_app]
    exact Nat.max_le.mpr ⟨h.2.2, g.2.2⟩
theorem FitL.parts {B n m : Nat} {a b : List PyData} (h : FitL B n m (a ++ b)) : FitL B n m a ∧ FitL B n m b := by
  obtain ⟨h1, h2, h3⟩ := h
  rw [weight_app] at h2
  rw [depth_app] at h3
  exact ⟨⟨gds_iff.mpr fun x hx => gds_iff.mp h1 x (List.mem_append_left _ hx), by omega, by omega⟩, ⟨gds_iff.mpr fun x hx => gds_iff.mp h1 x (List.mem_append_right _ hx), by omega, by omega⟩⟩
theorem FitL.take {B n m : Nat} {a : List PyData} (h : FitL B n m a) (k : Nat) : FitL B n m (a.take k) := by
  rw [← List.take_append_drop k a] at h
  exact h.parts.1
theorem FitL.drop {B n m : Nat} {a : List PyData} (h : FitL B n m a) (k : Nat) : FitL B n m (a.drop k) := by
  rw [← List.take_append_drop k a] at h
  exact h.parts.2
theorem FitL.one {B n m : Nat} {d : PyData} (h : Fit B n m d) : FitL B (n + 1) m [d] := by
  refine ⟨gds_iff.mpr fun x hx => by rw [List.mem_singleton.mp hx]; exact h.1, ?_, ?_⟩
  · show d.weight + 1 + 0 ≤ n + 1
    have := h.2.1
    omega
  · show max d.depth 0 ≤ m
    have := h.2.2
    omega
theorem FitL.get {B n m : Nat} {ds : List PyData} (h : FitL B n m ds) {j : Nat} {d : PyData} (e : ds[j]? = some d) : Fit B n m d := by
  have s : ds = ds.take j ++ [d] ++ ds.drop (j + 1) := by
    obtain ⟨hl, e'⟩ := List.getElem?_eq_some_iff.mp e
    rw [← e', List.append_assoc, List.singleton_append, List.getElem_cons_drop, List.take_append_drop]
  rw [s] at h
  obtain ⟨h1, h2, h3⟩ := h.parts.1.parts.2
  refine ⟨gds_iff.mp h1 d (List.mem_singleton.mpr rfl), ?_, ?_⟩
  · have : d.weight + 1 + 0 ≤ n := h2
    omega
  · have : max d.depth 0 ≤ m := h3
    omega
theorem weight_rev (a : List PyData) : PyData.weightAll a.reverse = PyData.weightAll a := by
  induction a with
  | nil => rfl
  | cons x r ih =>
    rw [List.reverse_cons, weight_app, ih]
    show PyData.weightAll r + (x.weight + 1 + 0) = x.weight + 1 + PyData.weightAll r
    omega
theorem depth_rev (a : List PyData) : PyData.depthAll a.reverse = PyData.depthAll a := by
  induction a with
  | nil => rfl
  | cons x r ih =>
    rw [List.reverse_cons, depth_app, ih]
    show max (PyData.depthAll r) (max x.depth 0) = max x.depth (PyData.depthAll r)
    omega
theorem FitL.rev {B n m : Nat} {a : List PyData} (h : FitL B n m a) : FitL B n m a.reverse :=
  ⟨gds_iff.mpr fun x hx => gds_iff.mp h.1 x (List.mem_reverse.mp hx), by rw [weight_rev]; exact h.2.1, by rw [depth_rev]; exact h.2.2⟩
theorem ShAll.rev {H : Hp} : ∀ {xs : List V} {ds : List PyData}, ShAll H xs ds → ShAll H xs.reverse ds.reverse
  | _, _, .nil => .nil
  | _, _, .cons a r => by
    rw [List.reverse_cons, List.reverse_cons]
    exact (ShAll.rev r).append (.cons a .nil)

section
variable {P : Program} {w : World} {K : PySem.W.Frag} {mg : Str → Option Value} {base : Heap}
/-! ### is one thing told rightly -/
def sp_right (T : Tx K mg) : Sp := fun vs H Q _ => ∃ (v : V) (d : PyData) (B N M : Nat), vs = [v] ∧ Sh H v d ∧ Fit B N M d ∧ B < 2 ^ 190 ∧ N ≤ 50000 ∧ M ≤ 50 ∧ GxR.TabG H T.P_is_wave ∧ ∀ H', Gr H H' → Q (.bl true) H'
theorem ok_right (T : Tx K mg) (B : Tb base T) : FnG P w K mg base CX0 4 T.f_right T.fd_right ["_law_thing"] (sp_right T) := by
  refine okG0 T.F_right sc_right (fun vs H Q E h => ?_) (fun cdv A outer s H vs Q E nothing hr h => ?_)
  · obtain ⟨v, d, B, N, M, rfl, _⟩ := h
    rfl
  · obtain ⟨v, d, B', N, M, rfl, sh, fit, hB, hN, hM, tab, q⟩ := h
    refine ⟨_, (pss_cons (ps_set (i := 1) sc_right.nd rfl (by first | exact .inl rfl | exact .inr rfl) (pe_callB (call_repr nothing hr.units) (by rfl) T.m_repr (by decide +kernel) (pa_cons (pv 0) pa_nil))) (pss_cons (ps_for PassesOwn.never rfl (pi_range1 (by rfl) T.m_range (pa_cons pe_int pa_nil)) (pg_name (i := 2) sc_right.nd rfl (by first | exact .inl rfl | exact .inr rfl)) (pss_cons (ps_set (i := 3) sc_right.nd rfl (by first | exact .inl rfl | exact .inr rfl) (pe_call (ok_is_wave T B) (hr.mono (by decide)) (by rfl) T.g_is_wave T.F_is_wave.kp T.b_is_wave .nil pass0 (pa_cons (pv 0) pa_nil))) (pss_one (ps_if (pw_or (pt_not (pt_val (pe_callB call_isi (by rfl) T.m_isinstance (by decide +kernel) (pa_cons (pv 3) (pa_cons (pe_bltn (v := .ty "bool") (u := .type "bool") (by rfl) T.m_bool (by decide +kernel) rfl) pa_nil))))) (pw_or (pt_cmpR op_ne (pv 3) (pe_call (ok_is T) (hr.mono (by decide)) (by rfl) T.g_is T.F_is.kp T.b_is .nil pass0 (pa_cons (pv 0) pa_nil)) (nomark _)) (pw_or1 (pt_cmpR op_ne (pe_callB (call_repr nothing hr.units) (by rfl) T.m_repr (by decide +kernel) (pa_cons (pv 0) pa_nil)) (pv 1) (nomark _))))).pt (pss_one (ps_ret pe_bl)) pss_nil)))) (pss_one (ps_ret pe_bl)))), ?_⟩
    obtain ⟨f1, f2, f3⟩ := fit.fine hB hN hM
    refine ⟨v, rfl, v, d, rfl, sh, f1, f2, f3, 2, rfl, by decide, by decide, for_range (lo := 0) (n := (2 : Int).toNat) (fun i σ H' => ∃ y2 y3, σ = [some v, some (.str d.shown), y2, y3] ∧ Gr H H') ⟨_, _, rfl, Gr.refl⟩ ?_ ?_⟩
    · rintro i σ H1 hi ⟨y2, y3, rfl, g1⟩
      have sh1 := sh.gr g1
      refine ⟨v, rfl, v, d, rfl, sh1, g1.2 _ tab, fun H2 g2 => ?_⟩
      have sh2 := sh1.gr g2
      refine ⟨.bl (isWaveD d), rfl, _, _, _, _, _, rfl, .ty _, (Sh.bl (H := H2) (isWaveD d)).ty, kit_ty (kitBool (.bool (isWaveD d))), _, rfl, iteF ?_⟩
      refine ⟨.bl (isWaveD d), rfl, v, rfl, v, d, rfl, sh2, fun H3 s3 => ⟨rfl, _, rfl, ?_⟩⟩
      rw [decide_eq_true rfl]
      refine iteF ?_
      refine ⟨v, rfl, v, d, rfl, sh2.same s3, f1, f2, f3, .str _, rfl, rfl, _, rfl, ?_⟩
      rw [decide_eq_true rfl]
      exact iteF ⟨_, _, rfl, (g1.trans g2).trans (Gr.of s3)⟩
    · rintro σ H1 ⟨y2, y3, rfl, g1⟩
      exact q H1 g1

end
end Gk

set_option Elab.async false
set_option linter.all false
set_option maxRecDepth 100000
set_option maxHeartbeats 1000000
set_option pp.maxSteps 1500
set_option pp.deepTerms false
namespace Gk
open PySem PySem.Spec PyProof.Rows L2
section
variable {P : Program} {w : World} {K : PySem.W.Frag} {mg : Str → Option Value} {base : Heap}
/-! ### what a wave is worth, by the law -/
def worM (f x : Int) (ts : List Int) : Int := if (f = 1) = ((doneM ts x) % 2 = 1) then 0 else 1
def sp_l_worth (K : PySem.W.Frag) : Sp := fun vs H Q _ => ∃ (c t : Addr) (f x : Int) (ts : List Int), vs = [.ref c, .int x] ∧ H c = some (.tup [.int f, .ref t]) ∧ H t = some (.tup (ts.map V.int)) ∧ (f = 0 ∨ f = 1) ∧ Q (.int (worM f x ts)) H
theorem ok_worth (T : Tx K mg) : FnOk P w K mg base CX0 1 T.f_worth T.fd_worth ["_law_wave_here", "_law_time"] (sp_l_worth K) := by
  refine T.F_worth.ok sc_worth (fun vs H Q E h => ?_) (fun cdv A outer s H vs Q E hr h => ?_)
  · obtain ⟨c, t, f, x, ts, rfl, _⟩ := h
    rfl
  · obtain ⟨c, t, f, x, ts, rfl, hc, ht, hf, q⟩ := h
    refine ⟨_, (pss_cons (ps_set (i := 2) sc_worth.nd rfl (by first | exact .inl rfl | exact .inr rfl) (pe_ix ix_tup (pv 0) pe_int (fun _ _ => rfl))) (pss_cons (ps_for PassesOwn.never rfl (pi_tup (pe_ix ix_tup (pv 0) pe_int (fun _ _ => rfl))) (pg_name (i := 3) sc_worth.nd rfl (by first | exact .inl rfl | exact .inr rfl)) (pss_one (ps_if (pt_cmpR op_le (pv 3) (pv 1) (nomark _)) (pss_one (ps_set (i := 2) sc_worth.nd rfl (by first | exact .inl rfl | exact .inr rfl) (pe_op op_sub pe_int (pv 2)))) pss_nil))) (pss_one (ps_ret (pv 2))))), ?_⟩
    have w0 : worM f x [] = f := by
      show (if (f = 1) = (0 % 2 = 1) then (0 : Int) else 1) = f
      rcases hf with rfl | rfl <;> simp
    have step : ∀ (l : List Int) (u : Int), worM f x (l ++ [u]) = if decide (u ≤ x) = true then 1 - worM f x l else worM f x l := fun l u => by
      unfold worM doneM
      rw [List.filter_append]
      by_cases z : u ≤ x
      · rw [if_pos (decide_eq_true z)]
        have : [u].filter (fun t => decide (t ≤ x)) = [u] := by rw [List.filter_cons, if_pos (decide_eq_true z), List.filter_nil]
        rw [this, List.length_append]
        generalize (l.filter fun t => decide (t ≤ x)).length = k
        show (if (f = 1) = ((k + 1) % 2 = 1) then (0 : Int) else 1) = 1 - (if (f = 1) = (k % 2 = 1) then 0 else 1)
        have hk : (k % 2 = 0 ∧ (k + 1) % 2 = 1) ∨ (k % 2 = 1 ∧ (k + 1) % 2 = 0) := by omega
        rcases hf with rfl | rfl <;> rcases hk with ⟨h1, h2⟩ | ⟨h1, h2⟩ <;> simp [h1, h2]
      · rw [if_neg (fun k => z (of_decide_eq_true k))]
        have : [u].filter (fun t => decide (t ≤ x)) = [] := by rw [List.filter_cons, if_neg (fun k => z (of_decide_eq_true k)), List.filter_nil]
        rw [this, List.append_nil]
    refine ⟨.ref c, rfl, c, _, 0, .int f, rfl, rfl, SqT.of hc, rfl, .ref c, rfl, c, _, 1, .ref t, rfl, rfl, SqT.of hc, rfl, t, rfl, ⟨_, SqT.of ht⟩, for_tup (K := K) (a := t) (xs := ts.map V.int) (fun j σ H' => ∃ y3, σ = [some (.ref c), some (.int x), some (.int (worM f x (ts.take j))), y3] ∧ H' = H) ⟨_, by rw [List.take_zero, w0]; rfl, rfl⟩ (fun j σ H' _ ⟨_, _, z⟩ => by rw [z]; exact SqT.of ht) ?_ ?_⟩
    · rintro j v σ H1 hv ⟨y3, rfl, rfl⟩
      obtain ⟨u, hu, rfl⟩ : ∃ u, ts[j]? = some u ∧ v = V.int u := by
        rw [List.getElem?_map] at hv
        obtain ⟨u, hu, e⟩ := Option.map_eq_some_iff.mp hv
        exact ⟨u, hu, e.symm⟩
      have st := step (ts.take j) u
      have et : ts.take (j + 1) = ts.take j ++ [u] := by rw [List.take_add_one, hu]; rfl
      rw [← et] at st
      refine ⟨.int u, rfl, .int x, rfl, _, _, rfl, rfl, _, rfl, ite2 (fun z => ?_) (fun z => ?_)⟩
      · rw [if_pos z] at st
        exact ⟨.int _, rfl, _, _, rfl, rfl, _, by rw [st]; rfl, rfl⟩
      · rw [if_neg z] at st
        exact ⟨_, by rw [st]; rfl, rfl⟩
    · rintro σ H1 ⟨y3, rfl, rfl⟩
      rw [List.length_map, List.take_length]
      exact ⟨_, rfl, q⟩

end
end Gk

set_option Elab.async false
set_option linter.all false
set_option maxRecDepth 100000
set_option maxHeartbeats 1000000
set_option pp.maxSteps 1500
set_option pp.deepTerms false
namespace Gk
open PySem PySem.Spec PyProof.Rows L2
/-! ### what a draw keeps -/
theorem Ts.frF {H H' : Hp} {d l : Addr} {n : Int} (D : DeckF H d l n) (f : Fr d l H H') : Ts H H' := fun b xs e => by
  obtain ⟨ne, cs, z, y, hd, hl, r⟩ := D
  exact f b _ (ne_of e hd (by intro z; cases z)) (ne_of e hl (by intro z; cases z)) e
theorem tab_frF {H H' : Hp} {d l P : Addr} {n : Int} (D : DeckF H d l n) (f : Fr d l H H') (t : GxR.TabG H P) : GxR.TabG H' P := by
  obtain ⟨ps, e, tr⟩ := t
  obtain ⟨ne, cs, z, y, hd, hl, r⟩ := D
  exact ⟨ps, f _ _ (ne_of e hd (by intro z; cases z)) (ne_of e hl (by intro z; cases z)) e, tr⟩
theorem none_of_frF {d l p : Addr} {H H' : Hp} {n : Int} (f : Fr d l H H') (D : DeckF H' d l n) (h : H' p = none) : H p = none := by
  have o := D.off h
  cases z : H p with
  | none => rfl
  | some u => rw [f _ _ o.1 o.2 z] at h; cases h

/-! ### heaps without some places -/
def hid (as : List Addr) (H : Hp) : Hp := fun b => if b ∈ as then none else H b
theorem hid_at {as : List Addr} {H : Hp} {b : Addr} (h : b ∉ as) : hid as H b = H b := if_neg h
theorem hid_in {as : List Addr} {H : Hp} {b : Addr} (h : b ∈ as) : hid as H b = none := if_pos h
theorem hid_le {as : List Addr} {H : Hp} : Same (hid as H) H := fun b o e => by
  by_cases h : b ∈ as
  · rw [hid_in h] at e; cases e
  · rw [hid_at h] at e; exact e
theorem hid_sub {as bs : List Addr} {H : Hp} (h : ∀ b ∈ bs, b ∈ as) : Same (hid as H) (hid bs H) := fun b o e => by
  by_cases ha : b ∈ as
  · rw [hid_in ha] at e; cases e
  · rw [hid_at ha] at e
    rw [hid_at (fun z => ha (h b z))]
    exact e
theorem hid_same {as : List Addr} {H H' : Hp} (s : Same H H') : Same (hid as H) (hid as H') := fun b o e => by
  by_cases ha : b ∈ as
  · rw [hid_in ha] at e; cases e
  · rw [hid_at ha] at e ⊢
    exact s _ _ e
theorem hid_fr {as : List Addr} {d l : Addr} {H H' : Hp} (f : Fr d l H H') (hd : d ∈ as) (hl : l ∈ as) : Same (hid as H) (hid as H') := fun b o e => by
  by_cases ha : b ∈ as
  · rw [hid_in ha] at e; cases e
  · rw [hid_at ha] at e ⊢
    exact f _ _ (fun z => ha (z ▸ hd)) (fun z => ha (z ▸ hl)) e
theorem hid_upd {as : List Addr} {H : Hp} {p : Addr} {o : HO} (h : p ∈ as) : Same (hid as H) (hid as (upd H p o)) := fun b x e => by
  by_cases ha : b ∈ as
  · rw [hid_in ha] at e; cases e
  · rw [hid_at ha] at e ⊢
    rw [upd_ne (show b ≠ p from fun z => ha (by rw [z]; exact h))]
    exact e

/-! ### the deck hidden -/
theorem DeckF.out {H : Hp} {d l p : Addr} {n : Int} (D : DeckF H d l n) (h : H p = none) : p ∉ [d, l] := by
  obtain ⟨a, b⟩ := D.off h
  intro z
  rcases List.mem_cons.mp z with z | z
  · exact a z
  · exact b (List.mem_singleton.mp z)
theorem in_d {d l : Addr} : d ∈ [d, l] := List.mem_cons_self ..
theorem in_l {d l : Addr} : l ∈ [d, l] := List.mem_cons_of_mem _ (List.mem_cons_self ..)
theorem pick_sh {H : Hp} {xs : List V} {ds : List PyData} {B n m : Nat} (t : ShAll H xs ds) (f : ∀ d ∈ ds, Fit B n m d) {j : Int} (h0 : 0 ≤ j) (h1 : j < xs.length) : ∃ x d, atI xs j = some x ∧ Sh H x d ∧ Fit B n m d := by
  obtain ⟨k, rfl⟩ := Int.eq_ofNat_of_zero_le h0
  have hk : k < xs.length := by omega
  obtain ⟨d, hd, td⟩ := t.get (List.getElem?_eq_getElem hk)
  exact ⟨_, d, atI_nat (List.getElem?_eq_getElem hk), td, f d (List.mem_of_getElem? hd)⟩
structure DA (as : List Addr) (H : Hp) (d l : Addr) (n : Int) : Prop where
  d1 : DeckF H d l n
  hd : d ∈ as
  hl : l ∈ as
  liv : ∀ b ∈ as, ∃ o, H b = some o ∧ ∀ xs, o ≠ HO.tup xs
theorem DA.same {as : List Addr} {H H' : Hp} {d l : Addr} {n : Int} (D : DA as H d l n) (s : Same H H') : DA as H' d l n := ⟨D.d1.same s, D.hd, D.hl, fun b hb => by
  obtain ⟨o, e, no⟩ := D.liv b hb
  exact ⟨o, s _ _ e, no⟩⟩
theorem DA.mono {as : List Addr} {H : Hp} {d l : Addr} {n m : Int} (D : DA as H d l n) (h : n ≤ m) : DA as H d l m := ⟨D.d1.mono h, D.hd, D.hl, D.liv⟩
theorem DA.off {as : List Addr} {H : Hp} {d l p : Addr} {n : Int} (D : DA as H d l n) (h : H p = none) : p ≠ d ∧ p ≠ l := D.d1.off h
theorem DA.out {as : List Addr} {H : Hp} {d l p : Addr} {n : Int} (D : DA as H d l n) (h : H p = none) : p ∉ as := fun z => by
  obtain ⟨o, e, _⟩ := D.liv p z
  rw [h] at e
  cases e
theorem DA.tupOut {as : List Addr} {H : Hp} {d l p : Addr} {n : Int} {xs : List V} (D : DA as H d l n) (h : H p = some (.tup xs)) : p ∉ as := fun z => by
  obtain ⟨o, e, no⟩ := D.liv p z
  rw [h] at e
  exact no xs (Option.some.inj e).symm
theorem DA.fr {as : List Addr} {H H' : Hp} {d l : Addr} {n m : Int} (D : DA as H d l n) (D' : DeckF H' d l m) (f : Fr d l H H') : DA as H' d l m := ⟨D', D.hd, D.hl, fun b hb => by
  obtain ⟨ne, cs, y, z, hd, hl, r⟩ := D'
  by_cases b1 : b = d
  · rw [b1]
    exact ⟨_, hd, fun xs z => by cases z⟩
  by_cases b2 : b = l
  · rw [b2]
    exact ⟨_, hl, fun xs z => by cases z⟩
  obtain ⟨o, e, no⟩ := D.liv b hb
  exact ⟨o, f _ _ b1 b2 e, no⟩⟩
theorem DeckF.da {H : Hp} {d l : Addr} {n : Int} (D : DeckF H d l n) : DA [d, l] H d l n := by
  refine ⟨D, in_d, in_l, fun b hb => ?_⟩
  obtain ⟨ne, cs, y, z, hd, hl, r⟩ := D
  rcases List.mem_cons.mp hb with b1 | b1
  · rw [b1]
    exact ⟨_, hd, fun xs z => by cases z⟩
  · rw [List.mem_singleton.mp b1]
    exact ⟨_, hl, fun xs z => by cases z⟩
theorem sh_tup {as : List Addr} {H : Hp} {d l p : Addr} {n : Int} {xs : List V} {ds : List PyData} (D : DA as H d l n) (h : H p = some (.tup xs)) (t : ShAll (hid as H) xs ds) : Sh (hid as H) (.ref p) (.tuple ds) := .tup (by rw [hid_at (D.tupOut h)]; exact h) t
theorem fit_S {B n m : Nat} {l : List Nat} (h : ∀ c ∈ l, c < 128) (hl : l.length ≤ n) : Fit B n m (.str (SX.S l)) := by
  refine ⟨List.all_eq_true.mpr fun c hc => decide_eq_true (h c (by simpa using hc)), ?_, Nat.zero_le _⟩
  show l.toArray.size ≤ n
  rw [List.size_toArray]
  exact hl
theorem nat_chars (n : Nat) : ∀ c ∈ (Nat.repr n).toList, c.toNat < 128 := by
  intro c hc
  have hc' : c ∈ Nat.toDigits 10 n := by
    have e : (Nat.repr n).toList = Nat.toDigits 10 n := by
      unfold Nat.repr
      exact String.toList_ofList
    rw [e] at hc
    exact hc
  have hd := Nat.isDigit_of_mem_toDigits (by decide) (by decide) hc'
  unfold Char.isDigit at hd
  have h2 := of_decide_eq_true (Bool.and_eq_true_iff.mp hd).2
  have h3 : c.toNat ≤ 57 := h2
  omega
theorem int_chars (i : Int) : ∀ c ∈ (toString i).toList, c.toNat < 128 := by
  cases i with
  | ofNat m => exact nat_chars m
  | negSucc m =>
    intro c hc
    have e : toString (Int.negSucc m) = "-" ++ Nat.repr (m + 1) := rfl
    rw [e, String.toList_append] at hc
    rcases List.mem_append.mp hc with h | h
    · have : c = '-' := by simpa using h
      subst this
      decide
    · exact nat_chars _ c h
theorem cutS_to (l : List Nat) (k : Nat) : cutS (SX.S l) none (some (k : Int)) = SX.S (l.take k) := by
  unfold cutS
  rw [SX.S_len, HT.sIx_none, HT.sIx_nat, List.drop_zero, Nat.sub_zero]
  show SX.S (l.take (min k l.length)) = SX.S (l.take k)
  by_cases h : k ≤ l.length
  · rw [Nat.min_eq_left h]
  · rw [Nat.min_eq_right (by omega), List.take_length, List.take_of_length_le (by omega)]
theorem cutS_from (l : List Nat) (k : Nat) : cutS (SX.S l) (some (k : Int)) none = SX.S (l.drop k) := by
  unfold cutS
  rw [SX.S_len, HT.sIx_none, HT.sIx_nat]
  show SX.S ((l.drop (min k l.length)).take (l.length - min k l.length)) = SX.S (l.drop k)
  congr 1
  by_cases h : k ≤ l.length
  · rw [Nat.min_eq_left h]
    exact List.take_of_length_le (by rw [List.length_drop]; exact Nat.le_refl _)
  · rw [Nat.min_eq_right (by omega), Nat.sub_self, List.take_zero, List.drop_eq_nil_of_le (by omega)]
theorem len_weight : ∀ ds : List PyData, ds.length ≤ PyData.weightAll ds
  | [] => Nat.le_refl _
  | x :: r => by
    show r.length + 1 ≤ x.weight + 1 + PyData.weightAll r
    have := len_weight r
    omega
theorem fit_put {B n m k : Nat} {ds : List PyData} {dk d0 : PyData} (hk : ds[k]? = some dk) (fl : FitL B n m ds) (f0 : Fit B n m d0) : Fit B (n + (n + 1)) (m + 1) (.tuple ((ds.take k ++ [d0]) ++ ds.drop (k + 1))) := by
  have e : ds = ds.take k ++ ([dk] ++ ds.drop (k + 1)) := by
    obtain ⟨hl, e'⟩ := List.getElem?_eq_some_iff.mp hk
    rw [← e', List.singleton_append, List.getElem_cons_drop, List.take_append_drop]
  have w : PyData.weightAll (ds.take k) + (PyData.weightAll [dk] + PyData.weightAll (ds.drop (k + 1))) ≤ n := by
    rw [← weight_app, ← weight_app, ← e]
    exact fl.2.1
  have one := FitL.one f0
  have a : FitL B (n + 1 + n + n) m ((ds.take k ++ [d0]) ++ ds.drop (k + 1)) := by
    have := ((fl.take k).app one).app (fl.drop (k + 1))
    exact ⟨this.1, Nat.le_trans this.2.1 (by omega), this.2.2⟩
  refine Fit.tup ⟨a.1, ?_, a.2.2⟩
  rw [weight_app, weight_app]
  have := one.2.1
  omega

end Gk

set_option Elab.async false
set_option linter.all false
set_option maxRecDepth 100000
set_option maxHeartbeats 1000000
set_option pp.maxSteps 1500
set_option pp.deepTerms false
namespace Gk
open PySem PySem.Spec PyProof.Rows L2
section
variable {P : Program} {w : World} {K : PySem.W.Frag} {mg : Str → Option Value} {base : Heap}
/-! ### the times to ask at -/
theorem cut_ints (ts : List Int) (lo hi : Option Int) : ∃ ys : List Int, cutV (ts.map V.int) lo hi = ys.map V.int ∧ ys.length ≤ ts.length := by
  unfold cutV
  rw [← List.map_drop, ← List.map_take]
  refine ⟨_, rfl, ?_⟩
  rw [List.length_take, List.length_drop]
  omega
def sp_times (K : PySem.W.Frag) : Sp := fun vs H Q _ => ∃ (d l : Addr) (n : Int) (c t : Addr) (f : Int) (ts : List Int), vs = [.ref d, .ref c] ∧ DeckF H d l n ∧ n < 900000 ∧ H c = some (.tup [.int f, .ref t]) ∧ H t = some (.tup (ts.map V.int)) ∧ ts.length ≤ 1000 ∧ ∀ r (xs : List Int) H', DeckF H' d l (n + 32) → Fr d l H H' → H' r = some (.lst (xs.map V.int)) → Q (.ref r) H'
theorem ok_times (T : Tx K mg) : FnOk P w K mg base CX0 8 T.f_times T.fd_times ["_law_deck_here", "_law_wave_here"] (sp_times K) := by
  refine T.F_times.ok sc_times (fun vs H Q E h => ?_) (fun cdv A outer s H vs Q E hr h => ?_)
  · obtain ⟨d, l, n, c, t, f, ts, rfl, _⟩ := h
    rfl
  · obtain ⟨d, l, n, c, t, f, ts, rfl, D, hn, hc, ht, hl, q⟩ := h
    refine ⟨_, (pss_cons (ps_set (i := 2) sc_times.nd rfl (by first | exact .inl rfl | exact .inr rfl) (pe_lst (pa_cons (pe_un un_neg pe_int) (pa_cons pe_int (pa_cons pe_int (pa_cons (pe_un un_neg (pe_op op_pow pe_int pe_int)) (pa_cons (pe_op op_pow pe_int pe_int) (pa_cons (pe_op op_sub pe_int (pe_call (ok_draw T) (hr.mono (by decide)) (by rfl) T.g_draw T.F_draw.kp T.b_draw .nil pass0 (pa_cons (pv 0) (pa_cons (pe_op op_pow pe_int pe_int) pa_nil)))) pa_nil)))))))) (pss_cons (ps_for PassesOwn.never rfl (pi_tup (pe_op op_catA (pe_slice sl_tupA (pe_ix ix_tup (pv 1) pe_int (fun _ _ => rfl)) po_none (po_some pe_int)) (pe_slice sl_tupA (pe_ix ix_tup (pv 1) pe_int (fun _ _ => rfl)) (po_some (pe_un un_neg pe_int)) po_none))) (pg_name (i := 3) sc_times.nd rfl (by first | exact .inl rfl | exact .inr rfl)) (pss_one (ps_set (i := 2) sc_times.nd rfl (by first | exact .inl rfl | exact .inr rfl) (pe_op op_cat (pv 2) (pe_lst (pa_cons (pe_op op_sub (pv 3) pe_int) (pa_cons (pv 3) (pa_cons (pe_op op_add (pv 3) pe_int) pa_nil)))))))) (pss_one (ps_ret (pv 2))))), ?_⟩
    refine ⟨_, rfl, _, _, rfl, rfl, ⟨by decide, by decide, by decide⟩, _, rfl, _, _, rfl, rfl, ⟨by decide, by decide, by decide⟩, .ref d, rfl, _, _, rfl, rfl, ⟨by decide, by decide, by decide⟩, d, l, _, n, rfl, D, by omega, by decide, by decide, fun H1 v D1 fr1 v0 v1 => ⟨_, _, rfl, rfl, ?_⟩⟩
    refine ⟨by show 6 ≤ sizeLine; decide, fun L nL => ?_⟩
    obtain ⟨xs0, e0, l0⟩ : ∃ xs0 : List Int, [V.int (-1), V.int 0, V.int 1, V.int (-(10 ^ (30 : Int).toNat)), V.int (10 ^ (32 : Int).toNat), V.int (0 - v)] = xs0.map V.int ∧ xs0.length = 6 := ⟨[-1, 0, 1, -(10 ^ (30 : Int).toNat), 10 ^ (32 : Int).toNat, 0 - v], rfl, rfl⟩
    show tSeq _ _ _ _ (upd H1 L (.lst [V.int (-1), V.int 0, V.int 1, V.int (-(10 ^ (30 : Int).toNat)), V.int (10 ^ (32 : Int).toNat), V.int (0 - v)]))
    rw [e0]
    have s2 := same_upd (o := (HO.lst (xs0.map V.int))) nL
    have h2 : upd H1 L (HO.lst (xs0.map V.int)) L = some (HO.lst (xs0.map V.int)) := upd_same
    generalize upd H1 L (HO.lst (xs0.map V.int)) = H2 at s2 h2 ⊢
    have ts1 := Ts.frF D fr1
    have hc2 := s2 _ _ (ts1 _ _ hc)
    have ht2 := s2 _ _ (ts1 _ _ ht)
    have D2 := D1.same s2
    have fr2 := fr1.trans (Fr.of (d := d) (l := l) s2)
    refine ⟨.ref c, rfl, c, _, 1, .ref t, rfl, rfl, SqT.of hc2, rfl, 6, rfl, slA ht2 fun q1 H3 s3 h3 => ?_⟩
    refine ⟨.ref c, rfl, c, _, 1, .ref t, rfl, rfl, SqT.of (s3 _ _ hc2), rfl, _, rfl, ?_⟩
    refine ⟨_, rfl, slAn (s3 _ _ ht2) fun q2 H4 s4 h4 => ?_⟩
    have h3' := s4 _ _ h3
    obtain ⟨y1, ey1, l1⟩ := cut_ints ts none (some 6)
    obtain ⟨y2, ey2, l2⟩ := cut_ints ts (some (-6)) none
    rw [ey1] at h3'
    have h4' : H4 q2 = some (.tup (y2.map V.int)) := by rw [← ey2]; exact h4
    refine catA h3' h4' ?_ fun q3 H5 s5 h5 => ?_
    · rw [List.length_map, List.length_map]
      exact Nat.le_trans (show y1.length + y2.length ≤ 2000 by omega) (by decide)
    rw [← List.map_append] at h5
    have l12 : (y1 ++ y2).length ≤ 2000 := by rw [List.length_append]; omega
    generalize y1 ++ y2 = ys at h5 l12
    have s25 := (s3.trans s4).trans s5
    have D5 := D2.same s25
    have fr5 := fr2.trans (Fr.of s25)
    refine ⟨q3, rfl, ⟨_, SqT.of h5⟩, for_tup (K := K) (a := q3) (xs := ys.map V.int) (fun j σ H' => ∃ (L' : Addr) (xs : List Int) (y3 : Option V), σ = [some (.ref d), some (.ref c), some (.ref L'), y3] ∧ Same H5 H' ∧ H' L' = some (.lst (xs.map V.int)) ∧ xs.length = 6 + 3 * j) ⟨L, xs0, _, rfl, Same.refl _, s25 _ _ h2, by rw [l0]⟩ (fun j σ H' _ ⟨_, _, _, _, z, _⟩ => SqT.of (z _ _ h5)) ?_ ?_⟩
    · rintro j x σ H6 hx ⟨L', xs, y3, rfl, s6, hL, lx⟩
      have hj : j < ys.length := by
        have := (List.getElem?_eq_some_iff.mp hx).1
        rwa [List.length_map] at this
      obtain ⟨u, hu, rfl⟩ : ∃ u, ys[j]? = some u ∧ x = V.int u := by
        rw [List.getElem?_map] at hx
        obtain ⟨u, hu, e⟩ := Option.map_eq_some_iff.mp hx
        exact ⟨u, hu, e.symm⟩
      refine ⟨.ref L', rfl, .int u, rfl, _, _, rfl, rfl, .int u, rfl, .int u, rfl, _, _, rfl, rfl, sl3, fun e ne => ?_⟩
      have s7 := same_upd (o := (HO.lst [V.int (u - 1), V.int u, V.int (u + 1)])) ne
      have h7 : upd H6 e (HO.lst [V.int (u - 1), V.int u, V.int (u + 1)]) e = some (HO.lst [V.int (u - 1), V.int u, V.int (u + 1)]) := upd_same
      generalize upd H6 e (HO.lst [V.int (u - 1), V.int u, V.int (u + 1)]) = H7 at s7 h7 ⊢
      refine ⟨L', e, _, _, rfl, rfl, s7 _ _ hL, h7, ?_, fun r nr => ?_⟩
      · rw [List.length_map, lx]
        exact Nat.le_trans (show 6 + 3 * j + 3 ≤ 10000 by omega) (by decide)
      have s8 := same_upd (o := HO.lst (xs.map V.int ++ [V.int (u - 1), V.int u, V.int (u + 1)])) nr
      exact ⟨r, xs ++ [u - 1, u, u + 1], _, rfl, (s6.trans s7).trans s8, by rw [upd_same, List.map_append]; rfl, by rw [List.length_append, lx]; show 6 + 3 * j + 3 = _; omega⟩
    · rintro σ H6 ⟨L', xs, y3, rfl, s6, hL, lx⟩
      exact ⟨.ref L', rfl, q L' xs H6 (D5.same s6) (fr5.trans (Fr.of s6)) hL⟩

end
end Gk

set_option Elab.async false
set_option linter.all false
set_option maxRecDepth 100000
set_option maxHeartbeats 1000000
set_option pp.maxSteps 1500
set_option pp.deepTerms false
namespace Gk
open PySem PySem.Spec PyProof.Rows L2
section
variable {P : Program} {w : World} {K : PySem.W.Frag} {mg : Str → Option Value} {base : Heap}
/-! ### a drawn wave -/
def WavOk (ts : List Int) (top : Int) : Prop := (∀ x ∈ ts, 0 ≤ x ∧ x < top) ∧ ∀ (k : Nat) (x y : Int), ts[k]? = some x → ts[k + 1]? = some y → x < y
theorem WavOk.snoc {ts : List Int} {a b : Int} (w : WavOk ts a) (h0 : 0 ≤ a) (lt : a < b) : WavOk (ts ++ [a]) b := by
  refine ⟨fun x hx => ?_, fun k x y hx hy => ?_⟩
  · rcases List.mem_append.mp hx with h | h
    · have := w.1 x h
      omega
    · rw [List.mem_singleton.mp h]
      exact ⟨h0, lt⟩
  · have hk : k + 1 < ts.length + 1 := by
      have := (List.getElem?_eq_some_iff.mp hy).1
      rw [List.length_append] at this
      exact this
    by_cases e : k + 1 < ts.length
    · rw [List.getElem?_append_left (by omega)] at hx
      rw [List.getElem?_append_left e] at hy
      exact w.2 k x y hx hy
    · rw [List.getElem?_append_left (by omega)] at hx
      rw [List.getElem?_append_right (by omega), show k + 1 - ts.length = 0 by omega] at hy
      obtain rfl := Option.some.inj hy
      exact (w.1 x (List.mem_of_getElem? hx)).2
theorem Fr.upd {d l p : Addr} {H H' : Hp} {o : HO} (f : Fr d l H H') (h : H p = none) : Fr d l H (upd H' p o) := fun b u h1 h2 e => by
  rw [upd_ne (ne_of_none e h)]
  exact f b u h1 h2 e
def sp_wave (K : PySem.W.Frag) : Sp := fun vs H Q _ => ∃ (d l : Addr) (n : Int), vs = [.ref d] ∧ DeckF H d l n ∧ n < 900000 ∧ ∀ (r t : Addr) (f top : Int) (ts : List Int) H', DeckF H' d l (n + 10000) → Fr d l H H' → H' r = some (.tup [.int f, .ref t]) → H' t = some (.tup (ts.map V.int)) → (f = 0 ∨ f = 1) → ts.length ≤ 260 → WavOk ts top → top ≤ 10000000000000000000000000000000 → Q (.ref r) H'
theorem ok_wave (T : Tx K mg) : FnOk P w K mg base CX0 8 T.f_wave T.fd_wave ["_law_deck_here"] (sp_wave K) := by
  refine T.F_wave.ok sc_wave (fun vs H Q E h => ?_) (fun cdv A outer s H vs Q E hr h => ?_)
  · obtain ⟨d, l, n, rfl, _⟩ := h
    rfl
  · obtain ⟨d, l, n, rfl, D, hn, q⟩ := h
    refine ⟨_, (pss_cons (ps_set (i := 1) sc_wave.nd rfl (by first | exact .inl rfl | exact .inr rfl) (pe_ix ix_list (pe_lst (pa_cons (pe_call (ok_draw T) (hr.mono (by decide)) (by rfl) T.g_draw T.F_draw.kp T.b_draw .nil pass0 (pa_cons (pv 0) (pa_cons pe_int pa_nil))) (pa_cons (pe_op op_add pe_int (pe_call (ok_draw T) (hr.mono (by decide)) (by rfl) T.g_draw T.F_draw.kp T.b_draw .nil pass0 (pa_cons (pv 0) (pa_cons pe_int pa_nil)))) pa_nil))) (pe_callTy call_int1 (by rfl) T.m_int (by decide +kernel) (pa_cons (pe_cmpR op_eq (pe_call (ok_draw T) (hr.mono (by decide)) (by rfl) T.g_draw T.F_draw.kp T.b_draw .nil pass0 (pa_cons (pv 0) (pa_cons pe_int pa_nil))) pe_int (nomark _)) pa_nil)) (fun _ _ => rfl))) (pss_cons (ps_set (i := 2) sc_wave.nd rfl (by first | exact .inl rfl | exact .inr rfl) (pe_ix ix_list (pe_lst (pa_cons pe_int (pa_cons pe_int (pa_cons pe_int (pa_cons (pe_op op_pow pe_int pe_int) pa_nil))))) (pe_call (ok_draw T) (hr.mono (by decide)) (by rfl) T.g_draw T.F_draw.kp T.b_draw .nil pass0 (pa_cons (pv 0) (pa_cons pe_int pa_nil))) (fun _ _ => rfl))) (pss_cons (ps_set (i := 3) sc_wave.nd rfl (by first | exact .inl rfl | exact .inr rfl) (pe_lst pa_nil)) (pss_cons (ps_set (i := 4) sc_wave.nd rfl (by first | exact .inl rfl | exact .inr rfl) (pe_op op_fdiv (pe_call (ok_draw T) (hr.mono (by decide)) (by rfl) T.g_draw T.F_draw.kp T.b_draw .nil pass0 (pa_cons (pv 0) (pa_cons (pe_op op_mul pe_int (pv 2)) pa_nil))) pe_int)) (pss_cons (ps_for PassesOwn.never rfl (pi_range1 (by rfl) T.m_range (pa_cons (pv 1) pa_nil)) (pg_name (i := 5) sc_wave.nd rfl (by first | exact .inl rfl | exact .inr rfl)) (pss_cons (ps_expr (pe_bm PySem.F.plainAttrs_list PySem.F.slot_list_append PySem.F.type_list_append mt_append (pv 3) (pa_cons (pv 4) pa_nil))) (pss_one (ps_set (i := 4) sc_wave.nd rfl (by first | exact .inl rfl | exact .inr rfl) (pe_op op_add (pe_op op_add (pv 4) pe_int) (pe_call (ok_draw T) (hr.mono (by decide)) (by rfl) T.g_draw T.F_draw.kp T.b_draw .nil pass0 (pa_cons (pv 0) (pa_cons (pv 2) pa_nil)))))))) (pss_one (ps_ret (pe_tup (pa_cons (pe_call (ok_draw T) (hr.mono (by decide)) (by rfl) T.g_draw T.F_draw.kp T.b_draw .nil pass0 (pa_cons (pv 0) (pa_cons pe_int pa_nil))) (pa_cons (pe_callTy call_tuple_of (by rfl) T.m_tuple (by decide +kernel) (pa_cons (pv 3) pa_nil)) pa_nil)))))))))), ?_⟩
    refine ⟨.ref d, rfl, d, l, 10, _, rfl, D, by omega, by decide, by decide, fun H1 v1 D1 fr1 a0 a1 => ?_⟩
    refine ⟨.ref d, rfl, d, l, 60, _, rfl, D1, by omega, by decide, by decide, fun H2 v2 D2 fr2 b0 b1 => ⟨_, _, rfl, rfl, sl2, fun e ne => ?_⟩⟩
    have s3 := same_upd (o := (HO.lst [V.int v1, V.int (200 + v2)])) ne
    have h3 : upd H2 e (HO.lst [V.int v1, V.int (200 + v2)]) e = some (HO.lst [V.int v1, V.int (200 + v2)]) := upd_same
    generalize upd H2 e (HO.lst [V.int v1, V.int (200 + v2)]) = H3 at s3 h3 ⊢
    have oe := D2.off ne
    have D3 := D2.same s3
    refine ⟨.ref d, rfl, d, l, 8, _, rfl, D3, by omega, by decide, by decide, fun H4 v3 D4 fr4 _ _ => ⟨rfl, .inr ⟨_, rfl, ?_⟩⟩⟩
    generalize decide (V.int v3 = V.int 1) = b1'
    obtain ⟨nm, hat, nm260⟩ : ∃ nm : Nat, atI [V.int v1, V.int (200 + v2)] (if b1' = true then 1 else 0) = some (.int (nm : Nat)) ∧ nm ≤ 260 := by
      cases b1'
      · obtain ⟨k, rfl⟩ := Int.eq_ofNat_of_zero_le a0
        exact ⟨k, rfl, by omega⟩
      · obtain ⟨k, rfl⟩ := Int.eq_ofNat_of_zero_le b0
        exact ⟨200 + k, rfl, by omega⟩
    refine ⟨e, _, _, _, rfl, rfl, SqL.of (fr4 _ _ oe.1 oe.2 h3), hat, ?_⟩
    have fr04 := ((fr1.trans fr2).trans (Fr.of s3)).trans fr4
    refine ⟨_, _, rfl, rfl, ⟨by decide, by decide, by decide⟩, by show 4 ≤ sizeLine; decide, fun e2 ne2 => ?_⟩
    have s5 := same_upd (o := (HO.lst [V.int 1, V.int 2, V.int 9, V.int (10 ^ (28 : Int).toNat)])) ne2
    have h5 : upd H4 e2 (HO.lst [V.int 1, V.int 2, V.int 9, V.int (10 ^ (28 : Int).toNat)]) e2 = some (HO.lst [V.int 1, V.int 2, V.int 9, V.int (10 ^ (28 : Int).toNat)]) := upd_same
    generalize upd H4 e2 (HO.lst [V.int 1, V.int 2, V.int 9, V.int (10 ^ (28 : Int).toNat)]) = H5 at s5 h5 ⊢
    have oe2 := D4.off ne2
    have D5 := D4.same s5
    refine ⟨.ref d, rfl, d, l, 4, _, rfl, D5, by omega, by decide, by decide, fun H6 v4 D6 fr6 c0 c1 => ?_⟩
    obtain ⟨wd, hat2, wd0, wd1⟩ : ∃ wd : Int, atI [V.int 1, V.int 2, V.int 9, V.int (10 ^ (28 : Int).toNat)] v4 = some (.int wd) ∧ 0 < wd ∧ wd ≤ 10000000000000000000000000000 := by
      have : v4 = 0 ∨ v4 = 1 ∨ v4 = 2 ∨ v4 = 3 := by omega
      rcases this with rfl | rfl | rfl | rfl
      · exact ⟨1, rfl, by decide, by decide⟩
      · exact ⟨2, rfl, by decide, by decide⟩
      · exact ⟨9, rfl, by decide, by decide⟩
      · exact ⟨10 ^ (28 : Int).toNat, rfl, by decide, by decide⟩
    refine ⟨e2, _, _, _, rfl, rfl, SqL.of (fr6 _ _ oe2.1 oe2.2 h5), hat2, ?_⟩
    have fr06 := (fr04.trans (Fr.of s5)).trans fr6
    refine ⟨Nat.zero_le _, fun L nL => ?_⟩
    have s7 := same_upd (o := (HO.lst [])) nL
    have hL : upd H6 L (HO.lst []) L = some (HO.lst []) := upd_same
    generalize upd H6 L (HO.lst []) = H7 at s7 hL ⊢
    have oL := D6.off nL
    have D7 := D6.same s7
    have nL0 : H L = none := none_of_frF fr06 D6 nL
    refine ⟨.ref d, rfl, .int wd, rfl, _, _, rfl, rfl, .inl ⟨by decide, by decide⟩, d, l, _, _, rfl, D7, by omega, by omega, by omega, fun H8 v5 D8 fr8 d0 d1 => ⟨_, _, rfl, rfl, (⟨by decide, by decide⟩ : (0 : Int) < 2 ∧ (2 : Int) < 1073741824), ?_⟩⟩
    have fr08 := (fr06.trans (Fr.of s7)).trans fr8
    have hL8 := fr8 _ _ oL.1 oL.2 hL
    refine ⟨.int (nm : Nat), rfl, (nm : Int), rfl, by omega, by omega, ?_⟩
    refine for_range (lo := 0) (n := (nm : Int).toNat) (fun i σ H' => ∃ (here : Int) (ts : List Int) (y5 : Option V), σ = [some (.ref d), some (.int (nm : Nat)), some (.int wd), some (.ref L), some (.int here), y5] ∧ DeckF H' d l (n + 200 + 32 * i) ∧ Fr d l H H' ∧ H' L = some (.lst (ts.map V.int)) ∧ ts.length = i ∧ WavOk ts here ∧ 0 ≤ here ∧ here ≤ (i + 1) * 10000000000000000000000000001)
      ⟨v5 / 2, [], _, rfl, D8.mono (by omega), fr08, hL8, rfl, ⟨(fun _ z => by cases z), (fun k x y z => by cases z)⟩, by omega, by omega⟩ ?_ ?_
    · rintro i σ H9 hi ⟨here, ts, y5, rfl, D9, fr9, hL9, lt, ok, h0, hh⟩
      have hi' : i < nm := by have : i < (nm : Int).toNat := hi; omega
      refine ⟨.ref L, rfl, .inl ⟨rfl, _, SqL.of hL9⟩, .int here, rfl, L, _, _, rfl, rfl, hL9, ?_, ?_⟩
      · rw [List.length_map, lt]
        exact Nat.lt_of_lt_of_le (show i < 512 by omega) (by decide)
      have hL10 : upd H9 L (.lst (ts.map V.int ++ [V.int here])) L = some (.lst ((ts ++ [here]).map V.int)) := by rw [upd_same, List.map_append]; rfl
      have D10 := D9.upd (o := .lst (ts.map V.int ++ [V.int here])) oL.1 oL.2
      have fr10 := fr9.upd (o := .lst (ts.map V.int ++ [V.int here])) nL0
      generalize upd H9 L (.lst (ts.map V.int ++ [V.int here])) = H10 at hL10 D10 fr10 ⊢
      refine ⟨.int here, rfl, _, _, rfl, rfl, .ref d, rfl, .int wd, rfl, d, l, _, _, rfl, D10, by omega, by omega, by omega, fun H11 u D11 fr11 u0 u1 => ⟨_, _, rfl, rfl, ?_⟩⟩
      exact ⟨here + 1 + u, ts ++ [here], _, rfl, D11.mono (by push_cast; omega), fr10.trans fr11, fr11 _ _ oL.1 oL.2 hL10, by rw [List.length_append, lt]; rfl, ok.snoc h0 (by omega), by omega, by push_cast; omega⟩
    · rintro σ H9 ⟨here, ts, y5, rfl, D9, fr9, hL9, lt, ok, h0, hh⟩
      have lt' : ts.length = nm := by rw [lt]; simp
      have en : (((nm : Int).toNat : Nat) : Int) = nm := by omega
      rw [en] at D9 hh
      refine ⟨.ref d, rfl, d, l, 2, _, rfl, D9, by omega, by decide, by decide, fun H10 f D10 fr10 f0 f1 => ?_⟩
      have hL10 := fr10 _ _ oL.1 oL.2 hL9
      refine ⟨.ref L, rfl, L, _, rfl, .inl ⟨SqL.of hL10, fun t nt => ?_⟩⟩
      have w1 := same_upd (o := (HO.tup (ts.map V.int))) nt
      have hx1 : upd H10 t (HO.tup (ts.map V.int)) t = some (HO.tup (ts.map V.int)) := upd_same
      generalize upd H10 t (HO.tup (ts.map V.int)) = X1 at w1 hx1 ⊢
      refine ⟨sl2, fun r nr => ?_⟩
      have w2 := same_upd (o := (HO.tup [V.int f, V.ref t])) nr
      have hx2 : upd X1 r (HO.tup [V.int f, V.ref t]) r = some (HO.tup [V.int f, V.ref t]) := upd_same
      generalize upd X1 r (HO.tup [V.int f, V.ref t]) = X2 at w2 hx2 ⊢
      exact q r t f here ts X2 ((D10.same (w1.trans w2)).mono (by omega)) ((fr9.trans fr10).trans (Fr.of (w1.trans w2))) hx2 (w2 _ _ hx1) (by omega) (by omega) ok (by omega)

end
end Gk

set_option Elab.async false
set_option linter.all false
set_option maxRecDepth 100000
set_option maxHeartbeats 1000000
set_option pp.maxSteps 1500
set_option pp.deepTerms false
namespace Gk
open PySem PySem.Spec PyProof.Rows L2
/-! ### a tuple told backwards: t[::-1]; and == against nothing -/
namespace TupRev
section
open PySem.W PySem.Calls HT
variable {prog : Program} {w : World} {A : Around} {E : Value → Shared → Prop} {s : Shared}
theorem adj_rev (n : Nat) : Builtin.Slice.sliceAdjust none none (-1) (n : Int) = ((n : Int) - 1, -1) := by
  first
    | rfl
    | simp [Builtin.Slice.sliceAdjust]
theorem places_rev (n : Nat) : Builtin.Slice.slicePlaces ((n : Int) - 1) (-1) (-1) = n := by
  unfold Builtin.Slice.slicePlaces
  by_cases h : n = 0
  · subst h
    decide
  · simp
    omega
theorem applied_rev {sl : Addr} {vl vu vs : Value} {n : Nat} {Q : Int × Int × Nat → Shared → Prop} (slice : s.heap.IsSliceOf sl vl vu vs) (pl : IsPart vl none) (pu : IsPart vu none) (ps : IsPart vs (some (-1))) (fin : Q ((n : Int) - 1, -1, n) s) :
    wpAny (model prog w) A (Builtin.Slice.sliceApplied (.ref sl) (pure (n : Int))) Q E s := by
  obtain ⟨o, ho, hc, parts⟩ := id slice
  unfold Builtin.Slice.sliceApplied Builtin.Slice.sliceFields
  refine wpAny_bind (wpAny_bind (wpAny_field ho parts (x := vl) rfl (wpAny_bind (wpAny_field ho parts (x := vu) rfl (wpAny_bind (wpAny_field ho parts (x := vs) rfl (wpAny_pure ?_)))))))
  refine wpAny_bind (slicePart_ ps ?_)
  show wpAny _ _ (if ((-1 : Int) == 0) = true then _ else _) _ _ s
  rw [if_neg (show ¬ _ by decide)]
  refine wpAny_bind (slicePart_ pl (wpAny_bind (slicePart_ pu (wpAny_bind (wpAny_pure (?_))))))
  show wpAny _ _ (match Builtin.Slice.sliceAdjust none none (-1) (n : Int) with | (a, b) => pure (a, (-1 : Int), Builtin.Slice.slicePlaces a b (-1))) _ _ s
  rw [adj_rev]
  show wpAny _ _ (pure ((n : Int) - 1, (-1 : Int), Builtin.Slice.slicePlaces ((n : Int) - 1) (-1) (-1))) _ _ s
  rw [places_rev]
  exact wpAny_pure fin
theorem pick_rev (xs : Array Value) : ((List.range xs.size).filterMap fun (k : Nat) => xs[((xs.size : Int) - 1 + (k : Int) * (-1)).toNat]?).toArray = xs.toList.reverse.toArray := by
  have e : ((List.range xs.size).filterMap fun (k : Nat) => xs[((xs.size : Int) - 1 + (k : Int) * (-1)).toNat]?) = ((List.range xs.size).map fun k => xs.size - 1 - k).filterMap (xs[·]?) := by
    rw [List.filterMap_map]
    congr 1
    funext k
    show xs[((xs.size : Int) - 1 + (k : Int) * (-1)).toNat]? = xs[xs.size - 1 - k]?
    rw [show ((xs.size : Int) - 1 + (k : Int) * (-1)).toNat = xs.size - 1 - k by omega]
  rw [e, krv_range, List.filterMap_reverse, krv_all]
theorem item_rev {t sl : Addr} {xs : Array Value} {vl vu vs : Value} {Q : Value → Shared → Prop} (tup : IsTup s.heap t xs) (slice : s.heap.IsSliceOf sl vl vu vs) (pl : IsPart vl none) (pu : IsPart vu none) (ps : IsPart vs (some (-1)))
    (fin : Q (.ref s.heap.objs.size) { s with heap := s.heap.push { cls := .type "tuple", data := .seq xs.toList.reverse.toArray } }) (few : xs.size ≤ sizeLine) : wpAny (model prog w) A (getItem (.ref t) (.ref sl)) Q E s := by
  have fits : sizeOk (.seq xs.toList.reverse.toArray) := by
    show xs.toList.reverse.toArray.size ≤ sizeLine
    rw [List.size_toArray, List.length_reverse, Array.length_toList]
    exact few
  obtain ⟨o, ho, hc, parts⟩ := id slice
  have ty : s.TypeIs (.ref sl) "slice" := ⟨o, ho, hc⟩
  unfold getItem
  (try with_reducible refine wpAny_holding (?_)); (first | refine wpAny_bind (wpAny_pure (?_)) | skip)
  refine wpAny_bind (wpAny_sequenceKey tup.typeIs (by decide) ?_)
  refine wpAny_bind (wpAny_callSpecial?_slot (name := Str.ofString "__getitem__") tup.typeIs PyProof.Rows.slot_tuple_getitem (wpAny_call_entry PyProof.Rows.slot_tuple_getitem tup.typeIs entry_tuple_getitem ?_ (args_tuple_getitem _ _)))
  show wpAny _ _ (Builtin.Tuple.tupleItemsOf (Value.ref t) >>= _) _ _ s
  refine wpAny_bind (tupleItemsOf_ tup (wpAny_bind (wpAny_typeOf ty ?_)))
  rw [if_pos (show _ by decide)]
  refine wpAny_bind (applied_rev slice pl pu ps ?_)
  have no : ¬ ((((xs.size : Int) - 1) == 0 && (-1 : Int) == 1 && xs.size == xs.size) = true) := by
    intro z
    rw [Bool.and_eq_true, Bool.and_eq_true] at z
    have := z.1.2
    revert this
    decide
  show wpAny _ _ (if ((((xs.size : Int) - 1) == 0 && (-1 : Int) == 1 && xs.size == xs.size)) = true then _ else _) _ _ s
  rw [if_neg no, pick_rev]
  first
    | exact wpAny_bind (m := Builtin.Tuple.tupleExact _) (wpAny_newObj_type (wpAny_pure ⟨_, rfl, wpAny_pure fin⟩) fits)
    | exact wpAny_bind (m := Builtin.Tuple.tupleExact _) (wpAny_newObj_type (wpAny_bind (wpAny_pure (wpAny_pure ⟨_, rfl, wpAny_pure fin⟩))) fits)
    | exact wpAny_bind (wpAny_bind (m := Builtin.Tuple.tupleExact _) (wpAny_newObj_type (wpAny_pure (wpAny_pure ⟨_, rfl, wpAny_pure fin⟩)) fits))
    | exact wpAny_bind (wpAny_bind (m := Builtin.Tuple.tupleExact _) (wpAny_newObj_type (wpAny_pure ⟨_, rfl, wpAny_pure fin⟩) fits))
end
section
variable {X : Cx}
def tRevT (K : PySem.W.Frag) (te : TE) : TE := fun σ H Q => te σ H fun x H1 => ∃ a xs, x = .ref a ∧ SqT K H1 a xs ∧ ∀ p, H1 p = none → Q (.ref p) (upd H1 p (.tup xs.reverse))
theorem pe_revT {e : Expr} {te : TE} {k : Nat} {p1 p2 p3 pos : Pos} (he : PE X e te) : PE X (.Subscript e (.Slice none none (some (.UnaryOp .USub (.Constant (.int 1) k p1) p2)) p3) pos) (tRevT X.K te) := by
  refine ⟨fun pins s σ H Q I told => Subscript_ (thn (he.run pins s σ H _ I told) ?_)⟩
  rintro v s1 ⟨x, H1, I1, r1, a, xs, rfl, tup, q⟩
  cases r1
  have back : PO X (some (.UnaryOp .USub (.Constant (.int 1) k p1) p2)) (tPart (tUn (rU fun i => .int (-i)) (tC (.int 1)))) := po_some (pe_un un_neg pe_int)
  refine wpAny_Slice (thn (po_none.run pins s1 σ H1 (fun o H2 => o = none ∧ H2 = H1) I1 ⟨rfl, rfl⟩) ?_)
  rintro vl s2 ⟨l, H2, I2, pl, rfl, rfl⟩
  refine thn (po_none.run pins s2 σ H2 (fun o H3 => o = none ∧ H3 = H2) I2 ⟨rfl, rfl⟩) ?_
  rintro vu s3 ⟨u, H3, I3, pu, rfl, rfl⟩
  refine thn (back.run pins s3 σ H3 (fun o H4 => o = some (-1) ∧ H4 = H3) I3 ⟨1, rfl, -1, rfl, rfl, rfl⟩) ?_
  rintro vs s4 ⟨o, H4, I4, ps, rfl, rfl⟩
  have J : Inv X pins σ H4 { s4 with heap := s4.heap.push { cls := .type "slice", data := .fields #[vl, vu, vs] } } := I4.kept (t' := s4.toks) fun b ob z => Heap.get?_push_of_some _ z
  obtain ⟨us, r, ht, few⟩ := J.tuple tup
  have ln := r.length
  show wpAny (model X.prog X.w) X.A (subscriptTail e (.Slice none none (some (.UnaryOp .USub (.Constant (.int 1) k p1) p2)) p3) (.ref a) (.ref s4.heap.objs.size)) (EP X pins σ Q) _ _
  refine tail_any (ops := [.ref a, .ref s4.heap.objs.size]) ht.typeIs (PyProof.Rows.slot_tuple_getitem.lookup) ?_ (by with_unfolding_all rfl)
  refine item_rev ht (Heap.IsSliceOf.new _ vl vu vs) pl pu ps ?_ (by rw [List.size_toArray]; omega)
  refine ⟨.ref _, _, J.laid (t' := s4.toks) (o := .tup xs.reverse) (fun b ob z => Heap.get?_push_of_some _ z) (Nat.le_refl _) ?_, rfl, q _ (J.hok.fresh (Nat.le_refl _))⟩
  exact ⟨by rw [List.length_reverse]; exact few, _, r.reverse, IsTup.new _ _⟩
/-- t == () of any tuple -/
def rEqE (K : PySem.W.Frag) : R2 := fun x y H Q => ∃ a b xs, x = .ref a ∧ y = .ref b ∧ SqT K H a xs ∧ SqT K H b [] ∧ Q (.bl xs.isEmpty) H
theorem op_eqE (hu : X.A.units + 64 < cLine) : OpR X (compareOp .Eq) (rEqE X.K) := by
  intro pins s σ H x y v u Q I rx ry h
  obtain ⟨a, b, xs, rfl, rfl, ha, hb, q⟩ := h
  cases rx
  cases ry
  obtain ⟨us, r1, t1, _⟩ := I.tuple ha
  obtain ⟨ws, r2, t2, _⟩ := I.tuple hb
  cases r2
  refine SeqAt.eq_tupleAt (items2 := #[]) (e := fun _ => true) t1 t2 (by omega) (fun j _ h2 => absurd h2 (Nat.not_lt_zero _)) ?_
  have : ((List.range (min us.toArray.size (#[] : Array Value).size)).all (fun _ => true) && us.toArray.size == (#[] : Array Value).size) = xs.isEmpty := by
    cases r1 with
    | nil => rfl
    | cons _ _ => simp
  show EP X pins σ Q (.bool ((List.range (min us.toArray.size (#[] : Array Value).size)).all (fun _ => true) && us.toArray.size == (#[] : Array Value).size)) s
  rw [this]
  exact ⟨.bl _, H, I, rfl, q⟩
/-- l == [] of any list -/
def rEqN (K : PySem.W.Frag) : R2 := fun x y H Q => ∃ a b xs, x = .ref a ∧ y = .ref b ∧ SqL K H a xs ∧ SqL K H b [] ∧ Q (.bl xs.isEmpty) H
theorem op_eqN (hu : X.A.units + 64 < cLine) : OpR X (compareOp .Eq) (rEqN X.K) := by
  intro pins s σ H x y v u Q I rx ry h
  obtain ⟨a, b, xs, rfl, rfl, ha, hb, q⟩ := h
  cases rx
  cases ry
  obtain ⟨us, r1, t1, _⟩ := I.list ha
  obtain ⟨ws, r2, t2, _⟩ := I.list hb
  cases r2
  cases r1 with
  | nil => exact SeqAt.eq_listAt (e := fun _ => true) t1.isList t2.isList rfl (by omega) (fun j h1 _ => absurd h1 (Nat.not_lt_zero _)) ⟨.bl true, H, I, rfl, q⟩
  | cons _ _ => exact SeqAt.eq_list_lengthsAt t1.isList t2.isList (by simp) (by omega) ⟨.bl false, H, I, rfl, q⟩
end
end TupRev

/-! ### numbers, truths among them -/
namespace NumZ
section
variable {X : Cx}
def nz : V → Option Int
  | .int i => some i
  | .bl b => some (if b = true then 1 else 0)
  | _ => none
def rAddZ : R2 := fun x y H Q => ∃ i j, nz x = some i ∧ y = .int j ∧ Q (.int (i + j)) H
theorem op_addZ : OpR X (binaryOp .Add) rAddZ := by
  intro pins s σ H x y v u Q I rx ry h
  obtain ⟨i, j, hx, rfl, q⟩ := h
  cases x with
  | int k =>
    cases Option.some.inj hx
    exact op_add pins s σ H (.int i) (.int j) v u Q I rx ry ⟨i, j, rfl, rfl, q⟩
  | bl b =>
    cases Option.some.inj hx
    cases (show v = Value.bool b from rx)
    obtain ⟨t, rfl⟩ := ry
    exact PySem.IntBool.add_bool_int ⟨.int _, H, I.tok _, ⟨_, rfl⟩, q⟩
  | _ => cases hx
def rSubZ : R2 := fun x y H Q => ∃ i j, nz x = some i ∧ nz y = some j ∧ ((∃ k, x = .int k) ∨ ∃ k, y = .int k) ∧ Q (.int (i - j)) H
theorem op_subZ : OpR X (binaryOp .Sub) rSubZ := by
  intro pins s σ H x y v u Q I rx ry h
  obtain ⟨i, j, hx, hy, one, q⟩ := h
  cases x with
  | int k =>
    cases Option.some.inj hx
    cases y with
    | int m =>
      cases Option.some.inj hy
      exact op_sub pins s σ H (.int i) (.int j) v u Q I rx ry ⟨i, j, rfl, rfl, q⟩
    | bl b =>
      cases Option.some.inj hy
      obtain ⟨t, rfl⟩ := rx
      cases (show u = Value.bool b from ry)
      exact PySem.IntBool.sub_int_bool ⟨.int _, H, I.tok _, ⟨_, rfl⟩, q⟩
    | _ => cases hy
  | bl b =>
    cases Option.some.inj hx
    cases y with
    | int m =>
      cases Option.some.inj hy
      cases (show v = Value.bool b from rx)
      obtain ⟨t, rfl⟩ := ry
      exact PySem.IntBool.sub_bool_int ⟨.int _, H, I.tok _, ⟨_, rfl⟩, q⟩
    | bl c =>
      rcases one with ⟨k, z⟩ | ⟨k, z⟩ <;> cases z
    | _ => cases hy
  | _ => cases hx
def strZ : V → Str
  | .int i => toString i
  | .bl b => if b = true then Str.ofString "True" else Str.ofString "False"
  | _ => Str.empty
def rStrZ : List V → Hp → VK → Prop := fun xs H Q => ∃ x i, xs = [x] ∧ nz x = some i ∧ i.natAbs.log2 < 1920 ∧ Q (.str (strZ x)) H
theorem call_strZ : CallR X (.type "str") rStrZ := by
  intro pins s σ H xs us Q I r h
  obtain ⟨x, i, rfl, hx, small, q⟩ := h
  cases x with
  | int k =>
    cases Option.some.inj hx
    exact call_str_int pins s σ H [.int i] us Q I r ⟨i, rfl, small, q⟩
  | bl b =>
    obtain ⟨u, rfl, ru⟩ := vals1 r
    cases (show u = Value.bool b from ru)
    refine PySem.P.str_of_bool ⟨.str _, H, I.tok _, ⟨_, rfl⟩, ?_⟩
    cases b <;> exact q
  | _ => cases hx
/-- list(t), a list that is none of the interpreter's own -/
def rListN (K : PySem.W.Frag) : List V → Hp → VK → Prop := fun xs H Q => ∃ p ys, xs = [.ref p] ∧ SqT K H p ys ∧ ∀ l, H l = none → l ≠ sysModules → Q (.ref l) (upd H l (.lst ys))
theorem call_listN : CallR X (.type "list") (rListN X.K) := by
  intro pins s σ H xs us Q I r h
  obtain ⟨p, ys, rfl, src, q⟩ := h
  obtain ⟨u, rfl, rx⟩ := vals1 r
  cases rx
  obtain ⟨items, rv, ⟨o, ho, hc, n, hd⟩, few⟩ := I.tuple src
  refine call_list_seq p (.inr rfl) ho hc hd (fun hp c keep made => ?_) (by rw [List.size_toArray, ← rv.length]; exact few)
  exact ⟨.ref s.heap.objs.size, _, I.laid (t' := s.toks) keep (Nat.le_refl _) (show ObjOk X.prog X.w _ hp _ (.lst ys) from ⟨few, items, c, rv, made⟩), rfl, q _ (I.hok.fresh (Nat.le_refl _)) (Nat.ne_of_gt I.big)⟩
end
end NumZ

section
variable {P : Program} {w : World} {K : PySem.W.Frag} {mg : Str → Option Value} {base : Heap}
/-! ### a wave with one thing otherwise -/
theorem int_weight {i : Int} {k : Nat} (h : i.natAbs < 2 ^ k) : (PyData.int i).weight ≤ k := by
  show (if i == 0 then 0 else i.natAbs.log2 + 1) ≤ k
  by_cases z : i = 0
  · rw [if_pos (by rw [z]; rfl)]
    exact Nat.zero_le _
  · rw [if_neg (by simpa using z)]
    exact (Nat.log2_lt (by omega)).mpr h
def Lit32 (i : Int) : Prop := -100000000000000000000000000000000 ≤ i ∧ i ≤ 100000000000000000000000000000000
theorem fit_i32 {i : Int} {M : Nat} (h : Lit32 i) : Fit (10 ^ 32) 107 M (.int i) := by
  have e : i.natAbs ≤ 10 ^ 32 := by
    have := h.1
    have := h.2
    omega
  exact ⟨decide_eq_true e, int_weight (Nat.lt_of_le_of_lt e (by decide)), Nat.zero_le _⟩
theorem fit_is32 {M : Nat} : ∀ ts : List Int, (∀ x ∈ ts, Lit32 x) → FitL (10 ^ 32) (108 * ts.length) M (ts.map PyData.int)
  | [], _ => ⟨rfl, Nat.le_refl _, Nat.zero_le _⟩
  | x :: r, h => by
    have a := FitL.one (fit_i32 (M := M) (h x (List.mem_cons_self ..)))
    have b := fit_is32 (M := M) r fun y hy => h y (List.mem_cons_of_mem _ hy)
    have c := a.app b
    exact ⟨c.1, Nat.le_trans c.2.1 (by rw [List.length_cons]; omega), c.2.2⟩
theorem sh_is {H : Hp} : ∀ ts : List Int, ShAll H (ts.map V.int) (ts.map PyData.int)
  | [] => .nil
  | x :: r => .cons (.int x) (sh_is r)
theorem fit_bent {f : Int} {ds : List PyData} {n : Nat} (hf : Lit32 f) (h : FitL (10 ^ 32) n 2 ds) (hn : n ≤ 29000) : Fit (10 ^ 32) 30000 4 (.tuple [.int f, .tuple ds]) := by
  have := (FitL.one (fit_i32 (M := 3) hf)).app (FitL.one (Fit.tup h))
  exact (Fit.tup this).mono (Nat.le_refl _) (by omega) (Nat.le_refl _)
theorem isWave_ok {f top : Int} {ts : List Int} (hf : f = 0 ∨ f = 1) (ok : WavOk ts top) : isWaveD (.tuple [.int f, .tuple (ts.map PyData.int)]) = true := by
  have hw : worthD (.int f) = true := by rcases hf with rfl | rfl <;> rfl
  show (worthD (.int f) && ((ts.map PyData.int).all timeD && risesD (ts.map PyData.int))) = true
  rw [hw, Bool.true_and, Bool.and_eq_true]
  refine ⟨List.all_eq_true.mpr fun x hx => ?_, List.all_eq_true.mpr fun z hz => ?_⟩
  · obtain ⟨u, hu, rfl⟩ := List.mem_map.mp hx
    exact decide_eq_true (ok.1 u hu).1
  · obtain ⟨k, hk⟩ := List.getElem?_of_mem hz
    rw [List.getElem?_zip_eq_some] at hk
    obtain ⟨h1, h2⟩ := hk
    rw [List.getElem?_drop, Nat.add_comm] at h2
    rw [List.getElem?_map] at h1 h2
    obtain ⟨u, hu, e1⟩ := Option.map_eq_some_iff.mp h1
    obtain ⟨v, hv, e2⟩ := Option.map_eq_some_iff.mp h2
    rw [← e1, ← e2]
    exact decide_eq_true (ok.2 k u v hu hv)
theorem cut_two {xs : List V} {k : Nat} (h : k ≤ xs.length) : cutV xs (some (k : Int)) (some ((k + 2 : Nat) : Int)) = (xs.drop k).take 2 := by
  unfold cutV
  rw [HT.sIx_nat, HT.sIx_nat, Nat.min_eq_left h]
  by_cases z : k + 2 ≤ xs.length
  · rw [Nat.min_eq_left z, show k + 2 - k = 2 by omega]
  · rw [Nat.min_eq_right (by omega), List.take_of_length_le (by rw [List.length_drop]; exact Nat.le_refl _), List.take_of_length_le (by rw [List.length_drop]; omega)]
theorem ShAll.take' {H : Hp} : ∀ {xs : List V} {ds : List PyData} (k : Nat), ShAll H xs ds → ShAll H (xs.take k) (ds.take k)
  | _, _, 0, _ => by rw [List.take_zero, List.take_zero]; exact .nil
  | _, _, _ + 1, .nil => .nil
  | _, _, k + 1, .cons a t => .cons a (t.take' k)
theorem fit_tk {ts : List Int} (bd : ∀ x ∈ ts, Lit32 x) (k : Nat) (hk : k ≤ ts.length) : FitL (10 ^ 32) (108 * k) 2 ((ts.map PyData.int).take k) := by
  rw [← List.map_take]
  have := fit_is32 (M := 2) (ts.take k) fun x hx => bd x (List.mem_of_mem_take hx)
  rw [List.length_take, Nat.min_eq_left hk] at this
  exact this
theorem fit_dr {ts : List Int} (bd : ∀ x ∈ ts, Lit32 x) (k : Nat) : FitL (10 ^ 32) (108 * (ts.length - k)) 2 ((ts.map PyData.int).drop k) := by
  rw [← List.map_drop]
  have := fit_is32 (M := 2) (ts.drop k) fun x hx => bd x (List.mem_of_mem_drop hx)
  rw [List.length_drop] at this
  exact this
theorem FitL.upN {B n n' m : Nat} {a : List PyData} (h : FitL B n m a) (le : n ≤ n') : FitL B n' m a := ⟨h.1, Nat.le_trans h.2.1 le, h.2.2⟩
theorem fit_mid {ts : List Int} (bd : ∀ x ∈ ts, Lit32 x) (hl : ts.length ≤ 260) {k j : Nat} (hk : k ≤ ts.length) (hj : k ≤ j) {dx : PyData} (fx : Fit (10 ^ 32) 200 2 dx) : FitL (10 ^ 32) 29000 2 (((ts.map PyData.int).take k ++ [dx]) ++ (ts.map PyData.int).drop j) :=
  (((fit_tk bd k hk).app (FitL.one fx)).app (fit_dr bd j)).upN (by omega)
theorem sh_mid {H : Hp} (ts : List Int) (k j : Nat) {x : V} {dx : PyData} (s : Sh H x dx) : ShAll H (((ts.map V.int).take k ++ [x]) ++ (ts.map V.int).drop j) (((ts.map PyData.int).take k ++ [dx]) ++ (ts.map PyData.int).drop j) := (((sh_is ts).take' k).append (.cons s .nil)).append ((sh_is ts).drop j)
theorem fit_all2 {ts : List Int} (bd : ∀ x ∈ ts, Lit32 x) (hl : ts.length ≤ 260) : FitL (10 ^ 32) 28080 2 (ts.map PyData.int) := (fit_is32 ts bd).upN (by omega)
theorem fit_two' {x y : PyData} (a : Fit (10 ^ 32) 200 2 x) (b : Fit (10 ^ 32) 28080 3 y) : Fit (10 ^ 32) 30000 4 (.tuple [x, y]) :=
  (Fit.tup ((FitL.one (a.mono (Nat.le_refl _) (Nat.le_refl _) (by decide : 2 ≤ 3))).app (FitL.one b))).mono (Nat.le_refl _) (by omega) (Nat.le_refl _)
def sp_bent (K : PySem.W.Frag) : Sp := fun vs H Q _ => ∃ (d l c t : Addr) (n f : Int) (ts : List Int), vs = [.ref d, .ref c] ∧ DeckF H d l n ∧ n < 900000 ∧ H c = some (.tup [.int f, .ref t]) ∧ H t = some (.tup (ts.map V.int)) ∧ (f = 0 ∨ f = 1) ∧ ts.length ≤ 260 ∧ (∀ x ∈ ts, 0 ≤ x ∧ x < 10000000000000000000000000000000) ∧
  ∀ v' H' dd', DeckF H' d l (n + 300) → Fr d l H H' → Sh (hid [d, l] H') v' dd' → Fit (10 ^ 32) 30000 4 dd' → Q v' H'
theorem ok_bent (T : Tx K mg) : FnOk P w K mg base CX0 8 T.f_bent T.fd_bent ["_law_deck_here", "_law_wave_here"] (sp_bent K) := by
  refine T.F_bent.ok sc_bent (fun vs H Q E h => ?_) (fun cdv A outer s H vs Q E hr h => ?_)
  · obtain ⟨d, l, c, t, n, f, ts, rfl, _⟩ := h
    rfl
  · obtain ⟨d, l, c, t, n, f, ts, rfl, D, hn, hc, ht, hf, hl, bd, q⟩ := h
    refine ⟨_, (pss_cons (ps_set (i := 2) sc_bent.nd rfl (by first | exact .inl rfl | exact .inr rfl) (pe_call (ok_draw T) (hr.mono (by decide)) (by rfl) T.g_draw T.F_draw.kp T.b_draw .nil pass0 (pa_cons (pv 0) (pa_cons pe_int pa_nil)))) (pss_cons (ps_asg (pv 1) (pg_tup rfl (pgs_cons (pg_name (i := 3) sc_bent.nd rfl (by first | exact .inl rfl | exact .inr rfl)) (pgs_cons (pg_name (i := 4) sc_bent.nd rfl (by first | exact .inl rfl | exact .inr rfl)) pgs_nil)))) (pss_cons (ps_set (i := 5) sc_bent.nd rfl (by first | exact .inl rfl | exact .inr rfl) (pe_call (ok_draw T) (hr.mono (by decide)) (by rfl) T.g_draw T.F_draw.kp T.b_draw .nil pass0 (pa_cons (pv 0) (pa_cons (pe_callB (call_max2 rfl) (by rfl) T.m_max (by decide +kernel) (pa_cons pe_int (pa_cons (pe_callB call_len_seq (by rfl) T.m_len PySem.boot_len (pa_cons (pv 4) pa_nil)) pa_nil))) pa_nil)))) (pss_cons (ps_set (i := 6) sc_bent.nd rfl (by first | exact .inl rfl | exact .inr rfl) (pe_ix ix_list (pe_lst (pa_cons (pe_un un_neg pe_int) (pa_cons pe_bl (pa_cons pe_bl (pa_cons pe_non (pa_cons pe_str (pa_cons pe_str (pa_cons (pe_tup pa_nil) (pa_cons (pe_lstN (pa_cons pe_int pa_nil)) (pa_cons (pe_un un_neg (pe_op op_pow pe_int pe_int)) (pa_cons pe_dnewK pa_nil))))))))))) (pe_call (ok_draw T) (hr.mono (by decide)) (by rfl) T.g_draw T.F_draw.kp T.b_draw .nil pass0 (pa_cons (pv 0) (pa_cons pe_int pa_nil))) (fun _ _ => rfl))) (pss_cons (ps_set (i := 7) sc_bent.nd rfl (by first | exact .inl rfl | exact .inr rfl) (pe_ix ix_tup (pe_op op_catA (pv 4) (pe_tup (pa_cons pe_int pa_nil))) (pv 5) (fun _ _ => rfl))) (pss_cons (ps_if (pt_cmpR op_eq (pv 2) pe_int (nomark _)) (pss_one (ps_ret (pe_tup (pa_cons (pe_ix ix_list (pe_lst (pa_cons pe_int (pa_cons (pe_un un_neg pe_int) (pa_cons pe_bl (pa_cons pe_bl (pa_cons pe_non (pa_cons pe_str (pa_cons (pe_tup pa_nil) (pa_cons (pe_op op_pow pe_int pe_int) pa_nil))))))))) (pe_call (ok_draw T) (hr.mono (by decide)) (by rfl) T.g_draw T.F_draw.kp T.b_draw .nil pass0 (pa_cons (pv 0) (pa_cons pe_int pa_nil))) (fun _ _ => rfl)) (pa_cons (pv 4) pa_nil))))) pss_nil) (pss_cons (ps_if (pt_cmpR op_eq (pv 2) pe_int (nomark _)) (pss_one (ps_ret (pe_tup (pa_cons (pv 3) (pa_cons (pe_op op_catA (pe_op op_catA (pe_slice sl_tupA (pv 4) po_none (po_some (pv 5))) (pe_tup (pa_cons (pe_op op_add (pv 7) (pe_ix ix_list (pe_lst (pa_cons pe_int (pa_cons (pe_un un_neg pe_int) pa_nil))) (pe_call (ok_draw T) (hr.mono (by decide)) (by rfl) T.g_draw T.F_draw.kp T.b_draw .nil pass0 (pa_cons (pv 0) (pa_cons pe_int pa_nil))) (fun _ _ => rfl))) pa_nil))) (pe_slice sl_tupA (pv 4) (po_some (pe_op op_add (pv 5) pe_int)) po_none)) pa_nil))))) pss_nil) (pss_cons (ps_if (pt_cmpR op_eq (pv 2) pe_int (nomark _)) (pss_one (ps_ret (pe_tup (pa_cons (pv 3) (pa_cons (pe_op op_catA (pe_op op_catA (pe_slice sl_tupA (pv 4) po_none (po_some (pv 5))) (pe_tup (pa_cons (pv 7) pa_nil))) (pe_slice sl_tupA (pv 4) (po_some (pv 5)) po_none)) pa_nil))))) pss_nil) (pss_cons (ps_if (pt_cmpR op_eq (pv 2) pe_int (nomark _)) (pss_one (ps_ret (pe_tup (pa_cons (pv 3) (pa_cons (pe_op op_catA (pe_op op_catA (pe_slice sl_tupA (pv 4) po_none (po_some (pv 5))) (TupRev.pe_revT (pe_slice sl_tupA (pv 4) (po_some (pv 5)) (po_some (pe_op op_add (pv 5) pe_int))))) (pe_slice sl_tupA (pv 4) (po_some (pe_op op_add (pv 5) pe_int)) po_none)) pa_nil))))) pss_nil) (pss_cons (ps_if (pt_cmpR op_eq (pv 2) pe_int (nomark _)) (pss_one (ps_ret (pe_tup (pa_cons (pv 3) (pa_cons (pe_op op_catA (pe_slice sl_tupA (pv 4) po_none (po_some (pv 5))) (pe_slice sl_tupA (pv 4) (po_some (pe_op op_add (pv 5) pe_int)) po_none)) pa_nil))))) pss_nil) (pss_cons (ps_if (pt_cmpR op_eq (pv 2) pe_int (nomark _)) (pss_one (ps_ret (pe_ix ix_list (pe_lst (pa_cons (pe_tup (pa_cons (pv 3) (pa_cons (pe_callTy NumZ.call_listN (by rfl) T.m_list (by decide +kernel) (pa_cons (pv 4) pa_nil)) pa_nil))) (pa_cons (pe_lstN (pa_cons (pv 3) (pa_cons (pv 4) pa_nil))) (pa_cons (pe_tup (pa_cons (pv 3) pa_nil)) (pa_cons (pe_tup (pa_cons (pv 3) (pa_cons (pv 4) (pa_cons pe_int pa_nil)))) (pa_cons (pe_tup (pa_cons (pv 4) (pa_cons (pv 3) pa_nil))) pa_nil)))))) (pe_call (ok_draw T) (hr.mono (by decide)) (by rfl) T.g_draw T.F_draw.kp T.b_draw .nil pass0 (pa_cons (pv 0) (pa_cons pe_int pa_nil))) (fun _ _ => rfl)))) pss_nil) (pss_one (ps_ret (pe_tup (pa_cons (pv 3) (pa_cons (pe_op op_catA (pe_op op_catA (pe_slice sl_tupA (pv 4) po_none (po_some (pv 5))) (pe_tup (pa_cons (pv 6) pa_nil))) (pe_slice sl_tupA (pv 4) (po_some (pe_op op_add (pv 5) (pe_callTy call_int1 (by rfl) T.m_int (by decide +kernel) (pa_cons (pe_cmpR op_gt (pv 2) pe_int (nomark _)) pa_nil)))) po_none)) pa_nil)))))))))))))))), ?_⟩
    refine ⟨.ref d, rfl, d, l, 11, _, rfl, D, by omega, by decide, by decide, fun H1 way D1 fr1 w0 w1 => ?_⟩
    have ts1 := Ts.frF D fr1
    have hc1 := ts1 _ _ hc
    have ht1 := ts1 _ _ ht
    refine ⟨.ref c, rfl, c, _, rfl, SqT.of hc1, rfl, _, _, rfl, _, _, rfl, rfl, ?_⟩
    refine ⟨.ref d, rfl, .ref t, rfl, t, _, rfl, .inr (SqT.of ht1), _, _, rfl, ?_⟩
    rw [List.length_map]
    refine ⟨d, l, _, n + 32, rfl, D1, by omega, by omega, by omega, fun H2 at_ D2 fr2 a0 a1 => ?_⟩
    obtain ⟨k, rfl⟩ := Int.eq_ofNat_of_zero_le a0
    have hk : k ≤ ts.length := by
      split at a1 <;> omega
    have bd' : ∀ x ∈ ts, Lit32 x := fun x hx => by
      have := bd x hx
      exact ⟨by omega, by omega⟩
    have f32 : Lit32 f := ⟨by omega, by omega⟩
    have ts2 := Ts.frF D1 fr2
    have hc2 := ts2 _ _ hc1
    have ht2 := ts2 _ _ ht1
    have fr02 := fr1.trans fr2
    have fin : ∀ (H' : Hp) (p r : Addr) (xs : List V) (ds : List PyData), DeckF H' d l (n + 300) → Fr d l H H' → H' p = some (.tup xs) → ShAll (hid [d, l] H') xs ds → FitL (10 ^ 32) 29000 2 ds → H' r = none → Q (.ref r) (upd H' r (.tup [.int f, .ref p])) := fun H' p r xs ds D' fr' hp sh fl nr => by
      have s1 := same_upd (o := (HO.tup [V.int f, V.ref p])) nr
      have h1 : upd H' r (HO.tup [V.int f, V.ref p]) r = some (HO.tup [V.int f, V.ref p]) := upd_same
      generalize upd H' r (HO.tup [V.int f, V.ref p]) = A at s1 h1 ⊢
      have D1 := D'.same s1
      exact q _ _ _ D1 (fr'.trans (Fr.of s1)) (sh_tup D1.da h1 (.cons (.int _) (.cons (sh_tup D1.da (s1 _ _ hp) (sh.same (hid_same s1))) .nil))) (fit_bent f32 fl (Nat.le_refl _))
    -- the odd thing
    refine ⟨_, rfl, Nat.zero_le _, fun e1 ne1 => ?_⟩
    have s1 := same_upd (o := (HO.tup [])) ne1
    have h1 : upd H2 e1 (HO.tup []) e1 = some (HO.tup []) := upd_same
    generalize upd H2 e1 (HO.tup []) = A1 at s1 h1 ⊢
    refine ⟨sl1, fun L nL mL => ?_⟩
    have s2 := same_upd (o := (HO.lst [V.int 0])) nL
    have h2 : upd A1 L (HO.lst [V.int 0]) L = some (HO.lst [V.int 0]) := upd_same
    generalize upd A1 L (HO.lst [V.int 0]) = A2 at s2 h2 ⊢
    refine ⟨_, _, rfl, rfl, ⟨by decide, by decide, by decide⟩, _, rfl, fun dk ndk => ?_⟩
    have s3 := same_upd (o := (HO.dK [])) ndk
    have h3 : upd A2 dk (HO.dK []) dk = some (HO.dK []) := upd_same
    generalize upd A2 dk (HO.dK []) = A3 at s3 h3 ⊢
    refine ⟨by show 10 ≤ sizeLine; decide, fun C nC => ?_⟩
    have sA := ((s1.trans s2).trans s3)
    have s4 := same_upd (o := (HO.lst [V.int (-1), V.bl true, V.bl false, V.non, V.str (Str.ofString "0"), V.str (Str.ofString ""), V.ref e1, V.ref L, V.int (-(10 ^ (30 : Int).toNat)), V.ref dk])) nC
    have h4 : upd A3 C (HO.lst [V.int (-1), V.bl true, V.bl false, V.non, V.str (Str.ofString "0"), V.str (Str.ofString ""), V.ref e1, V.ref L, V.int (-(10 ^ (30 : Int).toNat)), V.ref dk]) C = some (HO.lst [V.int (-1), V.bl true, V.bl false, V.non, V.str (Str.ofString "0"), V.str (Str.ofString ""), V.ref e1, V.ref L, V.int (-(10 ^ (30 : Int).toNat)), V.ref dk]) := upd_same
    generalize upd A3 C (HO.lst [V.int (-1), V.bl true, V.bl false, V.non, V.str (Str.ofString "0"), V.str (Str.ofString ""), V.ref e1, V.ref L, V.int (-(10 ^ (30 : Int).toNat)), V.ref dk]) = A4 at s4 h4 ⊢
    have sB := sA.trans s4
    have D4 := D2.same sB
    have oL := (D2.same s1).out nL
    have od := (D2.same (s1.trans s2)).out ndk
    have oC := (D2.same sA).off nC
    refine ⟨.ref d, rfl, d, l, 10, _, rfl, D4, by omega, by decide, by decide, fun H5 u D5 fr5 u0 u1 => ?_⟩
    have ts5 := Ts.frF D4 fr5
    have hC5 := fr5 _ _ oC.1 oC.2 h4
    have hid5 : Same (hid [d, l] A4) (hid [d, l] H5) := hid_fr fr5 in_d in_l
    have all : ShAll (hid [d, l] H5) [V.int (-1), V.bl true, V.bl false, V.non, V.str (Str.ofString "0"), V.str (Str.ofString ""), V.ref e1, V.ref L, V.int (-(10 ^ (30 : Int).toNat)), V.ref dk] [.int (-1), .bool true, .bool false, .none, .str (Str.ofString "0"), .str (Str.ofString ""), .tuple [], .list [.int 0], .int (-(10 ^ (30 : Int).toNat)), .dict []] := by
      refine .cons (.int _) (.cons (.bl _) (.cons (.bl _) (.cons .non (.cons (.str _) (.cons (.str _) (.cons ?_ (.cons ?_ (.cons (.int _) (.cons ?_ .nil)))))))))
      · exact sh_tup D5.da (ts5 _ _ (s4 _ _ (s3 _ _ (s2 _ _ h1)))) .nil
      · exact .lst (hid5 _ _ (by rw [hid_at oL]; exact s4 _ _ (s3 _ _ h2))) mL (.cons (.int _) .nil)
      · exact .dic (kvs := []) (hid5 _ _ (by rw [hid_at od]; exact s4 _ _ h3)) .nil
    have fits : ∀ z ∈ ([.int (-1), .bool true, .bool false, .none, .str (Str.ofString "0"), .str (Str.ofString ""), .tuple [], .list [.int 0], .int (-(10 ^ (30 : Int).toNat)), .dict []] : List PyData), Fit (10 ^ 32) 200 2 z := by
      intro z hz
      have fi : ∀ i : Int, Lit32 i → Fit (10 ^ 32) 200 2 (.int i) := fun i hi => (fit_i32 (M := 2) hi).mono (Nat.le_refl _) (by decide) (Nat.le_refl _)
      simp only [List.mem_cons, List.not_mem_nil, or_false] at hz
      rcases hz with rfl | rfl | rfl | rfl | rfl | rfl | rfl | rfl | rfl | rfl
      · exact fi _ ⟨by decide, by decide⟩
      · exact ⟨rfl, by decide, by decide⟩
      · exact ⟨rfl, by decide, by decide⟩
      · exact ⟨rfl, by decide, by decide⟩
      · exact ⟨rfl, by decide, by decide⟩
      · exact ⟨rfl, by decide, by decide⟩
      · exact ⟨rfl, by decide, by decide⟩
      · exact (Fit.lst (FitL.one (fit_i32 (M := 0) (i := 0) ⟨by decide, by decide⟩))).mono (Nat.le_refl _) (by decide) (by decide)
      · exact fi _ ⟨by decide, by decide⟩
      · exact ⟨rfl, by decide, by decide⟩
    obtain ⟨odd, dodd, hodd, shodd, fodd⟩ := pick_sh all fits u0 u1
    refine ⟨C, _, u, odd, rfl, rfl, SqL.of hC5, hodd, ?_⟩
    clear all fits
    have fr05 := (fr02.trans (Fr.of sB)).trans fr5
    have ht5 := ts5 _ _ (sB _ _ ht2)
    have hc5 := ts5 _ _ (sB _ _ hc2)
    -- what stands there
    refine ⟨.ref t, rfl, sl1, fun e6 ne6 => ?_⟩
    have s6 := same_upd (o := (HO.tup [V.int 0])) ne6
    have h6 : upd H5 e6 (HO.tup [V.int 0]) e6 = some (HO.tup [V.int 0]) := upd_same
    generalize upd H5 e6 (HO.tup [V.int 0]) = H6 at s6 h6 ⊢
    refine catA (s6 _ _ ht5) h6 ?_ fun q7 H7 s7 h7 => ?_
    · rw [List.length_map]
      exact Nat.le_trans (show ts.length + 1 ≤ 261 by omega) (by decide)
    obtain ⟨here, hat, hh0, hh1⟩ : ∃ here : Int, atI (ts.map V.int ++ [V.int 0]) ((k : Nat) : Int) = some (.int here) ∧ 0 ≤ here ∧ here < 10000000000000000000000000000000 := by
      have e : ts.map V.int ++ [V.int 0] = (ts ++ [0]).map V.int := by rw [List.map_append]; rfl
      have lk : k < (ts ++ [0]).length := by rw [List.length_append]; show k < ts.length + 1; omega
      refine ⟨(ts ++ [0])[k], atI_nat (by rw [e, List.getElem?_map, List.getElem?_eq_getElem lk]; rfl), ?_⟩
      rcases List.mem_append.mp (List.getElem_mem lk) with z | z
      · exact bd _ z
      · rw [List.mem_singleton.mp z]
        exact ⟨by decide, by decide⟩
    refine ⟨.int (k : Nat), rfl, q7, _, (k : Nat), _, rfl, rfl, SqT.of h7, hat, ?_⟩
    have s57 := s6.trans s7
    have D7 := D5.same s57
    have fr07 := fr05.trans (Fr.of s57)
    have ht7 := s57 _ _ ht5
    have hc7 := s57 _ _ hc5
    replace shodd := shodd.same (hid_same s57)
    clear h6 h7 hat
    have lm : (ts.map V.int).length = ts.length := List.length_map ..
    -- another first
    refine ⟨.int way, rfl, rfl, _, rfl, ite2 (fun _ => ?_) (fun _ => ?_)⟩
    · refine ⟨_, rfl, Nat.zero_le _, fun e8 ne8 => ?_⟩
      have s8 := same_upd (o := (HO.tup [])) ne8
      have h8 : upd H7 e8 (HO.tup []) e8 = some (HO.tup []) := upd_same
      generalize upd H7 e8 (HO.tup []) = H8 at s8 h8 ⊢
      refine ⟨_, _, rfl, rfl, ⟨by decide, by decide, by decide⟩, by show 8 ≤ sizeLine; decide, fun C9 nC9 => ?_⟩
      have s9 := same_upd (o := (HO.lst [V.int 2, V.int (-1), V.bl true, V.bl false, V.non, V.str (Str.ofString "1"), V.ref e8, V.int (10 ^ (30 : Int).toNat)])) nC9
      have h9 : upd H8 C9 (HO.lst [V.int 2, V.int (-1), V.bl true, V.bl false, V.non, V.str (Str.ofString "1"), V.ref e8, V.int (10 ^ (30 : Int).toNat)]) C9 = some (HO.lst [V.int 2, V.int (-1), V.bl true, V.bl false, V.non, V.str (Str.ofString "1"), V.ref e8, V.int (10 ^ (30 : Int).toNat)]) := upd_same
      generalize upd H8 C9 (HO.lst [V.int 2, V.int (-1), V.bl true, V.bl false, V.non, V.str (Str.ofString "1"), V.ref e8, V.int (10 ^ (30 : Int).toNat)]) = H9 at s9 h9 ⊢
      have D9 := D7.same (s8.trans s9)
      have o9 := (D7.same s8).off nC9
      refine ⟨.ref d, rfl, d, l, 8, _, rfl, D9, by omega, by decide, by decide, fun H10 u D10 fr10 u0 u1 => ?_⟩
      have ts10 := Ts.frF D9 fr10
      have all : ShAll (hid [d, l] H10) [V.int 2, V.int (-1), V.bl true, V.bl false, V.non, V.str (Str.ofString "1"), V.ref e8, V.int (10 ^ (30 : Int).toNat)] [.int 2, .int (-1), .bool true, .bool false, .none, .str (Str.ofString "1"), .tuple [], .int (10 ^ (30 : Int).toNat)] :=
        .cons (.int _) (.cons (.int _) (.cons (.bl _) (.cons (.bl _) (.cons .non (.cons (.str _) (.cons (sh_tup D10.da (ts10 _ _ (s9 _ _ h8)) .nil) (.cons (.int _) .nil)))))))
      have fits : ∀ z ∈ ([.int 2, .int (-1), .bool true, .bool false, .none, .str (Str.ofString "1"), .tuple [], .int (10 ^ (30 : Int).toNat)] : List PyData), Fit (10 ^ 32) 200 2 z := by
        intro z hz
        have fi : ∀ i : Int, Lit32 i → Fit (10 ^ 32) 200 2 (.int i) := fun i hi => (fit_i32 (M := 2) hi).mono (Nat.le_refl _) (by decide) (Nat.le_refl _)
        simp only [List.mem_cons, List.not_mem_nil, or_false] at hz
        rcases hz with rfl | rfl | rfl | rfl | rfl | rfl | rfl | rfl
        · exact fi _ ⟨by decide, by decide⟩
        · exact fi _ ⟨by decide, by decide⟩
        · exact ⟨rfl, by decide, by decide⟩
        · exact ⟨rfl, by decide, by decide⟩
        · exact ⟨rfl, by decide, by decide⟩
        · exact ⟨rfl, by decide, by decide⟩
        · exact ⟨rfl, by decide, by decide⟩
        · exact fi _ ⟨by decide, by decide⟩
      obtain ⟨x, dx, hx, shx, fx⟩ := pick_sh all fits u0 u1
      refine ⟨C9, _, u, x, rfl, rfl, SqL.of (fr10 _ _ o9.1 o9.2 h9), hx, .ref t, rfl, sl2, fun r nr => ?_⟩
      have s11 := same_upd (o := (HO.tup [x, V.ref t])) nr
      have h11 : upd H10 r (HO.tup [x, V.ref t]) r = some (HO.tup [x, V.ref t]) := upd_same
      generalize upd H10 r (HO.tup [x, V.ref t]) = H11 at s11 h11 ⊢
      have D11 := D10.same s11
      exact q _ _ _ (D11.mono (by omega)) (((fr07.trans (Fr.of (s8.trans s9))).trans fr10).trans (Fr.of s11)) (sh_tup D11.da h11 (.cons (shx.same (hid_same s11)) (.cons (sh_tup D11.da (s11 _ _ (ts10 _ _ (s9 _ _ (s8 _ _ ht7)))) (sh_is ts)) .nil))) (fit_two' fx (Fit.tup (fit_all2 bd' hl)))
    -- a time one more or less
    refine ⟨.int way, rfl, rfl, _, rfl, ite2 (fun _ => ?_) (fun _ => ?_)⟩
    · refine ⟨.int f, rfl, .ref t, rfl, .int (k : Nat), rfl, (k : Int), rfl, slA ht7 fun q8 H8 s8 h8 => ?_⟩
      rw [cut_to] at h8
      have D8 := D7.same s8
      refine ⟨.int here, rfl, _, rfl, sl2, fun C9 nC9 => ?_⟩
      have s9 := same_upd (o := (HO.lst [V.int 1, V.int (-1)])) nC9
      have h9 : upd H8 C9 (HO.lst [V.int 1, V.int (-1)]) C9 = some (HO.lst [V.int 1, V.int (-1)]) := upd_same
      generalize upd H8 C9 (HO.lst [V.int 1, V.int (-1)]) = H9 at s9 h9 ⊢
      have o9 := D8.off nC9
      refine ⟨.ref d, rfl, d, l, 2, _, rfl, D8.same s9, by omega, by decide, by decide, fun H10 u D10 fr10 u0 u1 => ?_⟩
      obtain ⟨e, he, be⟩ : ∃ e : Int, atI [V.int 1, V.int (-1)] u = some (.int e) ∧ Lit32 (here + e) := by
        have : u = 0 ∨ u = 1 := by omega
        rcases this with rfl | rfl
        · exact ⟨1, rfl, by omega, by omega⟩
        · exact ⟨-1, rfl, by omega, by omega⟩
      have ts10 := Ts.frF (D8.same s9) fr10
      refine ⟨C9, _, u, _, rfl, rfl, SqL.of (fr10 _ _ o9.1 o9.2 h9), he, _, _, rfl, rfl, sl1, fun t11 n11 => ?_⟩
      have s11 := same_upd (o := (HO.tup [V.int (here + e)])) n11
      have h11 : upd H10 t11 (HO.tup [V.int (here + e)]) t11 = some (HO.tup [V.int (here + e)]) := upd_same
      generalize upd H10 t11 (HO.tup [V.int (here + e)]) = H11 at s11 h11 ⊢
      refine catA (s11 _ _ (ts10 _ _ (s9 _ _ h8))) h11 ?_ fun q12 H12 s12 h12 => ?_
      · rw [List.length_take, lm]
        exact Nat.le_trans (show _ ≤ 300 by show min k ts.length + 1 ≤ 300; omega) (by decide)
      have ht12 := s12 _ _ (s11 _ _ (ts10 _ _ (s9 _ _ (s8 _ _ ht7))))
      refine ⟨.ref t, rfl, .int (k : Nat), rfl, _, _, rfl, rfl, ((k + 1 : Nat) : Int), rfl, slAn ht12 fun q13 H13 s13 h13 => ?_⟩
      rw [cut_from] at h13
      refine catA (s13 _ _ h12) h13 ?_ fun q14 H14 s14 h14 => ?_
      · rw [List.length_append, List.length_take, List.length_drop, lm]
        exact Nat.le_trans (show _ ≤ 300 by show min k ts.length + 1 + (ts.length - (k + 1)) ≤ 300; omega) (by decide)
      refine ⟨sl2, fun r nr => ?_⟩
      have sZ := ((s11.trans s12).trans s13).trans s14
      exact fin H14 q14 r _ _ ((D10.same sZ).mono (by omega)) (((fr07.trans (Fr.of (s8.trans s9))).trans fr10).trans (Fr.of sZ)) h14 (sh_mid ts k (k + 1) (.int _)) (fit_mid bd' hl hk (by omega) ((fit_i32 be).mono (Nat.le_refl _) (by decide) (Nat.le_refl _))) nr
    -- a time twice
    refine ⟨.int way, rfl, rfl, _, rfl, ite2 (fun _ => ?_) (fun _ => ?_)⟩
    · refine ⟨.int f, rfl, .ref t, rfl, .int (k : Nat), rfl, (k : Int), rfl, slA ht7 fun q8 H8 s8 h8 => ?_⟩
      rw [cut_to] at h8
      refine ⟨.int here, rfl, sl1, fun t11 n11 => ?_⟩
      have s11 := same_upd (o := (HO.tup [V.int here])) n11
      have h11 : upd H8 t11 (HO.tup [V.int here]) t11 = some (HO.tup [V.int here]) := upd_same
      generalize upd H8 t11 (HO.tup [V.int here]) = H11 at s11 h11 ⊢
      refine catA (s11 _ _ h8) h11 ?_ fun q12 H12 s12 h12 => ?_
      · rw [List.length_take, lm]
        exact Nat.le_trans (show _ ≤ 300 by show min k ts.length + 1 ≤ 300; omega) (by decide)
      have ht12 := s12 _ _ (s11 _ _ (s8 _ _ ht7))
      refine ⟨.ref t, rfl, .int (k : Nat), rfl, (k : Int), rfl, slAn ht12 fun q13 H13 s13 h13 => ?_⟩
      rw [cut_from] at h13
      refine catA (s13 _ _ h12) h13 ?_ fun q14 H14 s14 h14 => ?_
      · rw [List.length_append, List.length_take, List.length_drop, lm]
        exact Nat.le_trans (show _ ≤ 300 by show min k ts.length + 1 + (ts.length - k) ≤ 300; omega) (by decide)
      refine ⟨sl2, fun r nr => ?_⟩
      have sZ := (((s8.trans s11).trans s12).trans s13).trans s14
      exact fin H14 q14 r _ _ ((D7.same sZ).mono (by omega)) (fr07.trans (Fr.of sZ)) h14 (sh_mid ts k k (.int _)) (fit_mid bd' hl hk (Nat.le_refl _) ((fit_i32 (i := here) ⟨by omega, by omega⟩).mono (Nat.le_refl _) (by decide) (Nat.le_refl _))) nr
    -- two exchanged
    refine ⟨.int way, rfl, rfl, _, rfl, ite2 (fun _ => ?_) (fun _ => ?_)⟩
    · refine ⟨.int f, rfl, .ref t, rfl, .int (k : Nat), rfl, (k : Int), rfl, slA ht7 fun q8 H8 s8 h8 => ?_⟩
      rw [cut_to] at h8
      refine ⟨.ref t, rfl, .int (k : Nat), rfl, (k : Int), rfl, .int (k : Nat), rfl, _, _, rfl, rfl, ((k + 2 : Nat) : Int), rfl, slA (s8 _ _ ht7) fun q9 H9 s9 h9 => ?_⟩
      rw [cut_two (by rw [lm]; exact hk)] at h9
      refine ⟨q9, _, rfl, SqT.of h9, fun t11 n11 => ?_⟩
      have s11 := same_upd (o := (HO.tup (((ts.map V.int).drop k).take 2).reverse)) n11
      have h11 : upd H9 t11 (HO.tup (((ts.map V.int).drop k).take 2).reverse) t11 = some (HO.tup (((ts.map V.int).drop k).take 2).reverse) := upd_same
      generalize upd H9 t11 (HO.tup (((ts.map V.int).drop k).take 2).reverse) = H11 at s11 h11 ⊢
      refine catA (s11 _ _ (s9 _ _ h8)) h11 ?_ fun q12 H12 s12 h12 => ?_
      · rw [List.length_take, List.length_reverse, List.length_take, List.length_drop, lm]
        exact Nat.le_trans (show min k ts.length + min 2 (ts.length - k) ≤ 300 by omega) (by decide)
      have ht12 := s12 _ _ (s11 _ _ (s9 _ _ (s8 _ _ ht7)))
      refine ⟨.ref t, rfl, .int (k : Nat), rfl, _, _, rfl, rfl, ((k + 2 : Nat) : Int), rfl, slAn ht12 fun q13 H13 s13 h13 => ?_⟩
      rw [cut_from] at h13
      refine catA (s13 _ _ h12) h13 ?_ fun q14 H14 s14 h14 => ?_
      · rw [List.length_append, List.length_take, List.length_reverse, List.length_take, List.length_drop, List.length_drop, lm]
        exact Nat.le_trans (show min k ts.length + min 2 (ts.length - k) + (ts.length - (k + 2)) ≤ 300 by omega) (by decide)
      refine ⟨sl2, fun r nr => ?_⟩
      have sZ := ((((s8.trans s9).trans s11).trans s12).trans s13).trans s14
      refine fin H14 q14 r _ ((((ts.map PyData.int).take k) ++ (((ts.map PyData.int).drop k).take 2).reverse) ++ (ts.map PyData.int).drop (k + 2)) ((D7.same sZ).mono (by omega)) (fr07.trans (Fr.of sZ)) h14 ?_ ?_ nr
      · exact (((sh_is ts).take' k).append ((((sh_is ts).drop k).take' 2).rev)).append ((sh_is ts).drop (k + 2))
      · have a := fit_tk bd' k hk
        have b := (fit_tk (ts := ts.drop k) (fun x hx => bd' x (List.mem_of_mem_drop hx)) (min 2 (ts.length - k)) (by rw [List.length_drop]; omega)).rev
        have eb : ((ts.drop k).map PyData.int).take (min 2 (ts.length - k)) = ((ts.map PyData.int).drop k).take 2 := by
          rw [List.map_drop]
          by_cases z : 2 ≤ ts.length - k
          · rw [Nat.min_eq_left z]
          · rw [Nat.min_eq_right (by omega), List.take_of_length_le (by rw [List.length_drop, List.length_map]; exact Nat.le_refl _), List.take_of_length_le (by rw [List.length_drop, List.length_map]; omega)]
        rw [eb] at b
        exact ((a.app b).app (fit_dr bd' (k + 2))).upN (by omega)
    -- one left out
    refine ⟨.int way, rfl, rfl, _, rfl, ite2 (fun _ => ?_) (fun _ => ?_)⟩
    · refine ⟨.int f, rfl, .ref t, rfl, .int (k : Nat), rfl, (k : Int), rfl, slA ht7 fun q8 H8 s8 h8 => ?_⟩
      rw [cut_to] at h8
      refine ⟨.ref t, rfl, .int (k : Nat), rfl, _, _, rfl, rfl, ((k + 1 : Nat) : Int), rfl, slAn (s8 _ _ ht7) fun q13 H13 s13 h13 => ?_⟩
      rw [cut_from] at h13
      refine catA (s13 _ _ h8) h13 ?_ fun q14 H14 s14 h14 => ?_
      · rw [List.length_take, List.length_drop, lm]
        exact Nat.le_trans (show min k ts.length + (ts.length - (k + 1)) ≤ 300 by omega) (by decide)
      refine ⟨sl2, fun r nr => ?_⟩
      have sZ := (s8.trans s13).trans s14
      exact fin H14 q14 r _ _ ((D7.same sZ).mono (by omega)) (fr07.trans (Fr.of sZ)) h14 (((sh_is ts).take' k).append ((sh_is ts).drop (k + 1))) (((fit_tk bd' k hk).app (fit_dr bd' (k + 1))).upN (by omega)) nr
    -- other kinds
    refine ⟨.int way, rfl, rfl, _, rfl, ite2 (fun _ => ?_) (fun _ => ?_)⟩
    · refine ⟨.int f, rfl, .ref t, rfl, t, _, rfl, SqT.of ht7, fun L1 nL1 mL1 => ?_⟩
      have r1 := same_upd (o := (HO.lst (ts.map V.int))) nL1
      have k1 : upd H7 L1 (HO.lst (ts.map V.int)) L1 = some (HO.lst (ts.map V.int)) := upd_same
      generalize upd H7 L1 (HO.lst (ts.map V.int)) = B1 at r1 k1 ⊢
      refine ⟨sl2, fun x1 nx1 => ?_⟩
      have r2 := same_upd (o := (HO.tup [V.int f, V.ref L1])) nx1
      have k2 : upd B1 x1 (HO.tup [V.int f, V.ref L1]) x1 = some (HO.tup [V.int f, V.ref L1]) := upd_same
      generalize upd B1 x1 (HO.tup [V.int f, V.ref L1]) = B2 at r2 k2 ⊢
      refine ⟨.int f, rfl, .ref t, rfl, sl2, fun L2 nL2 mL2 => ?_⟩
      have r3 := same_upd (o := (HO.lst [V.int f, V.ref t])) nL2
      have k3 : upd B2 L2 (HO.lst [V.int f, V.ref t]) L2 = some (HO.lst [V.int f, V.ref t]) := upd_same
      generalize upd B2 L2 (HO.lst [V.int f, V.ref t]) = B3 at r3 k3 ⊢
      refine ⟨.int f, rfl, sl1, fun x3 nx3 => ?_⟩
      have r4 := same_upd (o := (HO.tup [V.int f])) nx3
      have k4 : upd B3 x3 (HO.tup [V.int f]) x3 = some (HO.tup [V.int f]) := upd_same
      generalize upd B3 x3 (HO.tup [V.int f]) = B4 at r4 k4 ⊢
      refine ⟨.int f, rfl, .ref t, rfl, sl3, fun x4 nx4 => ?_⟩
      have r5 := same_upd (o := (HO.tup [V.int f, V.ref t, V.int 0])) nx4
      have k5 : upd B4 x4 (HO.tup [V.int f, V.ref t, V.int 0]) x4 = some (HO.tup [V.int f, V.ref t, V.int 0]) := upd_same
      generalize upd B4 x4 (HO.tup [V.int f, V.ref t, V.int 0]) = B5 at r5 k5 ⊢
      refine ⟨.ref t, rfl, .int f, rfl, sl2, fun x5 nx5 => ?_⟩
      have r6 := same_upd (o := (HO.tup [V.ref t, V.int f])) nx5
      have k6 : upd B5 x5 (HO.tup [V.ref t, V.int f]) x5 = some (HO.tup [V.ref t, V.int f]) := upd_same
      generalize upd B5 x5 (HO.tup [V.ref t, V.int f]) = B6 at r6 k6 ⊢
      refine ⟨by show 5 ≤ sizeLine; decide, fun C nC => ?_⟩
      have r7 := same_upd (o := (HO.lst [V.ref x1, V.ref L2, V.ref x3, V.ref x4, V.ref x5])) nC
      have k7 : upd B6 C (HO.lst [V.ref x1, V.ref L2, V.ref x3, V.ref x4, V.ref x5]) C = some (HO.lst [V.ref x1, V.ref L2, V.ref x3, V.ref x4, V.ref x5]) := upd_same
      generalize upd B6 C (HO.lst [V.ref x1, V.ref L2, V.ref x3, V.ref x4, V.ref x5]) = B7 at r7 k7 ⊢
      have g2 := (((r3.trans r4).trans r5).trans r6).trans r7
      have g1 := (r1.trans r2).trans g2
      have DB := D7.same g1
      have oL1 := D7.out nL1
      have oL2 := (D7.same (r1.trans r2)).out nL2
      have oC := (D7.same (((((r1.trans r2).trans r3).trans r4).trans r5).trans r6)).off nC
      refine ⟨.ref d, rfl, d, l, 5, _, rfl, DB, by omega, by decide, by decide, fun H10 u D10 fr10 u0 u1 => ?_⟩
      have ts10 := Ts.frF DB fr10
      have hid10 : Same (hid [d, l] B7) (hid [d, l] H10) := hid_fr fr10 in_d in_l
      have shT : Sh (hid [d, l] H10) (.ref t) (.tuple (ts.map PyData.int)) := sh_tup D10.da (ts10 _ _ (g1 _ _ ht7)) (sh_is ts)
      have shL : Sh (hid [d, l] H10) (.ref L1) (.list (ts.map PyData.int)) := .lst (hid10 _ _ (by rw [hid_at oL1]; exact g2 _ _ (r2 _ _ k1))) mL1 (sh_is ts)
      have all : ShAll (hid [d, l] H10) [V.ref x1, V.ref L2, V.ref x3, V.ref x4, V.ref x5] [.tuple [.int f, .list (ts.map PyData.int)], .list [.int f, .tuple (ts.map PyData.int)], .tuple [.int f], .tuple [.int f, .tuple (ts.map PyData.int), .int 0], .tuple [.tuple (ts.map PyData.int), .int f]] := by
        refine .cons (sh_tup D10.da (ts10 _ _ (g2 _ _ k2)) (.cons (.int _) (.cons shL .nil))) ?_
        refine .cons (.lst (hid10 _ _ (by rw [hid_at oL2]; exact r7 _ _ (r6 _ _ (r5 _ _ (r4 _ _ k3))))) mL2 (.cons (.int _) (.cons shT .nil))) ?_
        refine .cons (sh_tup D10.da (ts10 _ _ (r7 _ _ (r6 _ _ (r5 _ _ k4)))) (.cons (.int _) .nil)) ?_
        refine .cons (sh_tup D10.da (ts10 _ _ (r7 _ _ (r6 _ _ k5))) (.cons (.int _) (.cons shT (.cons (.int _) .nil)))) ?_
        exact .cons (sh_tup D10.da (ts10 _ _ (r7 _ _ k6)) (.cons shT (.cons (.int _) .nil))) .nil
      have fits : ∀ z ∈ ([.tuple [.int f, .list (ts.map PyData.int)], .list [.int f, .tuple (ts.map PyData.int)], .tuple [.int f], .tuple [.int f, .tuple (ts.map PyData.int), .int 0], .tuple [.tuple (ts.map PyData.int), .int f]] : List PyData), Fit (10 ^ 32) 30000 4 z := by
        intro z hz
        have fa := fit_all2 bd' hl
        have ff : Fit (10 ^ 32) 107 3 (.int f) := fit_i32 f32
        have f0 : Fit (10 ^ 32) 107 3 (.int 0) := fit_i32 ⟨by decide, by decide⟩
        have ft := Fit.tup fa
        have fl := Fit.lst fa
        simp only [List.mem_cons, List.not_mem_nil, or_false] at hz
        rcases hz with rfl | rfl | rfl | rfl | rfl
        · exact (Fit.tup ((FitL.one ff).app (FitL.one fl))).mono (Nat.le_refl _) (by omega) (Nat.le_refl _)
        · exact (Fit.lst ((FitL.one ff).app (FitL.one ft))).mono (Nat.le_refl _) (by omega) (Nat.le_refl _)
        · exact (Fit.tup (FitL.one ff)).mono (Nat.le_refl _) (by omega) (Nat.le_refl _)
        · exact (Fit.tup (((FitL.one ff).app (FitL.one ft)).app (FitL.one f0))).mono (Nat.le_refl _) (by omega) (Nat.le_refl _)
        · exact (Fit.tup ((FitL.one ft).app (FitL.one ff))).mono (Nat.le_refl _) (by omega) (Nat.le_refl _)
      obtain ⟨x, dx, hx, shx, fx⟩ := pick_sh all fits u0 u1
      refine ⟨C, _, u, x, rfl, rfl, SqL.of (fr10 _ _ oC.1 oC.2 k7), hx, ?_⟩
      exact q _ _ _ (D10.mono (by omega)) ((fr07.trans (Fr.of g1)).trans fr10) shx fx
    -- an odd thing
    refine ⟨.int f, rfl, .ref t, rfl, .int (k : Nat), rfl, (k : Int), rfl, slA ht7 fun q8 H8 s8 h8 => ?_⟩
    rw [cut_to] at h8
    refine ⟨odd, rfl, sl1, fun t11 n11 => ?_⟩
    have s11 := same_upd (o := (HO.tup [odd])) n11
    have h11 : upd H8 t11 (HO.tup [odd]) t11 = some (HO.tup [odd]) := upd_same
    generalize upd H8 t11 (HO.tup [odd]) = H11 at s11 h11 ⊢
    refine catA (s11 _ _ h8) h11 ?_ fun q12 H12 s12 h12 => ?_
    · rw [List.length_take, lm]
      exact Nat.le_trans (show _ ≤ 300 by show min k ts.length + 1 ≤ 300; omega) (by decide)
    have ht12 := s12 _ _ (s11 _ _ (s8 _ _ ht7))
    refine ⟨.ref t, rfl, .int (k : Nat), rfl, .int way, rfl, _, _, rfl, rfl, .inr ⟨_, rfl, _, _, rfl, rfl, ?_⟩⟩
    obtain ⟨j, hj, ej⟩ : ∃ j : Nat, k ≤ j ∧ (k : Int) + (if decide (7 < way) = true then 1 else 0) = (j : Int) := by
      by_cases z : 7 < way
      · exact ⟨k + 1, by omega, by rw [if_pos (decide_eq_true z)]; rfl⟩
      · exact ⟨k, Nat.le_refl _, by rw [if_neg (fun y => z (of_decide_eq_true y))]; exact Int.add_zero _⟩
    refine ⟨(j : Int), congrArg V.int ej, slAn ht12 fun q13 H13 s13 h13 => ?_⟩
    rw [cut_from] at h13
    refine catA (s13 _ _ h12) h13 ?_ fun q14 H14 s14 h14 => ?_
    · rw [List.length_append, List.length_take, List.length_drop, lm]
      exact Nat.le_trans (show _ ≤ 600 by show min k ts.length + 1 + (ts.length - j) ≤ 600; omega) (by decide)
    refine ⟨sl2, fun r nr => ?_⟩
    have sZ := (((s8.trans s11).trans s12).trans s13).trans s14
    exact fin H14 q14 r _ _ ((D7.same sZ).mono (by omega)) (fr07.trans (Fr.of sZ)) h14 (sh_mid ts k j (shodd.same (hid_same sZ))) (fit_mid bd' hl hk hj fodd) nr

end
end Gk

set_option Elab.async false
set_option linter.all false
set_option maxRecDepth 100000
set_option maxHeartbeats 1000000
set_option pp.maxSteps 1500
set_option pp.deepTerms false
namespace Gk
open PySem PySem.Spec PyProof.Rows L2
section
variable {P : Program} {w : World} {K : PySem.W.Frag} {mg : Str → Option Value} {base : Heap}
theorem Tabs.frF {H H' : Hp} {Ps : List Addr} {d l : Addr} {n : Int} (t : Tabs H Ps) (D : DeckF H d l n) (f : Fr d l H H') : Tabs H' Ps := fun P hP => tab_frF D f (t P hP)
theorem Tabs.gr {H H' : Hp} {Ps : List Addr} (t : Tabs H Ps) (g : Gr H H') : Tabs H' Ps := fun P hP => g.2 _ (t P hP)
def sp_law (K : PySem.W.Frag) (Ps : List Addr) : Sp := fun vs H Q _ => ∃ (a : Addr) (ns : List Int), vs = [.ref a] ∧ SqL K H a (ns.map V.int) ∧ ns.length ≤ 63 ∧ Tabs H Ps ∧ ∀ H', Q (.bl true) H'
theorem ok_law (T : Tx K mg) (B : Tb base T) : FnG P w K mg base CX0 9 T.f_law T.fd_law ["_law_script"] (sp_law K T.tabs) := by
  refine okG0 T.F_law sc_law (fun vs H Q E h => ?_) (fun cdv A outer s H vs Q E nothing hr h => ?_)
  · obtain ⟨a, ns, rfl, _⟩ := h
    rfl
  · obtain ⟨a, ns, rfl, hS, hlen, tabs, q⟩ := h
    refine ⟨_, (pss_cons (ps_set (i := 1) sc_law.nd rfl (by first | exact .inl rfl | exact .inr rfl) (pe_call (ok_deck T) (hr.mono (by decide)) (by rfl) T.g_deck T.F_deck.kp T.b_deck .nil pass0 (pa_cons (pv 0) pa_nil))) (pss_cons (ps_for PassesOwn.never rfl (pi_range1 (by rfl) T.m_range (pa_cons pe_int pa_nil)) (pg_name (i := 2) sc_law.nd rfl (by first | exact .inl rfl | exact .inr rfl)) (pss_cons (ps_set (i := 3) sc_law.nd rfl (by first | exact .inl rfl | exact .inr rfl) (pe_call (ok_wave T) (hr.mono (by decide)) (by rfl) T.g_wave T.F_wave.kp T.b_wave .nil pass0 (pa_cons (pv 1) pa_nil))) (pss_cons (ps_if (pt_cmpR op_isnot_bl (pe_call (ok_is_wave T B) (hr.mono (by decide)) (by rfl) T.g_is_wave T.F_is_wave.kp T.b_is_wave .nil pass0 (pa_cons (pv 3) pa_nil)) pe_bl (nomark _)) (pss_one (ps_ret pe_bl)) pss_nil) (pss_cons (ps_for PassesOwn.never rfl (pi_range1 (by rfl) T.m_range (pa_cons pe_int pa_nil)) (pg_name (i := 4) sc_law.nd rfl (by first | exact .inl rfl | exact .inr rfl)) (pss_one (ps_if (pt_not (pt_val (pe_callG (ok_right T B) nothing (hr.mono (by decide)) (by rfl) T.g_right T.F_right.kp T.b_right .nil pass0 (pa_cons (pe_call (ok_bent T) (hr.mono (by decide)) (by rfl) T.g_bent T.F_bent.kp T.b_bent .nil pass0 (pa_cons (pv 1) (pa_cons (pv 3) pa_nil))) pa_nil)))) (pss_one (ps_ret pe_bl)) pss_nil))) (pss_one (ps_for PassesOwn.never rfl (pi_list (pe_call (ok_times T) (hr.mono (by decide)) (by rfl) T.g_times T.F_times.kp T.b_times .nil pass0 (pa_cons (pv 1) (pa_cons (pv 3) pa_nil)))) (pg_name (i := 5) sc_law.nd rfl (by first | exact .inl rfl | exact .inr rfl)) (pss_one (ps_if (pt_cmpR op_ne (pe_callB (call_repr nothing hr.units) (by rfl) T.m_repr (by decide +kernel) (pa_cons (pe_call (ok_worth_at T B) (hr.mono (by decide)) (by rfl) T.g_worth_at T.F_worth_at.kp T.b_worth_at .nil pass0 (pa_cons (pv 3) (pa_cons (pv 5) pa_nil))) pa_nil)) (pe_callB (call_repr nothing hr.units) (by rfl) T.m_repr (by decide +kernel) (pa_cons (pe_call (ok_worth T) (hr.mono (by decide)) (by rfl) T.g_worth T.F_worth.kp T.b_worth .nil pass0 (pa_cons (pv 3) (pa_cons (pv 5) pa_nil))) pa_nil)) (nomark _)) (pss_one (ps_ret pe_bl)) pss_nil)))))))) (pss_cons (ps_for PassesOwn.never rfl (pi_list (pe_lst (pa_cons pe_non (pa_cons pe_int (pa_cons pe_bl (pa_cons pe_str (pa_cons (pe_tup pa_nil) (pa_cons (pe_lstN pa_nil) (pa_cons pe_dnewK (pa_cons (pe_tup (pa_cons pe_int (pa_cons (pe_tup pa_nil) pa_nil))) (pa_cons (pe_tup (pa_cons pe_int (pa_cons (pe_tup (pa_cons pe_int pa_nil)) pa_nil))) (pa_cons (pe_tup (pa_cons pe_int (pa_cons pe_int pa_nil))) (pa_cons (pe_tup (pa_cons pe_int (pa_cons pe_str pa_nil))) (pa_cons (pe_tup (pa_cons (pe_tup (pa_cons pe_int pa_nil)) (pa_cons (pe_tup pa_nil) pa_nil))) (pa_cons (pe_tup (pa_cons pe_int (pa_cons (pe_tup (pa_cons (pe_tup (pa_cons pe_int pa_nil)) pa_nil)) pa_nil))) pa_nil))))))))))))))) (pg_name (i := 6) sc_law.nd rfl (by first | exact .inl rfl | exact .inr rfl)) (pss_one (ps_if (pt_not (pt_val (pe_callG (ok_right T B) nothing (hr.mono (by decide)) (by rfl) T.g_right T.F_right.kp T.b_right .nil pass0 (pa_cons (pv 6) pa_nil)))) (pss_one (ps_ret pe_bl)) pss_nil))) (pss_one (ps_ret pe_bl))))), ?_⟩
    refine ⟨.ref a, rfl, a, ns, rfl, hS, hlen, fun H1 d l s1 D1 => ?_⟩
    have t1 : Tabs H1 T.tabs := tabs.gr (Gr.of s1)
    refine ⟨6, rfl, by decide, by decide, for_range (lo := 0) (n := (6 : Int).toNat) (fun i σ H' => ∃ y2 y3 y4 y5 y6, σ = [some (.ref a), some (.ref d), y2, y3, y4, y5, y6] ∧ DeckF H' d l (20000 * i) ∧ Tabs H' T.tabs)
      ⟨_, _, _, _, _, rfl, D1.mono (by omega), t1⟩ ?_ ?_⟩
    · rintro i σ H2 hi ⟨y2, y3, y4, y5, y6, rfl, D2, t2⟩
      have hi' : i < 6 := hi
      refine ⟨.ref d, rfl, d, l, _, rfl, D2, by omega, fun c t f top ts H3 D3 fr3 hc ht hf lt ok htop => ?_⟩
      have t3 := t2.frF D2 fr3
      have shW : Sh H3 (.ref c) (.tuple [.int f, .tuple (ts.map PyData.int)]) := .tup hc (.cons (.int _) (.cons (.tup ht (sh_is ts)) .nil))
      have bd : ∀ x ∈ ts, 0 ≤ x ∧ x < 10000000000000000000000000000000 := fun x hx => by
        have := ok.1 x hx
        omega
      refine ⟨.ref c, rfl, .ref c, _, rfl, shW, t3 _ (by simp [Tx.tabs]), fun H4 g4 => ?_⟩
      rw [isWave_ok hf ok]
      refine ⟨_, _, rfl, rfl, _, rfl, iteF ?_⟩
      replace D3 := D3.gr g4
      replace t3 := t3.gr g4
      replace hc := g4.tup hc
      replace ht := g4.tup ht
      refine ⟨6, rfl, by decide, by decide, for_range (lo := 0) (n := (6 : Int).toNat) (fun j σ H' => ∃ y4 y5 y6, σ = [some (.ref a), some (.ref d), some (.int (0 + (i : Nat))), some (.ref c), y4, y5, y6] ∧ DeckF H' d l (20000 * i + 10000 + 300 * j) ∧ Tabs H' T.tabs ∧ H' c = some (.tup [.int f, .ref t]) ∧ H' t = some (.tup (ts.map V.int)))
        ⟨_, _, _, rfl, D3.mono (by omega), t3, hc, ht⟩ ?_ ?_⟩
      · rintro j σ H5 hj ⟨y4, y5, y6, rfl, D5, t5, hc5, ht5⟩
        have hj' : j < 6 := hj
        refine ⟨.ref d, rfl, .ref c, rfl, d, l, c, t, _, f, ts, rfl, D5, by omega, hc5, ht5, hf, lt, bd, fun v6 H6 d6 D6 fr6 sh6 f6 => ?_⟩
        have ts6 := Ts.frF D5 fr6
        have t6 := t5.frF D5 fr6
        refine ⟨v6, d6, _, _, _, rfl, sh6.same hid_le, f6, by decide, by decide, by decide, t6 _ (by simp [Tx.tabs]), fun H7 g7 => ⟨_, rfl, iteF ?_⟩⟩
        exact ⟨_, _, _, rfl, (D6.gr g7).mono (by push_cast; omega), t6.gr g7, g7.tup (ts6 _ _ hc5), g7.tup (ts6 _ _ ht5)⟩
      rintro σ H5 ⟨y4, y5, y6, rfl, D5, t5, hc5, ht5⟩
      refine ⟨.ref d, rfl, .ref c, rfl, d, l, _, c, t, f, ts, rfl, D5, by show (20000 * (i : Int) + 10000 + 300 * ((6 : Int).toNat : Nat)) < 900000; omega, hc5, ht5, by omega, fun r xs H6 D6 fr6 hr6 => ?_⟩
      have ts6 := Ts.frF D5 fr6
      have t6 := t5.frF D5 fr6
      have hc6 := ts6 _ _ hc5
      have ht6 := ts6 _ _ ht5
      refine ⟨r, rfl, ⟨_, SqL.of hr6⟩, for_list (K := K) (a := r) (xs := xs.map V.int) (fun j σ H' => ∃ y5 y6, σ = [some (.ref a), some (.ref d), some (.int (0 + (i : Nat))), some (.ref c), y4, y5, y6] ∧ Gr H6 H') ⟨_, _, rfl, Gr.refl⟩ (fun j σ H' _ ⟨_, _, _, g⟩ => SqL.of (g.lst hr6)) ?_ ?_⟩
      · rintro j v σ H7 hv ⟨y5, y6, rfl, g7⟩
        obtain ⟨x, hx, rfl⟩ : ∃ u, xs[j]? = some u ∧ v = V.int u := by
          rw [List.getElem?_map] at hv
          obtain ⟨u, hu, e⟩ := Option.map_eq_some_iff.mp hv
          exact ⟨u, hu, e.symm⟩
        have lw : Lit32 (worM f x ts) := by
          unfold worM
          split
          · exact ⟨by decide, by decide⟩
          · exact ⟨by decide, by decide⟩
        obtain ⟨f1, f2, f3⟩ := (fit_i32 (M := 0) lw).fine (by decide) (by decide) (by decide)
        refine ⟨.ref c, rfl, .int x, rfl, c, t, f, x, ts, rfl, g7.tup hc6, g7.tup ht6, hf, by omega, (t6.gr g7) _ (by simp [Tx.tabs]), fun H8 g8 => ?_⟩
        refine ⟨.int (worM f x ts), .int (worM f x ts), rfl, .int _, f1, f2, f3, ?_⟩
        have g78 := g7.trans g8
        refine ⟨.ref c, rfl, .int x, rfl, c, t, f, x, ts, rfl, g78.tup hc6, g78.tup ht6, hf, .int (worM f x ts), .int (worM f x ts), rfl, .int _, f1, f2, f3, rfl, _, rfl, ?_⟩
        rw [decide_eq_true rfl]
        exact iteF ⟨_, _, rfl, g78⟩
      · rintro σ H7 ⟨y5, y6, rfl, g7⟩
        exact ⟨_, _, _, _, _, rfl, (D6.gr g7).mono (by push_cast; show 20000 * (i : Int) + 10000 + 300 * ((6 : Int).toNat : Nat) + 32 ≤ _; omega), t6.gr g7⟩
    rintro σ H2 ⟨y2, y3, y4, y5, y6, rfl, D2, t2⟩
    refine ⟨Nat.zero_le _, fun e1 ne1 => ?_⟩
    have s0 := same_upd (o := (HO.tup [])) ne1
    have h0 : upd H2 e1 (HO.tup []) e1 = some (HO.tup []) := upd_same
    generalize upd H2 e1 (HO.tup []) = A0 at s0 h0 ⊢
    refine ⟨Nat.zero_le _, fun e2 ne2 me2 => ?_⟩
    have s1 := same_upd (o := (HO.lst [])) ne2
    have h1 : upd A0 e2 (HO.lst []) e2 = some (HO.lst []) := upd_same
    generalize upd A0 e2 (HO.lst []) = A1 at s1 h1 ⊢
    refine fun e3 ne3 => ?_
    have s2 := same_upd (o := (HO.dK [])) ne3
    have h2 : upd A1 e3 (HO.dK []) e3 = some (HO.dK []) := upd_same
    generalize upd A1 e3 (HO.dK []) = A2 at s2 h2 ⊢
    refine ⟨Nat.zero_le _, fun e4 ne4 => ?_⟩
    have s3 := same_upd (o := (HO.tup [])) ne4
    have h3 : upd A2 e4 (HO.tup []) e4 = some (HO.tup []) := upd_same
    generalize upd A2 e4 (HO.tup []) = A3 at s3 h3 ⊢
    refine ⟨sl2, fun t4 nt4 => ?_⟩
    have s4 := same_upd (o := (HO.tup [V.int 0, V.ref e4])) nt4
    have h4 : upd A3 t4 (HO.tup [V.int 0, V.ref e4]) t4 = some (HO.tup [V.int 0, V.ref e4]) := upd_same
    generalize upd A3 t4 (HO.tup [V.int 0, V.ref e4]) = A4 at s4 h4 ⊢
    refine ⟨sl1, fun e5 ne5 => ?_⟩
    have s5 := same_upd (o := (HO.tup [V.int 0])) ne5
    have h5 : upd A4 e5 (HO.tup [V.int 0]) e5 = some (HO.tup [V.int 0]) := upd_same
    generalize upd A4 e5 (HO.tup [V.int 0]) = A5 at s5 h5 ⊢
    refine ⟨sl2, fun t5 nt5 => ?_⟩
    have s6 := same_upd (o := (HO.tup [V.int 1, V.ref e5])) nt5
    have h6 : upd A5 t5 (HO.tup [V.int 1, V.ref e5]) t5 = some (HO.tup [V.int 1, V.ref e5]) := upd_same
    generalize upd A5 t5 (HO.tup [V.int 1, V.ref e5]) = A6 at s6 h6 ⊢
    refine ⟨sl2, fun t6 nt6 => ?_⟩
    have s7 := same_upd (o := (HO.tup [V.int 0, V.int 0])) nt6
    have h7 : upd A6 t6 (HO.tup [V.int 0, V.int 0]) t6 = some (HO.tup [V.int 0, V.int 0]) := upd_same
    generalize upd A6 t6 (HO.tup [V.int 0, V.int 0]) = A7 at s7 h7 ⊢
    refine ⟨sl2, fun t7 nt7 => ?_⟩
    have s8 := same_upd (o := (HO.tup [V.int 0, V.str (Str.ofString "0")])) nt7
    have h8 : upd A7 t7 (HO.tup [V.int 0, V.str (Str.ofString "0")]) t7 = some (HO.tup [V.int 0, V.str (Str.ofString "0")]) := upd_same
    generalize upd A7 t7 (HO.tup [V.int 0, V.str (Str.ofString "0")]) = A8 at s8 h8 ⊢
    refine ⟨sl1, fun e8 ne8 => ?_⟩
    have s9 := same_upd (o := (HO.tup [V.int 0])) ne8
    have h9 : upd A8 e8 (HO.tup [V.int 0]) e8 = some (HO.tup [V.int 0]) := upd_same
    generalize upd A8 e8 (HO.tup [V.int 0]) = A9 at s9 h9 ⊢
    refine ⟨Nat.zero_le _, fun e9 ne9 => ?_⟩
    have s10 := same_upd (o := (HO.tup [])) ne9
    have h10 : upd A9 e9 (HO.tup []) e9 = some (HO.tup []) := upd_same
    generalize upd A9 e9 (HO.tup []) = A10 at s10 h10 ⊢
    refine ⟨sl2, fun t8 nt8 => ?_⟩
    have s11 := same_upd (o := (HO.tup [V.ref e8, V.ref e9])) nt8
    have h11 : upd A10 t8 (HO.tup [V.ref e8, V.ref e9]) t8 = some (HO.tup [V.ref e8, V.ref e9]) := upd_same
    generalize upd A10 t8 (HO.tup [V.ref e8, V.ref e9]) = A11 at s11 h11 ⊢
    refine ⟨sl1, fun e10 ne10 => ?_⟩
    have s12 := same_upd (o := (HO.tup [V.int 0])) ne10
    have h12 : upd A11 e10 (HO.tup [V.int 0]) e10 = some (HO.tup [V.int 0]) := upd_same
    generalize upd A11 e10 (HO.tup [V.int 0]) = A12 at s12 h12 ⊢
    refine ⟨sl1, fun e11 ne11 => ?_⟩
    have s13 := same_upd (o := (HO.tup [V.ref e10])) ne11
    have h13 : upd A12 e11 (HO.tup [V.ref e10]) e11 = some (HO.tup [V.ref e10]) := upd_same
    generalize upd A12 e11 (HO.tup [V.ref e10]) = A13 at s13 h13 ⊢
    refine ⟨sl2, fun t9 nt9 => ?_⟩
    have s14 := same_upd (o := (HO.tup [V.int 0, V.ref e11])) nt9
    have h14 : upd A13 t9 (HO.tup [V.int 0, V.ref e11]) t9 = some (HO.tup [V.int 0, V.ref e11]) := upd_same
    generalize upd A13 t9 (HO.tup [V.int 0, V.ref e11]) = A14 at s14 h14 ⊢
    refine ⟨by show 13 ≤ sizeLine; decide, fun C nC => ?_⟩
    have sz := same_upd (o := (HO.lst [V.non, V.int 0, V.bl true, V.str (Str.ofString ""), V.ref e1, V.ref e2, V.ref e3, V.ref t4, V.ref t5, V.ref t6, V.ref t7, V.ref t8, V.ref t9])) nC
    have hz : upd A14 C (HO.lst [V.non, V.int 0, V.bl true, V.str (Str.ofString ""), V.ref e1, V.ref e2, V.ref e3, V.ref t4, V.ref t5, V.ref t6, V.ref t7, V.ref t8, V.ref t9]) C = some (HO.lst [V.non, V.int 0, V.bl true, V.str (Str.ofString ""), V.ref e1, V.ref e2, V.ref e3, V.ref t4, V.ref t5, V.ref t6, V.ref t7, V.ref t8, V.ref t9]) := upd_same
    generalize upd A14 C (HO.lst [V.non, V.int 0, V.bl true, V.str (Str.ofString ""), V.ref e1, V.ref e2, V.ref e3, V.ref t4, V.ref t5, V.ref t6, V.ref t7, V.ref t8, V.ref t9]) = Z at sz hz ⊢
    have z14 : Same A14 Z := sz
    have z13 : Same A13 Z := s14.trans z14
    have z12 : Same A12 Z := s13.trans z13
    have z11 : Same A11 Z := s12.trans z12
    have z10 : Same A10 Z := s11.trans z11
    have z9 : Same A9 Z := s10.trans z10
    have z8 : Same A8 Z := s9.trans z9
    have z7 : Same A7 Z := s8.trans z8
    have z6 : Same A6 Z := s7.trans z7
    have z5 : Same A5 Z := s6.trans z6
    have z4 : Same A4 Z := s5.trans z5
    have z3 : Same A3 Z := s4.trans z4
    have z2 : Same A2 Z := s3.trans z3
    have z1 : Same A1 Z := s2.trans z2
    have z0 : Same A0 Z := s1.trans z1
    have gz : Gr H2 Z := Gr.of (s0.trans z0)
    have ke1 := z0 _ _ h0
    have ke2 := z1 _ _ h1
    have ke3 := z2 _ _ h2
    have ke4 := z3 _ _ h3
    have kt4 := z4 _ _ h4
    have ke5 := z5 _ _ h5
    have kt5 := z6 _ _ h6
    have kt6 := z7 _ _ h7
    have kt7 := z8 _ _ h8
    have ke8 := z9 _ _ h9
    have ke9 := z10 _ _ h10
    have kt8 := z11 _ _ h11
    have ke10 := z12 _ _ h12
    have ke11 := z13 _ _ h13
    have kt9 := z14 _ _ h14
    have all : ShAll Z [V.non, V.int 0, V.bl true, V.str (Str.ofString ""), V.ref e1, V.ref e2, V.ref e3, V.ref t4, V.ref t5, V.ref t6, V.ref t7, V.ref t8, V.ref t9] [.none, .int 0, .bool true, .str (Str.ofString ""), .tuple [], .list [], .dict [], .tuple [.int 0, .tuple []], .tuple [.int 1, .tuple [.int 0]], .tuple [.int 0, .int 0], .tuple [.int 0, .str (Str.ofString "0")], .tuple [.tuple [.int 0], .tuple []], .tuple [.int 0, .tuple [.tuple [.int 0]]]] := by
      have i0 : Sh Z (.int 0) (.int 0) := .int 0
      have i1 : Sh Z (.int 1) (.int 1) := .int 1
      refine .cons .non (.cons i0 (.cons (.bl _) (.cons (.str _) (.cons (.tup ke1 .nil) (.cons (.lst ke2 me2 .nil) (.cons (.dic (kvs := []) ke3 .nil) ?_))))))
      refine .cons (.tup kt4 (.cons i0 (.cons (.tup ke4 .nil) .nil))) ?_
      refine .cons (.tup kt5 (.cons i1 (.cons (.tup ke5 (.cons i0 .nil)) .nil))) ?_
      refine .cons (.tup kt6 (.cons i0 (.cons i0 .nil))) ?_
      refine .cons (.tup kt7 (.cons i0 (.cons (.str _) .nil))) ?_
      refine .cons (.tup kt8 (.cons (.tup ke8 (.cons i0 .nil)) (.cons (.tup ke9 .nil) .nil))) ?_
      exact .cons (.tup kt9 (.cons i0 (.cons (.tup ke11 (.cons (.tup ke10 (.cons i0 .nil)) .nil)) .nil))) .nil
    have fits : ∀ z ∈ ([.none, .int 0, .bool true, .str (Str.ofString ""), .tuple [], .list [], .dict [], .tuple [.int 0, .tuple []], .tuple [.int 1, .tuple [.int 0]], .tuple [.int 0, .int 0], .tuple [.int 0, .str (Str.ofString "0")], .tuple [.tuple [.int 0], .tuple []], .tuple [.int 0, .tuple [.tuple [.int 0]]]] : List PyData), Fit 100 100 10 z := by
      intro z hz
      simp only [List.mem_cons, List.not_mem_nil, or_false] at hz
      rcases hz with rfl | rfl | rfl | rfl | rfl | rfl | rfl | rfl | rfl | rfl | rfl | rfl | rfl
      all_goals exact ⟨by decide, by decide, by decide⟩
    have tz := t2.gr gz
    refine ⟨C, rfl, ⟨_, SqL.of hz⟩, for_list (K := K) (a := C) (fun j σ H' => ∃ y6, σ = [some (.ref a), some (.ref d), y2, y3, y4, y5, y6] ∧ Gr Z H') ⟨_, rfl, Gr.refl⟩ (fun j σ H' _ ⟨_, _, g⟩ => SqL.of (g.lst hz)) ?_ ?_⟩
    · rintro j x σ H7 hx ⟨y6, rfl, g7⟩
      obtain ⟨dd, hdd, shx⟩ := all.get hx
      refine ⟨x, rfl, x, dd, 100, 100, 10, rfl, shx.gr g7, fits dd (List.mem_of_getElem? hdd), by decide, by decide, by decide, (tz.gr g7) _ (by simp [Tx.tabs]), fun H8 g8 => ⟨_, rfl, iteF ?_⟩⟩
      exact ⟨_, rfl, g7.trans g8⟩
    rintro σ H7 ⟨y6, rfl, g7⟩
    exact q H7

end
def d_is_whole : He.DefD := ⟨("is_whole", none), "is_whole", "is_whole", defArgs s_is_whole, defBody s_is_whole, defScope s_is_whole, [], []⟩
def d_is_worth : He.DefD := ⟨("is_worth", none), "is_worth", "is_worth", defArgs s_is_worth, defBody s_is_worth, defScope s_is_worth, [], []⟩
def d_is_wave : He.DefD := ⟨("is_wave", none), "is_wave", "is_wave", defArgs s_is_wave, defBody s_is_wave, defScope s_is_wave, [], []⟩
def d_worth_at : He.DefD := ⟨("worth_at", none), "worth_at", "worth_at", defArgs s_worth_at, defBody s_worth_at, defScope s_worth_at, [], []⟩
def d_mixed : He.DefD := ⟨("_law_mixed", none), "_law_mixed", "_law_mixed", defArgs s_mixed, defBody s_mixed, defScope s_mixed, [], []⟩
def d_deck : He.DefD := ⟨("_law_deck", none), "_law_deck", "_law_deck", defArgs s_deck, defBody s_deck, defScope s_deck, [], []⟩
def d_draw : He.DefD := ⟨("_law_draw", none), "_law_draw", "_law_draw", defArgs s_draw, defBody s_draw, defScope s_draw, [], []⟩
def d_l_is_whole : He.DefD := ⟨("_law_is_whole", none), "_law_is_whole", "_law_is_whole", defArgs s_l_is_whole, defBody s_l_is_whole, defScope s_l_is_whole, [], []⟩
def d_is : He.DefD := ⟨("_law_is", none), "_law_is", "_law_is", defArgs s_is, defBody s_is, defScope s_is, [], []⟩
def d_wave : He.DefD := ⟨("_law_wave", none), "_law_wave", "_law_wave", defArgs s_wave, defBody s_wave, defScope s_wave, [], []⟩
def d_bent : He.DefD := ⟨("_law_bent", none), "_law_bent", "_law_bent", defArgs s_bent, defBody s_bent, defScope s_bent, [], []⟩
def d_worth : He.DefD := ⟨("_law_worth", none), "_law_worth", "_law_worth", defArgs s_worth, defBody s_worth, defScope s_worth, [], []⟩
def d_times : He.DefD := ⟨("_law_times", none), "_law_times", "_law_times", defArgs s_times, defBody s_times, defScope s_times, [], []⟩
def d_right : He.DefD := ⟨("_law_right", none), "_law_right", "_law_right", defArgs s_right, defBody s_right, defScope s_right, [], []⟩
def d_law : He.DefD := ⟨("law", none), "law", "law", defArgs s_law, defBody s_law, defScope s_law, [], []⟩
def fn : List He.DefD := [d_is_whole, d_is_worth, d_is_wave, d_worth_at, d_mixed, d_deck, d_draw, d_l_is_whole, d_is, d_wave, d_bent, d_worth, d_times, d_right, d_law]
def fa : List He.Fa := [.glo "is_whole", .glo "is_worth", .glo "is_wave", .glo "worth_at", .glo "_law_mixed", .glo "_law_deck", .glo "_law_draw", .glo "_law_is_whole", .glo "_law_is", .glo "_law_wave", .glo "_law_bent", .glo "_law_worth", .glo "_law_times", .glo "_law_right", .glo "law", .free "all", .free "bool", .free "int", .free "isinstance", .free "len", .free "list", .free "max", .free "range", .free "repr", .free "sum", .free "tuple", .free "zip"]
def tf : List He.Defn := [("is_wave", none), ("worth_at", none)]
abbrev RR : PySem.W.OpenRow := PySem.W.OpenLaw.row PySem.Challenge.rw_glitchnet_k08_waves
def yes : PySem.W.Frag → Bool := fun _ => true
abbrev hk : PySem.W.Hook := He.hookX 4 fa fn [] tf yes
def ob (s : PySem.W.SharedT) : He.AlX := He.obsX 4 fa fn [] tf yes (HandSHeadRun.getT s)
theorem ob_eq (s : PySem.W.SharedT) : ob s = hk.obs s.abs := He.obsX_eq (HandSHeadRun.getT_eq s)
theorem run (w : World) : HandSHeadRun.RunEq RR (PySem.W.view RR.prog [17]) hk ob 3000 [("is_whole" : PySem.Str), ("is_worth" : PySem.Str), ("is_wave" : PySem.Str), ("worth_at" : PySem.Str), ("_law_mixed" : PySem.Str), ("_law_deck" : PySem.Str), ("_law_draw" : PySem.Str), ("_law_is_whole" : PySem.Str), ("_law_is" : PySem.Str), ("_law_wave" : PySem.Str), ("_law_bent" : PySem.Str), ("_law_worth" : PySem.Str), ("_law_times" : PySem.Str), ("_law_right" : PySem.Str)] w := by
  intro os
  kernel_rfl
theorem facts {w : World} {K : PySem.W.Frag} {h : Heap} {mg : Str → Option Value} {f : Addr} (X : K.In h) (G : h.Ns mainGlobals mg) (hfa : mg ("law" : Str) = some (.ref f)) (c : He.SaysX fa fn [] tf yes w h K) : LawAtG PySem.Challenge.rw_glitchnet_k08_waves w K CX0 9 63 "_law_script" mg f h := by
  obtain ⟨fd0, D0⟩ := c.t.d.def_ 0 (d := d_is_whole) rfl
  have F0 : Fun K "is_whole" "is_whole" s_is_whole (He.fAd K ("is_whole", none)) fd0 := fun_of D0
  have b0 := F0.binds (ps := ["thing"]) fun _ _ _ _ _ _ us hl => match us, hl with | [_], _ => rfl
  obtain ⟨fd1, D1⟩ := c.t.d.def_ 1 (d := d_is_worth) rfl
  have F1 : Fun K "is_worth" "is_worth" s_is_worth (He.fAd K ("is_worth", none)) fd1 := fun_of D1
  have b1 := F1.binds (ps := ["thing"]) fun _ _ _ _ _ _ us hl => match us, hl with | [_], _ => rfl
  obtain ⟨fd2, D2⟩ := c.t.d.def_ 2 (d := d_is_wave) rfl
  have F2 : Fun K "is_wave" "is_wave" s_is_wave (He.fAd K ("is_wave", none)) fd2 := fun_of D2
  have b2 := F2.binds (ps := ["thing"]) fun _ _ _ _ _ _ us hl => match us, hl with | [_], _ => rfl
  obtain ⟨fd3, D3⟩ := c.t.d.def_ 3 (d := d_worth_at) rfl
  have F3 : Fun K "worth_at" "worth_at" s_worth_at (He.fAd K ("worth_at", none)) fd3 := fun_of D3
  have b3 := F3.binds (ps := ["wave", "time"]) fun _ _ _ _ _ _ us hl => match us, hl with | [_, _], _ => rfl
  obtain ⟨fd4, D4⟩ := c.t.d.def_ 4 (d := d_mixed) rfl
  have F4 : Fun K "_law_mixed" "_law_mixed" s_mixed (He.fAd K ("_law_mixed", none)) fd4 := fun_of D4
  have b4 := F4.binds (ps := ["_law_number"]) fun _ _ _ _ _ _ us hl => match us, hl with | [_], _ => rfl
  obtain ⟨fd5, D5⟩ := c.t.d.def_ 5 (d := d_deck) rfl
  have F5 : Fun K "_law_deck" "_law_deck" s_deck (He.fAd K ("_law_deck", none)) fd5 := fun_of D5
  have b5 := F5.binds (ps := ["_law_script"]) fun _ _ _ _ _ _ us hl => match us, hl with | [_], _ => rfl
  obtain ⟨fd6, D6⟩ := c.t.d.def_ 6 (d := d_draw) rfl
  have F6 : Fun K "_law_draw" "_law_draw" s_draw (He.fAd K ("_law_draw", none)) fd6 := fun_of D6
  have b6 := F6.binds (ps := ["_law_deck_here", "_law_most"]) fun _ _ _ _ _ _ us hl => match us, hl with | [_, _], _ => rfl
  obtain ⟨fd7, D7⟩ := c.t.d.def_ 7 (d := d_l_is_whole) rfl
  have F7 : Fun K "_law_is_whole" "_law_is_whole" s_l_is_whole (He.fAd K ("_law_is_whole", none)) fd7 := fun_of D7
  have b7 := F7.binds (ps := ["_law_thing"]) fun _ _ _ _ _ _ us hl => match us, hl with | [_], _ => rfl
  obtain ⟨fd8, D8⟩ := c.t.d.def_ 8 (d := d_is) rfl
  have F8 : Fun K "_law_is" "_law_is" s_is (He.fAd K ("_law_is", none)) fd8 := fun_of D8
  have b8 := F8.binds (ps := ["_law_thing"]) fun _ _ _ _ _ _ us hl => match us, hl with | [_], _ => rfl
  obtain ⟨fd9, D9⟩ := c.t.d.def_ 9 (d := d_wave) rfl
  have F9 : Fun K "_law_wave" "_law_wave" s_wave (He.fAd K ("_law_wave", none)) fd9 := fun_of D9
  have b9 := F9.binds (ps := ["_law_deck_here"]) fun _ _ _ _ _ _ us hl => match us, hl with | [_], _ => rfl
  obtain ⟨fd10, D10⟩ := c.t.d.def_ 10 (d := d_bent) rfl
  have F10 : Fun K "_law_bent" "_law_bent" s_bent (He.fAd K ("_law_bent", none)) fd10 := fun_of D10
  have b10 := F10.binds (ps := ["_law_deck_here", "_law_wave_here"]) fun _ _ _ _ _ _ us hl => match us, hl with | [_, _], _ => rfl
  obtain ⟨fd11, D11⟩ := c.t.d.def_ 11 (d := d_worth) rfl
  have F11 : Fun K "_law_worth" "_law_worth" s_worth (He.fAd K ("_law_worth", none)) fd11 := fun_of D11
  have b11 := F11.binds (ps := ["_law_wave_here", "_law_time"]) fun _ _ _ _ _ _ us hl => match us, hl with | [_, _], _ => rfl
  obtain ⟨fd12, D12⟩ := c.t.d.def_ 12 (d := d_times) rfl
  have F12 : Fun K "_law_times" "_law_times" s_times (He.fAd K ("_law_times", none)) fd12 := fun_of D12
  have b12 := F12.binds (ps := ["_law_deck_here", "_law_wave_here"]) fun _ _ _ _ _ _ us hl => match us, hl with | [_, _], _ => rfl
  obtain ⟨fd13, D13⟩ := c.t.d.def_ 13 (d := d_right) rfl
  have F13 : Fun K "_law_right" "_law_right" s_right (He.fAd K ("_law_right", none)) fd13 := fun_of D13
  have b13 := F13.binds (ps := ["_law_thing"]) fun _ _ _ _ _ _ us hl => match us, hl with | [_], _ => rfl
  obtain ⟨fd14, D14⟩ := c.t.d.def_ 14 (d := d_law) rfl
  have F14 : Fun K "law" "law" s_law (He.fAd K ("law", none)) fd14 := fun_of D14
  have b14 := F14.binds (ps := ["_law_script"]) fun _ _ _ _ _ _ us hl => match us, hl with | [_], _ => rfl
  have e := hfa.symm.trans (He.glo_ok X G (c.t.d.fact 14 (f := .glo "law") rfl))
  cases e
  let T : Tx K mg := { f_is_whole := _, fd_is_whole := _, F_is_whole := F0, g_is_whole := He.glo_ok X G (c.t.d.fact 0 (f := .glo "is_whole") rfl), b_is_whole := b0, f_is_worth := _, fd_is_worth := _, F_is_worth := F1, g_is_worth := He.glo_ok X G (c.t.d.fact 1 (f := .glo "is_worth") rfl), b_is_worth := b1, f_is_wave := _, fd_is_wave := _, F_is_wave := F2, g_is_wave := He.glo_ok X G (c.t.d.fact 2 (f := .glo "is_wave") rfl), b_is_wave := b2, c_is_wave := (He.cT K ("is_wave", none)).1, P_is_wave := (He.cT K ("is_wave", none)).2, cd_is_wave := code_of F2, f_worth_at := _, fd_worth_at := _, F_worth_at := F3, g_worth_at := He.glo_ok X G (c.t.d.fact 3 (f := .glo "worth_at") rfl), b_worth_at := b3, c_worth_at := (He.cT K ("worth_at", none)).1, P_worth_at := (He.cT K ("worth_at", none)).2, cd_worth_at := code_of F3, f_mixed := _, fd_mixed := _, F_mixed := F4, g_mixed := He.glo_ok X G (c.t.d.fact 4 (f := .glo "_law_mixed") rfl), b_mixed := b4, f_deck := _, fd_deck := _, F_deck := F5, g_deck := He.glo_ok X G (c.t.d.fact 5 (f := .glo "_law_deck") rfl), b_deck := b5, f_draw := _, fd_draw := _, F_draw := F6, g_draw := He.glo_ok X G (c.t.d.fact 6 (f := .glo "_law_draw") rfl), b_draw := b6, f_l_is_whole := _, fd_l_is_whole := _, F_l_is_whole := F7, g_l_is_whole := He.glo_ok X G (c.t.d.fact 7 (f := .glo "_law_is_whole") rfl), b_l_is_whole := b7, f_is := _, fd_is := _, F_is := F8, g_is := He.glo_ok X G (c.t.d.fact 8 (f := .glo "_law_is") rfl), b_is := b8, f_wave := _, fd_wave := _, F_wave := F9, g_wave := He.glo_ok X G (c.t.d.fact 9 (f := .glo "_law_wave") rfl), b_wave := b9, f_bent := _, fd_bent := _, F_bent := F10, g_bent := He.glo_ok X G (c.t.d.fact 10 (f := .glo "_law_bent") rfl), b_bent := b10, f_worth := _, fd_worth := _, F_worth := F11, g_worth := He.glo_ok X G (c.t.d.fact 11 (f := .glo "_law_worth") rfl), b_worth := b11, f_times := _, fd_times := _, F_times := F12, g_times := He.glo_ok X G (c.t.d.fact 12 (f := .glo "_law_times") rfl), b_times := b12, f_right := _, fd_right := _, F_right := F13, g_right := He.glo_ok X G (c.t.d.fact 13 (f := .glo "_law_right") rfl), b_right := b13, f_law := _, fd_law := _, F_law := F14, g_law := He.glo_ok X G (c.t.d.fact 14 (f := .glo "law") rfl), b_law := b14, m_all := He.free_ok X G (c.t.d.fact 15 (f := .free "all") rfl), m_bool := He.free_ok X G (c.t.d.fact 16 (f := .free "bool") rfl), m_int := He.free_ok X G (c.t.d.fact 17 (f := .free "int") rfl), m_isinstance := He.free_ok X G (c.t.d.fact 18 (f := .free "isinstance") rfl), m_len := He.free_ok X G (c.t.d.fact 19 (f := .free "len") rfl), m_list := He.free_ok X G (c.t.d.fact 20 (f := .free "list") rfl), m_max := He.free_ok X G (c.t.d.fact 21 (f := .free "max") rfl), m_range := He.free_ok X G (c.t.d.fact 22 (f := .free "range") rfl), m_repr := He.free_ok X G (c.t.d.fact 23 (f := .free "repr") rfl), m_sum := He.free_ok X G (c.t.d.fact 24 (f := .free "sum") rfl), m_tuple := He.free_ok X G (c.t.d.fact 25 (f := .free "tuple") rfl), m_zip := He.free_ok X G (c.t.d.fact 26 (f := .free "zip") rfl) }
  refine ⟨fd14, tf.map (He.cT K), sp_law K T.tabs, ?_, ?_, ?_, ?_, ?_, ?_⟩
  · rintro p hp
    obtain ⟨d, hd, rfl⟩ := List.mem_map.mp hp
    exact c.empty d hd
  · rintro p hp
    obtain ⟨d, hd, rfl⟩ := List.mem_map.mp hp
    exact c.out d hd
  · rintro p hp
    obtain ⟨d, hd, rfl⟩ := List.mem_map.mp hp
    exact PySem.W.codeHd_of_K X (c.hd d hd)
  · obtain ⟨oc, od, kV, doc, pm, an, cdv, ct, osl, rfl, lk, hcd⟩ := F14.ex
    exact fun s v => .of_eq rfl
  · intro H a ns hl hbits hT hS
    refine ⟨a, ns, rfl, hS, hl, fun P hP => ?_, fun _ => rfl⟩
    have hP : P ∈ (tf.map (He.cT K)).map (·.2) := hP
    obtain ⟨p, hp, rfl⟩ := List.mem_map.mp hP
    exact ⟨#[], hT p hp, by trivial⟩
  · intro base KB GB hTB
    have B : Tb base T := ⟨tab_of (hTB (He.cT K ("is_wave", none)) (List.mem_map.mpr ⟨_, (show (("is_wave", none) : He.Defn) ∈ tf by decide), rfl⟩)), tab_of (hTB (He.cT K ("worth_at", none)) (List.mem_map.mpr ⟨_, (show (("worth_at", none) : He.Defn) ∈ tf by decide), rfl⟩))⟩
    exact ok_law T B
end Gk
open PySem PySem.W PyProof.Rows
set_option maxRecDepth 100000 in
set_option maxHeartbeats 0 in
theorem PySem.Challenge.cw_glitchnet_k08_waves_holds : PySem.Challenge.rw_glitchnet_k08_waves.Holds := by
  w_on; o_law
  refine HandSHeadRun.head_any (r := OpenLaw.row PySem.Challenge.rw_glitchnet_k08_waves) (q := view (OpenLaw.row PySem.Challenge.rw_glitchnet_k08_waves).prog [17]) (H := Gk.hk) (ob := Gk.ob) (M := 3000) (loose := [("is_whole" : PySem.Str), ("is_worth" : PySem.Str), ("is_wave" : PySem.Str), ("worth_at" : PySem.Str), ("_law_mixed" : PySem.Str), ("_law_deck" : PySem.Str), ("_law_draw" : PySem.Str), ("_law_is_whole" : PySem.Str), ("_law_is" : PySem.Str), ("_law_wave" : PySem.Str), ("_law_bent" : PySem.Str), ("_law_worth" : PySem.Str), ("_law_times" : PySem.Str), ("_law_right" : PySem.Str)]) (d := HandSHeadRun.topDef (OpenLaw.row PySem.Challenge.rw_glitchnet_k08_waves).prog 17) (kwd := []) Gk.ob_eq
    (by kernel_rfl) (fun s => by kernel_rfl) Gk.run (by kernel_rfl) (by kernel_rfl) (by kernel_rfl) (by rfl) (by first | assumption | decide +kernel) (by decide +kernel) ⟨rfl, rfl, rfl, rfl, rfl, by decide +kernel⟩ ?hw ?hc
  case hw => w_witness2
  case hc =>
    refine Gk.walk_GT (l := PySem.Challenge.rw_glitchnet_k08_waves) (n := 63) (k := 9) (x := "_law_script") (CX := fun _ => L2.CX0) rfl (by decide) (by kernel_rfl) ⟨rfl, by decide, by decide⟩ ?F (fun _ _ _ _ _ z => z)
    intro w mg fa h Y G hmg0
    obtain ⟨K, KX, c⟩ := Y
    have hmg : mg ("law" : PySem.Str) = some (.ref fa) := by
      have e : (HandSHeadRun.topDef (OpenLaw.row PySem.Challenge.rw_glitchnet_k08_waves).prog 17).name = ("law" : PySem.Str) := by kernel_rfl
      rw [← e]
      exact hmg0
    exact ⟨K, KX, Gk.facts KX G hmg c⟩
